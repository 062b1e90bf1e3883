import PyProof.Rows.All
import Wide.All
import OpenK.AllK
import Wide.FinOn
import Lean
import PyProof.EqAt
import PyProof.EqKinds
import PyProof.TupleCall
import PyProof.ZipIter
import PyProof.Rows.ZipGen
import PyProof.ConsumeWalk
import PyProof.SumWalk
import PyProof.StationsW
import PyProof.ExcClass2
import PyProof.InstStore
import PyProof.ExcArgsOwn
import PyProof.RulesAs
import PyProof.RulesDel
import PyProof.InstStoreFacts
import PyProof.ExcAttrAll.ValueError
import PyProof.ReprStr
import PyProof.StrLawsRepr
import PyProof.IsiBase
import KE.KTryMore
import PyProof.EnumMake
import PyProof.EnumFor
import PyProof.NeKinds
import PyProof.EnumIter
import PyProof.AutoIntG2
import PyProof.FactsAll.int_0
import PyProof.FactsAll.int_6
import PyProof.Rows.BitMore
import KE.BitLaws
import PyProof.TupleKey
import KE.KRevIter
import PyProof.SetKind
import PyProof.IsRules
import PyProof.Rows.SetFrom
import KE.KDictList
import PyProof.SetRoads
import PyProof.WalksMore
import PyProof.Rows.SortShell
import KE.KSortTup
import PyProof.DictRoadsH
import PyProof.AttrMissHeap
import KE.KDictOf
import PyProof.CompMap
import PyProof.Rows.Range3
import KE.RegKIsAll
import KE.RegKTryMore
import PySem.Challenge.RW_switchsay_k23_done_and_so
local macro_rules
  | `(tactic| obtain $p:rcasesPatMed := $t) => `(tactic| (refine Classical.byContradiction fun hG_ => ?_; obtain $p:rcasesPatMed : _ := $t; all_goals refine hG_ ?_))
set_option Elab.async false
set_option compiler.extract_closed false
set_option linter.all false
set_option maxRecDepth 100000
open PySem renaming wpAny_bind->aA,Value->aB,Shared->aG,wpAny->aM,Program->aP,mainGlobals->aQ,World->aW,model->aX,FuncData->bX,Around->cQ,starEach->cW,intKind->eF,wpAny_field->eI,SetTable->eK,IsTupleKey->eQ,wpAny_call_entry->fV,wpAny_setField_rec->fX,wpAny_callSpecial?_slot->gC,boot_len->gF,wpAny_holding->gH,wpAny_newObj_type->gJ,Scope->gM,wpAny_loadPart_at->gQ,sizeLine_eq->gS,wpAny_mono->iD,cLine->iK,wpAny_pyIter_list->iM,excClassObj->iS,Builtin->iW,wpAny_seqItems->jC,rawInt->jF,bootBuiltins->jI,backTo->jJ,wpAny_setState_of->jQ,wpAny_Call_Name_kw->jW,binaryOp->kZ,pyNext->lE,IsEnum->lG,wpAny_isInstance->lJ,sysModules->lR,wpAny_specialOf->lT,wpAny_truthy_bool->lY,compareOp->lZ,mem_of_lookup->mX,wpAny_isSubtype_exc->nA,wpAny_setField->nB,checkBuiltinCall->nC,wpAny_forIn_list->nF,codeAny_mono->nJ,wpAny_passesOwn->nM,wpAny_standAt->nU,wpAny_attempt->nX,wpAny_getItem_str_slice->oP,codeAny->oQ,attributeBase->oR,wpAny_pyIter_tuple->oU,atKey->oZ,codeAny_builtin->pE,wpAny_nextOf_list_item->pH,relabel->pK,GenState->pP,assignEach->pQ,typeLookup->pT,call_meets->pU,wpAny_askSetting->qA,IsPair->qE,sliceBounds->qI,ExcBaseFacts->qW,IsEnumOut->qY,wpAny_eqBool_tuple->rB,holding->rF,getItem->rG,wpAny_rule->rJ,wpAny_pyIter_enum->rV,keywordEach->rY,behindInMarks->sI,wpAny_onRaise->sJ,wpAny_nextOf_list_end->sW,isSubtype_tuple_tuple->sX,Model->sY,wpAny_execs_nil->sZ,letOwnedTupleGo->tI,wpAny_call->tJ,wpAny_typeOf->tK,post_val_or_str->tO,codeAny_call_builtin->tP,wpAny_updateSeq_pair->tR,wpAny_setEntries_of->tY,firstArgMember->uE,reprText->uG,wpAny_newTuple->uH,isSubtype_stop->uI,wpAny_letGo->uL,IsZip->uM,swapsWith->uP,assign->uQ,tupleKind_room_in1->uT,wpAny_tupleItemsOf->uU,wpAny_newList->uY,foldedSetIterable->vA,ofAClassStatement->vF,typeIs_int->vI,isInstance->vJ,standAt->vK,Keyword->vL,callerA->vM,valueAt->vN,wpAny_lookBehind->vO,pastItsLine_dict->vP,bindArgs->vQ,backToKw->vR,NameKind->vS,noFill_tuple_add->vT,IsPart->vU,preSum->vX,evalEach->vY,tupleKind->wB,getMethod->wC,codeAny_of_tree->wH,eqIsQuiet->wJ,subscripted->wM,unsupported->wN,isTrue->wQ,BindsTo->wR,refuseLoop_ref->wS,isSubtype_type->wU,bindL->wW,bindC->wX,PlainAttrs->wY,setField->wZ,ZipApart->xA,seq_tuple_add->xB,evalPart_none->xC,strLen_append->xE,Within->xI,inplaceOp->xJ,wpAny_nsSet1->xK,Result->xL,concat_meets->xP,argsOk->xR,callType_new->xS,tupleKeyHash->xV,pickOrder->xX,putSet_of->xY,spliced->yC,seqIndex_of->yF,wpAny_of_eq->yG,hashByValue->yI,newTuple->yK,builtinsNs->yM,Drawn->yN,wpAny_Name->yO,pyIter->yP,typeIs_str->yQ,call->yU,closureFor->yV,refuseLoop->yX,setsByText->yZ,setAttr->zA,OsState->zB,storedH->zC
open PySem.W renaming Frag->aC,nsIn->aR,keepIn->aV,findIn->cH,fnOf->gT,kia_one->iJ,emptyDict->jO,codeIn->kX,kas_rev->lP,instObj->lS,specialIn->nY,isFn->oG,kas_sort->oM,callWith_K->oW,kas_desc->pI,kas_place->pN,plainGet->pR,looks_findIn->pS,readsIn->qM,findCls->qN,kas_asc->rN,hasDictIn->rR,OpenLaw->sF,methodCall_KW->sR,kas_descPart->tV,plainGet_of->tW,lookIn->uA,kitOne->uB,methodObj->uZ,plainOver->vB,kitx_list->vC,takerIn->wD,makesIn->wE,kas_bin->wV,kas_rev_size->xZ,kas_tail3->yA,kas_count->yB
open List renaming length_map->aI,getElem?_eq_getElem->aK,getElem?_eq_some_iff->aL,length_append->aO,size_toArray->aS,mem_cons->aU,mem_singleton->aY,mem_of_getElem?->bK,mem_cons_of_mem->cC,mem_cons_self->cJ,map_append->cU,length_cons->cX,getElem?_map->cY,length_take->dJ,replicate->dQ,getElem?_append_left->eB,mem_append->eC,range->eE,take_add_one->eJ,map_cons->eO,length_singleton->eX,not_mem_nil->eY,take_length->eZ,mem_append_right->fK,getElem?_append_right->fZ,getD_eq_getElem?_getD->gI,length_reverse->gL,length_replicate->gO,length_range->gR,contains_cons->gU,filterMap_cons->gZ,length_drop->hX,length_eq_zero_iff->iB,mem_range->iI,nodup_cons->iQ,replicate_succ->iX,reverse_cons->iZ,mem_map->jD,toArray->jE,getElem?_of_mem->jG,nodup_nil->jN,flatMap_cons->jP,drop_eq_getElem_cons->jS,length_filter_le->jU,getElem?_eq_none->jV,idxOf_lt_length_iff->kK,mem_filter->lA,append_nil->lB,findSome?_cons->lC,take_of_length_le->lF,map_reverse->lK,filter_cons->lM,pairwise_cons->lN,filter_append->lO,range_succ->lU,mem_of_mem_take->lX,getElem?_replicate->mK,lookup->nG,eq_nil_or_concat->nO,concat_eq_append->nP,find?_cons->nQ,take_append_drop->nS,flatten_cons->nZ,mem_append_left->oB,reverse_reverse->oC,getElem_toArray->oE,all_eq_true->oK,flatMap_append->oN,getElem?_range->oO,getElem_idxOf->pC,append_assoc->pJ,filterMap_append->pL,getElem_mem->pW,any_cons->qD,reverse_append->qJ,length_nil->qL,map_map->rA,pairwise_singleton->rP,ext_getElem?->rX,drop_length->sM,cons_append->sO,getElem?_reverse->sS,foldl_cons->tL,sum_append->tQ,drop_zero->uF,map_nil->vV,sum_reverse->wA,of_mem_zip->wF,length_set->wG,filter_nil->wK,all_cons->xD,map_drop->xF,foldl->yS
open PySem.Heap renaming get?_push_of_some->aJ,lt_size->aZ,get?_push_size->bV,SameBut->gG,size_push->gK,get?_update_self->gY,get?_update_other->jM,get?_none_of_le->pO,get?_update_ne->tX,ExtBut->uK,IsList->yH
open Nat renaming le_refl->aN,le_trans->bQ,ne_of_lt->cK,lt_of_lt_of_le->eG,zero_le->eV,ne_of_gt->gN,add_comm->jB,lt_irrefl->jH,lt_trans->jK,lt_of_le_of_lt->jY,testBit_succ->jZ,le_of_lt->lD,not_lt_zero->nR,lt_succ_self->oH,testBit_and->pA,mod_lt->pB,eq_of_testBit_eq->pX,pow_le_pow_right->pY,mul_comm->qU,pow_succ->qZ,lt_succ_of_lt->rW,add_assoc->sK,le_of_not_lt->sL,le_add_right->sQ,two_pow_pos->tS,le_succ->uJ,mul_assoc->uW,lt_of_succ_lt->vG,zero_add->vZ,sub_zero->xT,succ_pos->xU
open Bool renaming false_ne_true->bZ,false_eq_true->cZ,and_eq_true->hZ,not_true->lH,or_true->nK,eq_iff_iff->oV,and_false->rH,or_eq_true->tU,and_true->uX,and_self->xG
open Or renaming inl->cD,inr->mZ
open PySem.Value renaming ref->cE,none->gP,isInt->jL,int->nI,type->rC,str->uO,bool->vH,float->yE
open Array renaming getElem?_eq_getElem->dX,getElem?_toList->dZ,getD_eq_getD_getElem?->eP,length_toList->gA,getElem?_eq_some_iff->iA,forIn_toList->pD,getElem?_eq_none_iff->qH,replicate->wI
open Option.some renaming inj->eA
open PySem.PassesOwn renaming never->eU
open PySem.F renaming plainAttrs_list->fQ,slot_list_append->lV,type_list_append->lW,slot_list_index->mQ,args_tuple_add_2->qS,entry_tuple_add->rO,type_list_index->rQ,slot_tuple_add->sC,slot_list_pop->sU,type_list_pop->sV
open PySem.Builtin.SmallTypes renaming ownedTupleIsFree->gB,ownedTupleHandOut->gX,nextOf->iG
open Int renaming toNat_natCast->gE,natCast_nonneg->uS,one_mul->wP
open PySem.Str renaming ofString->iC,empty->xM
open PySem.Builtin.Slice renaming slicePlaces->iE,sliceAdjust->jR,sliceApplied->nW
open PySem.Obj renaming data_mapFields->iH,mapSeq->iR,isFreed_of_fields->nN,mapFields->oS,putSet->qB,cls_mapFields->rT
open PyProof.Rows renaming callWith_type1->iL,seqObj->iN,slot_tuple_getitem->lQ,callWith_builtin1->oX,units_in1->pG,AllBare->rE,envOfC->rZ,subscriptTail_builtinR->sE,slicePart_none->uC,mirror_perm->uN,subscriptTail->uV,listUpdate_at->xH,IntsAre->yD,seqEpoch_at->yJ,IsTup->yL,bubble->yY
open False renaming elim->iO
open Option renaming map_eq_some_iff->iU,isSome_iff_exists->oJ,none_or->pM,map_some->qO,map->rK,isSome_map->vE
open PySem.Heap.SameBut renaming update->iY,refl->vD
open PySem.Builtin.Tuple renaming tupleExact->jA,tupleHashOf->jT,tupleItemsOf->qC
open PySem.Builtin.List renaming listTooLong->jX
open True renaming intro->kQ
open PyProof.Rows.F renaming plain_set_update_loop->nL
open PySem.Builtin renaming bitOr->nV,bitAnd->oF,bitXor->tZ,bitNot->wT
open List.Pairwise renaming nil->oA
open PySem.Txt renaming slice->oY,slice_le->vW
open PySem.SetTable renaming sizeAbove->pF,grown->rM
open PySem.Heap.IsList renaming push->pV
open PySem.Around renaming under_plainId->pZ,under->xN
open List.cons renaming inj->qG
open PySem.Builtin.Int renaming intBits->qK
open Classical renaming byContradiction->qQ
open PySem.Calls renaming spliced_cons->qR,spliced_nil->rS
open PySem.Code renaming quiet_builtin->qX,isFrame->xO
open List.Perm renaming refl->rL
open ForInStep renaming yield->tM
open PySem.Data renaming cell->uR,fields->wL,seq->zP
open PySem.Shared renaming heap->wO
open PyProof.Rows.IsTup renaming new->xQ
open PySem.pickOrder renaming go->xW
open PySem.SeqAt renaming EqAt->yR
open PySem.Walks renaming list->yW
open Iff renaming rfl->zD
namespace L2
open PySem PySem.Spec PyProof.Rows
abbrev Key:=Sum Int Str
def va:Key->aB->Bool
 | .inl k,v=>jL k v
 | .inr x,v=>Value.isStrOf x v
def keyH (w:aW):Key->Int
 | .inl k=>hashInt k
 | .inr x=>hashStr w x
theorem ef:∀{k:Key}{v:aB},va k v=true->(∃i t,k=Sum.inl i/\v=nI i t)\/(∃x t,k=Sum.inr x/\v=uO x t)
 | .inl i,v,h=>by
  obtain⟨t,e⟩:=Value.isInt_shape (k:=i) (v:=v) h;exact .inl ⟨i,t,rfl,e⟩
 | .inr x,v,h=>by
  obtain⟨t,e⟩:=Value.isStrOf_shape (x:=x) (v:=v) h;exact .inr ⟨x,t,rfl,e⟩
theorem Kp (i:Int)(t:Tok):va (.inl i) (.int i t)=true:=by simp[va,jL]
theorem Kq (x:Str)(t:Tok):va (.inr x) (.str x t)=true:=by simp[va,Value.isStrOf]
theorem T9 (a b:Int):decide ((Sum.inl a:Key)=Sum.inl b)=(a == b):=by
 by_cases e:a=b
 ·subst e;simp
 ·have h:¬(Sum.inl a:Key)=Sum.inl b:=λq=>e (Sum.inl.inj q);rw[decide_eq_false h];exact(beq_eq_false_iff_ne.mpr e).symm
theorem Ua (a b:Str):decide ((Sum.inr a:Key)=Sum.inr b)=decide (a=b):=by
 by_cases e:a=b
 ·subst e;simp
 ·have h:¬(Sum.inr a:Key)=Sum.inr b:=λq=>e (Sum.inr.inj q);rw[decide_eq_false h,decide_eq_false e]
theorem Ub (a:Int)(b:Str):decide ((Sum.inl a:Key)=Sum.inr b)=false:=decide_eq_false (λq=>nomatch q)
theorem Uc (a:Str)(b:Int):decide ((Sum.inr a:Key)=Sum.inl b)=false:=decide_eq_false (λq=>nomatch q)
def eh (prog:aP)(w:aW):PySem.KeyKind prog w Key where
 is:=va
 hash:=keyH w
 inj:=λv a b ha hb=>by
  rcases ef ha with⟨i,t,rfl,rfl⟩ | ⟨x,t,rfl,rfl⟩
  ·rcases ef hb with⟨j,u,rfl,e⟩ | ⟨y,u,rfl,e⟩
   ·injection e with e1 _;rw[e1]
   ·exact nomatch e
  ·rcases ef hb with⟨j,u,rfl,e⟩ | ⟨y,u,rfl,e⟩
   ·exact nomatch e
   ·injection e with e1 _;rw[e1]
 byValue:=λk v h=>by
  rcases ef h with⟨i,t,rfl,rfl⟩ | ⟨x,t,rfl,rfl⟩<;>rfl
 pyHash:=λhv h=>by
  rcases ef hv with⟨i,t,rfl,rfl⟩ | ⟨x,t,rfl,rfl⟩
  ·exact wpAny_pyHash_int h
  ·exact wpAny_pyHash_str h
 eqBool:=λhu hv h=>by
  rcases ef hu with⟨i,t,rfl,rfl⟩ | ⟨x,t,rfl,rfl⟩
  ·rcases ef hv with⟨j,u,rfl,rfl⟩ | ⟨y,u,rfl,rfl⟩
   ·rw[T9]at h;exact wpAny_eqBool_int h
   ·rw[Ub]at h;exact SeqAt.EqAt.int_str i t y u _ _ _ _ h
  ·rcases ef hv with⟨j,u,rfl,rfl⟩ | ⟨y,u,rfl,rfl⟩
   ·rw[Uc]at h;exact SeqAt.EqAt.str_int x t j u _ _ _ _ h
   ·rw[Ua]at h;exact wpAny_eqBool_str h
 «strs»:=λk x t v h=>by
  rcases ef h with⟨i,u,rfl,e⟩ | ⟨y,u,rfl,e⟩
  ·exact nomatch e
  ·injection e with e1 _;subst e1;cases v<;>rfl
theorem Fb (prog:aP)(w:aW)(i:Int)(t:Tok):(eh prog w).is (.inl i) (.int i t)=true:=Kp i t
theorem Fc (prog:aP)(w:aW)(x:Str)(t:Tok):(eh prog w).is (.inr x) (.str x t)=true:=Kq x t
theorem sz0:0<=sizeLine:=by decide
theorem sz1:1<=sizeLine:=by decide
theorem sz2:2<=sizeLine:=by decide
theorem sz3:3<=sizeLine:=by decide
theorem sz4:4<=sizeLine:=by decide
theorem sz5:5<=sizeLine:=by decide
theorem sz6:6<=sizeLine:=by decide
theorem sz8:8<=sizeLine:=by decide
theorem sz14:14<=sizeLine:=by decide
inductive V where
 |non | bl (b:Bool) | int (i:Int) | str (x:Str) | byt (b:Array UInt8) | flt (b:UInt64) | ref (a:Addr) | ty (n:String)
 deriving DecidableEq
def RelV:V->aB->Prop
 | .non,u=>u=gP
 | .bl b,u=>u=vH b
 | .int i,u=>∃t,u=nI i t
 | .str x,u=>∃t,u=uO x t
 | .byt b,u=>∃t,u=Value.bytes b t
 | .flt b,u=>∃t,u=yE b t
 | .ref a,u=>u=cE a
 | .ty n,u=>u=rC n
abbrev Vals:List V->List aB->Prop:=Paired RelV
theorem Vals.length {xs:List V}{us:List aB}(r:Vals xs us):xs.length=us.length:=Paired.length r
theorem Vals.get:∀{xs:List V}{us:List aB}{i:Nat}{x:V},Vals xs us->xs[i]?=some x->∃u,us[i]?=some u/\RelV x u
 |_,_,_,_,.nil,e=>by simp at e
 |_,_,0,_,.cons r _,e=>by simp at e;subst e;exact⟨_,rfl,r⟩
 |_,_,i+1,x,.cons _ t,e=>by
  obtain⟨u,h1,h2⟩:=Vals.get (i:=i) (x:=x) t (by simpa using e);exact⟨u,by simpa using h1,h2⟩
theorem Vals.set {x:V}{u:aB}(r:RelV x u):∀{xs:List V}{us:List aB}(i:Nat),Vals xs us->Vals (xs.set i x) (us.set i u)
 |_,_,_,.nil=>.nil
 |_,_,0,.cons _ t=>.cons r t
 |_,_,i+1,.cons q t=>.cons q (Vals.set r i t)
theorem Vals.append:∀{xs ys:List V}{us ws:List aB},Vals xs us->Vals ys ws->Vals (xs++ys) (us++ws)
 |_,_,_,_,.nil,s=>s
 |_,_,_,_,.cons r t,s=>.cons r (Vals.append t s)
theorem Vals.take:∀{xs:List V}{us:List aB}(n:Nat),Vals xs us->Vals (xs.take n) (us.take n)
 |_,_,0,_=>.nil
 |_,_,_+1,.nil=>.nil
 |_,_,n+1,.cons r t=>.cons r (Vals.take n t)
theorem Vals.drop:∀{xs:List V}{us:List aB}(n:Nat),Vals xs us->Vals (xs.drop n) (us.drop n)
 |_,_,0,r=>r
 |_,_,_+1,.nil=>.nil
 |_,_,n+1,.cons _ t=>Vals.drop n t
def RelO:Option V->Option aB->Prop
 |some v,some u=>RelV v u
 |none,none=>True
 |_,_=>False
def KV {κ:Type}:List (κ×V)->List (κ×aB)->Prop:=Paired λ(p:κ×V)(q:κ×aB)=>p.1=q.1/\RelV p.2 q.2
def kV:Key->V
 | .inl i=>.int i
 | .inr x=>.str x
inductive HO where
 |lst (xs:List V)
 |tup (xs:List V)
 |dK (kvs:List (Key×V)) | dT (kvs:List (List Key×V))
 |set (S:Int->Bool) (n:Nat)
 |ins (C dx:Addr) (fs:List (Str×V))
 |own (x:Addr)
 |xd (fs:List (Str×V))
 |met (f x:Addr)
 |rng (lo hi:Int)
 |frz (o:Obj) (u:HO)
 |tbl (ps:Array aB)
 |ext (φ:Heap->Prop)
abbrev Hp:=Addr->Option HO
def upd (H:Hp)(a:Addr)(o:HO):Hp:=λb=>if b=a then some o else H b
theorem ac {H:Hp}{a:Addr}{o:HO}:upd H a o a=some o:=by unfold upd;rw[if_pos rfl]
theorem ai {H:Hp}{a b:Addr}{o:HO}(h:b≠a):upd H a o b=H b:=by unfold upd;rw[if_neg h]
theorem Rp {H:Hp}{a:Addr}{o u:HO}:upd (upd H a o) a u=upd H a u:=by
 funext b;unfold upd;split<;>rfl
theorem im {H:Hp}{a b:Addr}{o u:HO}(h:H a=some o)(h':H b=some u)(d:o≠u):a≠b:=by
 intro e;subst e;rw[h]at h';exact d (eA h')
theorem am {H:Hp}{a b:Addr}{o:HO}(h:H a=some o)(h':H b=none):a≠b:=by
 intro e;subst e;rw[h]at h';cases h'
section
variable (P:aP)(w:aW)
def ObjOk (H:Hp)(h:Heap)(a:Addr):HO->Prop
 | .lst xs=>xs.length<=sizeLine/\∃(its:List aB)(n:Nat),Vals xs its/\h.get? a=some { cls:=.type "list",data:=.seq its.toArray n }
 | .tup xs=>xs.length<=sizeLine/\∃its:List aB,Vals xs its/\yL h a its.toArray
 | .dK kvs=>kvs.length<=sizeLine/\(a == lR)=false/\∃vs,KV kvs vs/\h.DictOf (eh P w) a vs
 | .dT kvs=>kvs.length<=sizeLine/\(a == lR)=false/\∃xs:List (List Key×Addr×aB),
   Paired (λ(p:List Key×V)(q:List Key×Addr×aB)=>p.1=q.1/\H q.2.1=some (.tup (p.1.map kV))/\RelV p.2 q.2.2) kvs xs/\
   ∃o es ep,h.get? a=some o/\o.ExactDict/\o.data=.dict es ep/\es.toList=xs.map (entryOfKey (wB (eh P w)))/\(xs.map (·.1)).Nodup
 | .set S n=>h.SetOf (eF P w) a S n
 | .ins C dx fs=>H dx=some (.own a)/\fs.length<=1000/\dx≠a/\h.get? a=some (lS C dx)/\
   ∃mA,h.Ns1 dx mA/\(∀f,RelO (fs.lookup f) (mA f))/\xI mA (fs.map (·.1))
 | .own _=>∃o,h.get? a=some o
 | .xd fs=>∃mA,h.Ns1 a mA/\∀f,RelO (fs.lookup f) (mA f)
 | .rng lo hi=>∃t u v,h.get? a=some { cls:=.type "range",data:=.fields #[.int lo t,.int hi u,.int 1 v] }
 | .frz o u=>h.get? a=some o/\ObjOk H h a u
 | .tbl ps=>h.get? a=some { cls:=.none,data:=.fields ps }
 | .met f x=>h.get? a=some (uZ (.ref f) (.ref x))
 | .ext φ=>φ h/\(∃o,h.get? a=some o)/\∀h1 h2:Heap,φ h1->(∀o,h1.get? a=some o->h2.get? a=some o)->φ h2
def HOk (H:Hp)(h:Heap):Prop:=∀a o,H a=some o->ObjOk P w H h a o
end
section
variable {P:aP}{w:aW}{H H':Hp}{h h':Heap}{a:Addr}{o:HO}
theorem ObjOk.lt (x:ObjOk P w H h a o):a < h.objs.size:=by
 cases o with
 |lst xs=>obtain⟨_,_,_,_,e⟩:=x;exact aZ e
 |tup xs=>obtain⟨_,_,_,p⟩:=x;exact p.lt
 |dK kvs=>obtain⟨_,_,_,_,o,_,_,e,_⟩:=x;exact aZ e
 |dT kvs=>obtain⟨_,_,_,_,o,_,_,e,_⟩:=x;exact aZ e
 |set S n=>obtain⟨o,_,_,_,e,_⟩:=x;exact aZ e
 |ins C dx fs=>obtain⟨_,_,_,e,_⟩:=x;exact aZ e
 |own y=>obtain⟨_,e⟩:=x;exact aZ e
 |xd fs=>obtain⟨_,⟨_,_,_,e,_⟩,_⟩:=x;exact aZ e
 |rng lo hi=>obtain⟨_,_,_,e⟩:=x;exact aZ e
 |frz ob u=>obtain⟨e,_⟩:=x;exact aZ e
 |tbl ps=>exact aZ (show h.get? a=some _ from x)
 |met f y=>exact aZ (show h.get? a=some _ from x)
 |ext φ=>obtain⟨_,⟨_,e⟩,_⟩:=x;exact aZ e
theorem Paired.mapP {α β:Type}{F G:α->β->Prop}:∀{l₁:List α}{l₂:List β},Paired F l₁ l₂->(∀a b,F a b->G a b)->Paired G l₁ l₂
 |_,_,.nil,_=>.nil
 |_,_,.cons r t,f=>.cons (f _ _ r) (Paired.mapP t f)
theorem ObjOk.stay (x:ObjOk P w H h a o)(k:∀b u,(b=a\/H b=some (.own a))->h.get? b=some u->h'.get? b=some u)
  (ho:∀b,H b=some (.own a)->H' b=some (.own a)) (ht:∀b xs,H b=some (.tup xs)->H' b=some (.tup xs)):ObjOk P w H' h' a o:=by
 induction o with
 |lst xs=>obtain⟨z,its,n,r,e⟩:=x;exact⟨z,its,n,r,k _ _ (.inl rfl) e⟩
 |tup xs=>obtain⟨z,its,r,ob,e,c⟩:=x;exact⟨z,its,r,ob,k _ _ (.inl rfl) e,c⟩
 |dK kvs=>obtain⟨z,y,vs,r,ob,es,ep,e,c⟩:=x;exact⟨z,y,vs,r,ob,es,ep,k _ _ (.inl rfl) e,c⟩
 |dT kvs=>
  obtain⟨z,y,xs,r,ob,es,ep,e,c⟩:=x;exact⟨z,y,xs,Paired.mapP r λp q z=>⟨z.1,ht _ _ z.2.1,z.2.2⟩,ob,es,ep,k _ _ (.inl rfl) e,c⟩
 |set S n=>obtain⟨ob,es,ep,t,e,c⟩:=x;exact⟨ob,es,ep,t,k _ _ (.inl rfl) e,c⟩
 |ins C dx fs=>
  obtain⟨d,z,ne,e,mA,⟨od,es,ep,e2,c⟩,r⟩:=x;exact⟨ho _ d,z,ne,k _ _ (.inl rfl) e,mA,⟨od,es,ep,k _ _ (.inr d) e2,c⟩,r⟩
 |own y=>obtain⟨ob,e⟩:=x;exact⟨ob,k _ _ (.inl rfl) e⟩
 |xd fs=>obtain⟨mA,⟨od,es,ep,e,c⟩,r⟩:=x;exact⟨mA,⟨od,es,ep,k _ _ (.inl rfl) e,c⟩,r⟩
 |rng lo hi=>obtain⟨t,u,v,e⟩:=x;exact⟨t,u,v,k _ _ (.inl rfl) e⟩
 |frz ob u ih=>obtain⟨e,q⟩:=x;exact⟨k _ _ (.inl rfl) e,ih q⟩
 |tbl ps=>
  have e:h.get? a=some { cls:=.none,data:=.fields ps }:=x;show h'.get? a=some { cls:=.none,data:=.fields ps };exact k a _ (.inl rfl) e
 |met f y=>
  have e:h.get? a=some (uZ (.ref f) (.ref y)):=x;show h'.get? a=some (uZ (.ref f) (.ref y));exact k a _ (.inl rfl) e
 |ext φ=>obtain⟨p,⟨o,e⟩,st⟩:=x;exact⟨st _ _ p λo q=>k _ _ (.inl rfl) q,⟨o,k _ _ (.inl rfl) e⟩,st⟩
theorem HOk.lt (x:HOk P w H h)(e:H a=some o):a < h.objs.size:=(x a o e).lt
theorem HOk.fresh (x:HOk P w H h)(e:h.objs.size<=a):H a=none:=by
 cases q:H a with
 |none=>rfl
 |some u=>exact absurd (eG (x.lt q) e) (jH _)
theorem HOk.kept (x:HOk P w H h)(k:∀b u,h.get? b=some u->h'.get? b=some u):HOk P w H h':=λa o e=>
 (x a o e).stay (λb u _ q=>k b u q) (λ_ q=>q) λ_ _ q=>q
theorem HOk.laid (x:HOk P w H h)(k:∀b u,h.get? b=some u->h'.get? b=some u)(hp:h.objs.size<=a)(new:ObjOk P w (upd H a o) h' a o):HOk P w (upd H a o) h':=λb u e=>by
 have hn:=x.fresh hp;by_cases hb:b=a
 ·subst hb;rw[ac]at e;cases e;exact new
 ·rw[ai hb]at e;exact(x b u e).stay (λc v _ q=>k c v q) (λc q=>by rw[ai (am q hn)];exact q) λc xs q=>by rw[ai (am q hn)];exact q
end
def Rd (H:Hp)(a:Addr)(u:HO):Prop:=H a=some u\/∃o,H a=some (.frz o u)
theorem Rd.ok {P:aP}{w:aW}{H:Hp}{h:Heap}{a:Addr}{u:HO}(r:Rd H a u)(x:HOk P w H h):ObjOk P w H h a u:=by
 rcases r with r | ⟨o,r⟩
 ·exact x a u r
 ·obtain⟨_,q⟩:=x a _ r;exact q
def Mut:Option HO->Prop
 |some (.lst _)=>True
 |some (.dK _)=>True
 |some (.dT _)=>True
 |some (.set _ _)=>True
 |some (.ins _ _ _)=>True
 |some (.ext _)=>True
 |_=>False
section
variable {P:aP}{w:aW}{H:Hp}{h h':Heap}{x e:Addr}{o':HO}
theorem HOk.write (ok:HOk P w H h)(mu:Mut (H x))(he:e=x\/H e=some (.own x))(k:∀b u,b≠e->h.get? b=some u->h'.get? b=some u)(JO:∃u,h'.get? e=some u)
  (new:ObjOk P w (upd H x o') h' x o'):HOk P w (upd H x o') h':=λb u q=>by
 have KI:∀c y,H c=some (.own y)->c≠x:=λc y r z=>(by subst z;rw[r]at mu;exact mu);have ntup:∀c xs,H c=some (.tup xs)->c≠x:=λc xs r z=>(by subst z;rw[r]at mu;exact mu);by_cases hb:b=x
 ·subst hb;rw[ac]at q;cases q;exact new
 ·rw[ai hb]at q;by_cases AY:b=e
  ·have q':H b=some (.own x):=by
    rcases he with z | z
    ·exact absurd (AY.trans z) hb
    ·rw[AY];exact z
   rw[q]at q';cases q';obtain⟨v,hv⟩:=JO;exact⟨v,by rw[AY];exact hv⟩
  ·refine(ok b u q).stay (λc v hc r=>k c v ?_ r) (λc r=>by rw[ai (KI c b r)];exact r) λc xs r=>(by rw[ai (ntup c xs r)];exact r);rcases hc with rfl | hc
   ·exact AY
   ·intro zE;subst zE;rcases he with z | z
    ·exact KI c b hc z
    ·rw[hc]at z;cases z;exact hb rfl
end
structure Un (fs ex:List Addr)(H H':Hp)(h h':Heap):Prop where
 keep:∀b o,h.get? b=some o->H b=none->b ∉ fs->b ∉ ex->h'.get? b=some o
 slot:∀b o,h.get? b=some o->H b=none->b∈fs->b ∉ ex->∃sl,h'.get? b=some { o with slots:=sl }
 free:∀b o,h.get? b=some o->H b=none->b ∉ ex->H' b=none
 there:∀b o,h.get? b=some o->b ∉ ex->∃o',h'.get? b=some o'
 tups:∀b xs,H b=some (.tup xs)->H' b=some (.tup xs)
 frzs:∀b o u,H b=some (.frz o u)->H' b=some (.frz o u)
 tbls:∀b ps,H b=some (.tbl ps)->∃more,H' b=some (.tbl (ps++more))
section
variable {fs fs' ex ex':List Addr}{H H1 H2:Hp}{h h1 h2 h':Heap}{a x e:Addr}{o:HO}
theorem Un.any (u:Un fs ex H H1 h h1){b:Addr}{ob:Obj}(q:h.get? b=some ob)(n:H b=none)(hx:b ∉ ex):∃sl,h1.get? b=some { ob with slots:=sl }:=by
 by_cases hb:b∈fs
 ·exact u.slot b ob q n hb hx
 ·exact⟨ob.slots,u.keep b ob q n hb hx⟩
theorem Un.kept (k:∀b u,h.get? b=some u->h'.get? b=some u):Un fs ex H H h h':=
 ⟨λb ob q _ _ _=>k b ob q,λb ob q _ _ _=>⟨ob.slots,k b ob q⟩,λ_ _ _ n _=>n,λb ob q _=>⟨ob,k b ob q⟩,λ_ _ q=>q,λ_ _ _ q=>q,λ_ ps q=>⟨#[],by rw[q];simp⟩⟩
theorem Un.refl:Un fs ex H H h h:=Un.kept λ_ _ q=>q
theorem Un.laid (k:∀b u,h.get? b=some u->h'.get? b=some u)(hp:h.objs.size<=a)(hn:H a=none):Un fs ex H (upd H a o) h h' where
 keep:=λb u q _ _ _=>k b u q
 slot:=λb u q _ _ _=>⟨u.slots,k b u q⟩
 free:=λb u q n _=>by rw[ai (cK (eG (aZ q) hp))];exact n
 there:=λb u q _=>⟨u,k b u q⟩
 tups:=λb xs q=>by rw[ai (am q hn)];exact q
 frzs:=λb u xs q=>by rw[ai (am q hn)];exact q
 tbls:=λb ps q=>⟨#[],by rw[ai (am q hn),q];simp⟩
theorem Un.write (mu:Mut (H x))(he:e=x\/H e=some (.own x))(k:∀b u,b≠e->h.get? b=some u->h'.get? b=some u)(JO:∃u,h'.get? e=some u):Un fs ex H (upd H x o) h h':=by
 have hx:∀b,H b=none->b≠x:=λb n z=>(by subst z;rw[n]at mu;exact mu);have hb:∀b,H b=none->b≠e:=λb n z=>by
  subst z;rcases he with r | r
  ·exact hx b n r
  ·rw[n]at r;cases r
 have hm:∀b u,H b=some u->¬Mut (some u)->b≠x:=λb u q nm z=>(by subst z;rw[q]at mu;exact nm mu);refine⟨λb u q n _ _=>k b u (hb b n) q,λb u q n _ _=>⟨u.slots,k b u (hb b n) q⟩,λb u q n _=>by rw[ai (hx b n)];exact n,λb u q _=>?_,λb xs q=>by rw[ai (hm b _ q λz=>z)];exact q,λb u xs q=>by rw[ai (hm b _ q λz=>z)];exact q,λb ps q=>⟨#[],by rw[ai (hm b _ q λz=>z),q];simp⟩⟩;by_cases AY:b=e
 ·subst AY;exact JO
 ·exact⟨u,k b u AY q⟩
end
def trk (h:Heap)(H:Hp):List Addr:=(eE h.objs.size).filter λa=>(H a).isSome
def jb (h:Heap)(H:Hp):Heap:=PySem.W.hideAll h (trk h H)
theorem Kr (h:Heap)(H:Hp):(jb h H).objs.size=h.objs.size:=PySem.W.hideAll_size _ _
theorem wv {h:Heap}{H:Hp}{b:Addr}{o:Obj}(e:h.get? b=some o)(n:H b=none):(jb h H).get? b=some o:=
 PySem.W.hideAll_get _ e λhm=>by
  have q:(H b).isSome=true:=(lA.mp hm).2;rw[n]at q;simp at q
theorem Ah {h:Heap}{H:Hp}{b:Addr}{o:Obj}(e:(jb h H).get? b=some o):h.get? b=some o/\H b=none:=by
 have e':h.get? b=some o:=PySem.W.of_hideAll (trk h H) e;refine⟨e',?_⟩;cases q:H b with
 |none=>rfl
 |some x=>
  have hm:b∈trk h H:=List.mem_filter.mpr ⟨iI.mpr (aZ e'),by simp[q]⟩;have z:(jb h H).get? b=none:=PySem.W.hideAll_none (trk h H) hm;rw[z]at e;cases e
def Rq (g h:Heap)(L:Addr):List (Addr×Obj):=(eE h.objs.size).filterMap λa=>if a=L\/(g.get? a).isSome=true then none else (h.get? a).map λo=>(a,o)
def rest (g h:Heap)(L d:Addr):List (Addr×Obj):=(Rq g h L).filter λp=>decide (p.1≠d)
structure Mod (K:aC)(mg:Str->Option aB)(base:Heap):Prop where
 kin:K.In base
 glob:base.Ns aQ mg
 blt:∃mb,base.Ns yM mb/\∀x:Str,x≠"__name__"->mb x=jI x
 nolimit:base.NoLimit
structure Cx where
 prog:aP
 w:aW
 K:aC
 mg:Str->Option aB
 base:Heap
 A:cQ
 N:List Str
 s₀:aG
 H₀:Hp
 env:Env
 outer:List Env
 stack:List Env
 ex:List Addr
 fn:Str->Bool
 calm:Bool
 pn:List (Addr×Obj)
 xe:aB->aG->Prop
def frs (l:List Env):List Addr:=l.filterMap (·.frame)
abbrev Cx.fs (X:Cx):List Addr:=frs X.outer
def Vis (sc:gM)(x:Str):Prop:=sc.names.lookup x=some .local\/sc.names.lookup x=some .cell\/sc.names.lookup x=some .free
def Loc (sc:gM)(x:Str):Prop:=sc.names.lookup x=some .local\/sc.names.lookup x=some .cell
def Look (env:Env)(h:Heap)(m:Str->Option aB)(x:Str)(u:aB):Prop:=
 (env.kindOf x=some .local/\m x=some u)\/((env.kindOf x=some .cell\/env.kindOf x=some .free)/\∃c,env.cells.lookup x=some c/\h.IsCell c (some u))
structure Cx.Ok (X:Cx):Prop where
 mod:Mod X.K X.mg X.base
 kind:X.env.scope.kind=.function
 glob:X.env.globals=aQ
 blt:X.env.builtins=yM
 above:X.s₀.heap.objs.size<=X.env.locals
 inj:∀x y c,X.env.cells.lookup x=some c->X.env.cells.lookup y=some c->x=y
 has:∀x,(X.env.kindOf x=some .cell\/X.env.kindOf x=some .free)->∃c,X.env.cells.lookup x=some c
 cab:∀x c,X.fn x=true->X.env.cells.lookup x=some c->X.s₀.heap.objs.size<=c
 hd:X.calm=true->X.A.handled=none
 frames:X.A.frames=some X.stack
 stk:X.stack=X.outer\/(X.stack=X.env::X.outer/\X.env.frame=some X.env.locals)
 exf:∀b∈X.ex,b≠X.env.locals/\∀x c,X.env.cells.lookup x=some c->c≠b
 bs:∀b o,X.base.get? b=some o->X.s₀.heap.get? b=some o/\X.H₀ b=none
 bsz:X.base.objs.size<=X.s₀.heap.objs.size
 noex:∀b o,X.base.get? b=some o->b ∉ X.ex
 exfs:∀b∈X.ex,b ∉ X.fs
 funs:X.s₀.heap.FunFrames X.base X.outer
 frf:∀b∈X.fs,X.H₀ b=none
structure Inv (X:Cx)(f':List (Addr×Obj))(σ:List (Option V))(H:Hp)(s:aG):Prop where
 ok:X.Ok
 os:s.os=X.s₀.os
 bare:rE s.gens
 base:Un X.fs X.ex X.H₀ H X.s₀.heap s.heap
 loc:∃m,s.heap.Ns X.env.locals m/\∀(i:Nat)(x:Str) (v:V),X.N[i]?=some x->σ[i]?=some (some v)->Vis X.env.scope x->∃u,RelV v u/\Look X.env s.heap m x u
 cell:∀x c,X.env.cells.lookup x=some c->∃v,s.heap.IsCell c v
 free:H X.env.locals=none
 freeC:∀x c,X.env.cells.lookup x=some c->H c=none
 pin:∀p∈X.pn++f',s.heap.get? p.1=some p.2/\H p.1=none/\p.1≠X.env.locals/\p.1 ∉ X.fs/\∀v,p.2.data≠.cell v
 hok:HOk X.prog X.w H s.heap
 len:σ.length=X.N.length
section
variable {X:Cx}{f':List (Addr×Obj)}{σ:List (Option V)}{H H':Hp}{s:aG}{h':Heap}
theorem Cx.Ok.nofr (ok:X.Ok){b:Addr}{o:Obj}(e:X.base.get? b=some o):b ∉ X.fs:=λhb=>by
 have:=(ok.funs.mem hb).1;rw[e]at this;cases this
theorem Inv.bs (I:Inv X f' σ H s):∀b o,X.base.get? b=some o->s.heap.get? b=some o/\H b=none:=λb o e=>
 ⟨I.base.keep b o (I.ok.bs b o e).1 (I.ok.bs b o e).2 (I.ok.nofr e) (I.ok.noex b o e),I.base.free b o (I.ok.bs b o e).1 (I.ok.bs b o e).2 (I.ok.noex b o e)⟩
theorem Inv.bk (I:Inv X f' σ H s):∀b o,X.base.get? b=some o->s.heap.get? b=some o:=λb o e=>(I.bs b o e).1
theorem Inv.mod (I:Inv X f' σ H s):Mod X.K X.mg X.base:=I.ok.mod
theorem Inv.kIn (I:Inv X f' σ H s):X.K.In s.heap:=I.ok.mod.kin.keeps I.bk
theorem Inv.lt (I:Inv X f' σ H s):X.env.locals < s.heap.objs.size:=let ⟨_,hn,_⟩:=I.loc;hn.lt
theorem Inv.sz (I:Inv X f' σ H s):X.s₀.heap.objs.size<=s.heap.objs.size:=bQ I.ok.above (lD I.lt)
theorem Inv.nofs (I:Inv X f' σ H s){a:Addr}(h:s.heap.objs.size<=a):a ∉ X.fs:=λhb=>by
 obtain⟨_,o,ho,_⟩:=I.ok.funs.mem hb;exact absurd (eG (aZ ho) (bQ I.sz h)) (jH _)
theorem Inv.cne (I:Inv X f' σ H s):∀x c,X.env.cells.lookup x=some c->c≠X.env.locals:=λx c e z=>by
 obtain⟨v,o,ho,hd⟩:=I.cell x c e;obtain⟨m,⟨o',es,ep,CY,BH,_⟩,_⟩:=I.loc;rw[z,CY]at ho;cases ho;rw[BH]at hd;cases hd
theorem Inv.funs (I:Inv X f' σ H s):s.heap.FunFrames X.base X.outer:=by
 have all:∀(l:List Env),(∀b∈frs l,b∈X.fs)->X.s₀.heap.FunFrames X.base l->s.heap.FunFrames X.base l:=by
  intro l
  induction l with
  |nil=>intro _ _;trivial
  |cons env r ih=>
   intro hs hl;obtain⟨hk,⟨L,o,hf,hn,ho,hd⟩,hr⟩:=hl;have hL:L∈X.fs:=hs L (by unfold frs;rw[gZ,hf];exact cJ);obtain⟨sl,e⟩:=I.base.slot L o ho (I.ok.frf L hL) hL λz=>I.ok.exfs L z hL;exact⟨hk,⟨L,_,hf,hn,e,hd⟩,ih (λb hb=>hs b (by unfold frs;rw[gZ,hf];exact cC _ hb)) hr⟩
 exact all X.outer (λ_ hb=>hb) I.ok.funs
theorem Inv.stack (I:Inv X f' σ H s):s.heap.FunFrames X.base X.stack:=by
 rcases I.ok.stk with e | ⟨e,hf⟩
 ·rw[e];exact I.funs
 ·rw[e];obtain⟨m,hn,_⟩:=I.loc;refine .cons (by rw[I.ok.kind];decide) hf hn ?_ I.funs;exact pO (bQ I.ok.bsz I.ok.above)
theorem Inv.stkSub (I:Inv X f' σ H s):∀b∈frs X.stack,b∈X.env.locals::X.fs:=λb hb=>by
 rcases I.ok.stk with e | ⟨e,hf⟩
 ·rw[e]at hb;exact cC _ hb
 ·rw[e]at hb;unfold frs at hb;rw[gZ,hf]at hb;exact hb
theorem Inv.stkFree (I:Inv X f' σ H s):∀b∈frs X.stack,H b=none:=λb hb=>by
 rcases aU.mp (I.stkSub b hb)with e | hb
 ·rw[e];exact I.free
 ·obtain⟨_,o,ho,_⟩:=I.ok.funs.mem hb;exact I.base.free b o ho (I.ok.frf b hb) λz=>I.ok.exfs b z hb
theorem Inv.step {g':Array pP}{t':Nat}{d':yN}{ch:List Addr}(I:Inv X f' σ H s)
  (EK:∀b∈ch,(b∈X.ex\/X.s₀.heap.objs.size<=b)/\b≠X.env.locals/\(∀x c,X.env.cells.lookup x=some c->c≠b)/\∀p∈X.pn++f',p.1≠b)
  (keep:∀b o,b≠X.env.locals->b ∉ X.fs->b ∉ ch->s.heap.get? b=some o->H b=none->h'.get? b=some o)
  (slot:∀b o,b≠X.env.locals->b∈X.fs->b ∉ ch->s.heap.get? b=some o->H b=none->∃sl,h'.get? b=some { o with slots:=sl }) (free:∀b o,b ∉ ch->s.heap.get? b=some o->H b=none->H' b=none)
  (there:∀b o,b ∉ ch->s.heap.get? b=some o->∃o',h'.get? b=some o')
  (tups:∀b xs,H b=some (.tup xs)->H' b=some (.tup xs)) (frzs:∀b o u,H b=some (.frz o u)->H' b=some (.frz o u)) (tbls:∀b ps,H b=some (.tbl ps)->∃more,H' b=some (.tbl (ps++more)))
  (ns:∀m,s.heap.Ns X.env.locals m->h'.Ns X.env.locals m) (hok:HOk X.prog X.w H' h') (hg:rE g') :
  Inv X f' σ H' { s with heap:=h',gens:=g',drawn:=d',toks:=t' }:=by
 have S':∀b o,X.s₀.heap.get? b=some o->b≠X.env.locals:=λb o e=>cK (eG (aZ e) I.ok.above);have MX:∀b o,X.s₀.heap.get? b=some o->b ∉ X.ex->b ∉ ch:=λb o e hx hb=>by
  rcases(EK b hb).1 with z | z
  ·exact hx z
  ·exact absurd (eG (aZ e) z) (jH _)
 have F':∀x c,X.env.cells.lookup x=some c->∀v,s.heap.IsCell c v->h'.IsCell c v:=λx c e v ⟨o,ho,hd⟩=>by
  have KJ:c ∉ ch:=λz=>(EK c z).2.2.1 x c e rfl;by_cases hc:c∈X.fs
  ·obtain⟨sl,q⟩:=slot c o (I.cne x c e) hc KJ ho (I.freeC x c e);exact⟨_,q,hd⟩
  ·exact⟨o,keep c o (I.cne x c e) hc KJ ho (I.freeC x c e),hd⟩
 refine⟨I.ok,I.os,hg,⟨λb o e n hb hx=>?_,λb o e n hb hx=>?_,λb o e n hx=>?_,λb o e hx=>?_,λb xs e=>tups b xs (I.base.tups b xs e),λb o xs e=>frzs b o xs (I.base.frzs b o xs e),λb ps e=>?_⟩,?_,λx c e=>?_,?_,λx c e=>?_,λp hp=>?_,hok,I.len⟩
 ·exact keep b o (S' b o e) hb (MX b o e hx) (I.base.keep b o e n hb hx) (I.base.free b o e n hx)
 ·obtain⟨sl,e1⟩:=I.base.slot b o e n hb hx;obtain⟨sl',e2⟩:=slot b _ (S' b o e) hb (MX b o e hx) e1 (I.base.free b o e n hx);exact⟨sl',e2⟩
 ·obtain⟨o',e1⟩:=I.base.there b o e hx;exact free b o' (MX b o e hx) e1 (I.base.free b o e n hx)
 ·obtain⟨o',e1⟩:=I.base.there b o e hx;exact there b o' (MX b o e hx) e1
 ·obtain⟨m1,e1⟩:=I.base.tbls b ps e;obtain⟨m2,e2⟩:=tbls b _ e1;exact⟨m1++m2,by rw[e2,Array.append_assoc]⟩
 ·obtain⟨m,hn,hl⟩:=I.loc;refine⟨m,ns m hn,λi x v e1 e2 e3=>?_⟩;obtain⟨u,r,l⟩:=hl i x v e1 e2 e3;refine⟨u,r,?_⟩;rcases l with l | ⟨k,c,e,z⟩
  ·exact .inl l
  ·exact .inr ⟨k,c,e,F' x c e _ z⟩
 ·obtain⟨v,z⟩:=I.cell x c e;exact⟨v,F' x c e v z⟩
 ·obtain⟨m,⟨o,_,_,ho,_⟩,_⟩:=I.loc;exact free _ o (λz=>(EK _ z).2.1 rfl) ho I.free
 ·obtain⟨v,o,ho,hd⟩:=I.cell x c e;exact free c o (λz=>(EK c z).2.2.1 x c e rfl) ho (I.freeC x c e)
 ·obtain⟨e,n,ne,nf,d⟩:=I.pin p hp;have KJ:p.1 ∉ ch:=λz=>(EK p.1 z).2.2.2 p hp rfl;exact⟨keep p.1 p.2 ne nf KJ e n,free p.1 p.2 KJ e n,ne,nf,d⟩
theorem Inv.un {t':Nat}(I:Inv X f' σ H s)(u:Un X.fs [] H H' s.heap h')(hok:HOk X.prog X.w H' h'):Inv X f' σ H' { s with heap:=h',toks:=t' }:=by
 obtain⟨m,⟨o,es,ep,ho,r⟩,_⟩:=id I.loc;obtain⟨sl,hL⟩:=u.any ho I.free (by simp);exact I.step (g':=s.gens) (d':=s.drawn) (ch:=[]) (λ_ z=>nomatch z) (λb o _ hb _ e n=>u.keep b o e n hb (by simp)) (λb o _ hb _ e n=>u.slot b o e n hb (by simp)) (λb o _ e n=>u.free b o e n (by simp)) (λb o _ e=>u.there b o e (by simp)) u.tups u.frzs u.tbls (λm' hm=>by
   obtain⟨o',GK,KK,CY,r'⟩:=hm;rw[ho]at CY;cases CY;exact⟨_,GK,KK,hL,r'⟩) hok I.bare
theorem Inv.call {g':Array pP}{t':Nat}{d':yN}{ch:List Addr}(I:Inv X f' σ H s)(u:Un (frs X.stack) ch H H' s.heap h')(hok:HOk X.prog X.w H' h')(hg:rE g')
  (EK:∀b∈ch,(b∈X.ex\/X.s₀.heap.objs.size<=b)/\b≠X.env.locals/\(∀x c,X.env.cells.lookup x=some c->c≠b)/\∀p∈X.pn++f',p.1≠b) :
  Inv X f' σ H' { s with heap:=h',gens:=g',drawn:=d',toks:=t' }:=by
 obtain⟨m,⟨o,es,ep,ho,r⟩,_⟩:=id I.loc;obtain⟨sl,hL⟩:=u.any ho I.free λz=>(EK _ z).2.1 rfl;exact I.step (ch:=ch) EK (λb o hL hb hc e n=>u.keep b o e n (λz=>(aU.mp (I.stkSub b z)).elim hL hb) hc) (λb o _ _ hc e n=>u.any e n hc) (λb o hc e n=>u.free b o e n hc) (λb o hc e=>u.there b o e hc) u.tups u.frzs u.tbls (λm' hm=>by
   obtain⟨o',GK,KK,CY,r'⟩:=hm;rw[ho]at CY;cases CY;exact⟨_,GK,KK,hL,r'⟩) hok hg
theorem Inv.turned {t':Nat}{it:Addr}(I:Inv X f' σ H s)(k:∀b o,b≠it->s.heap.get? b=some o->h'.get? b=some o)(hn:H it=none)(hL:it≠X.env.locals)
  (h1:it∈X.ex\/X.s₀.heap.objs.size<=it) (h2:∀x c,X.env.cells.lookup x=some c->c≠it) (h3:∀p∈X.pn++f',p.1≠it):Inv X f' σ H { s with heap:=h',toks:=t' }:=by
 have TB:∀b u,H b=some u->b≠it:=λb u e z=>(by rw[z,hn]at e;cases e);refine I.step (g':=s.gens) (d':=s.drawn) (ch:=[it]) (λb hb=>?_) (λb o _ _ hc e _=>k b o (λz=>hc (by simp[z])) e) (λb o _ _ hc e _=>⟨o.slots,k b o (λz=>hc (by simp[z])) e⟩) (λ_ _ _ _ n=>n)
  (λb o hc e=>⟨o,k b o (λz=>hc (by simp[z])) e⟩) (λ_ _ e=>e) (λ_ _ _ e=>e) (λb ps e=>⟨#[],by rw[e];simp⟩) (λm hm=>?_) (λb u e=>?_) I.bare
 ·have e:b=it:=(by simpa using hb);subst e;exact⟨h1,hL,h2,h3⟩
 ·obtain⟨o,es,ep,ho,r⟩:=hm;exact⟨o,es,ep,k _ o (Ne.symm hL) ho,r⟩
 ·refine(I.hok b u e).stay (λc v hc q=>k c v ?_ q) (λ_ q=>q) λ_ _ q=>q;rcases hc with z | z
  ·rw[z];exact TB b u e
  ·exact TB c _ z
theorem Inv.tok (I:Inv X f' σ H s)(t:Nat):Inv X f' σ H { s with toks:=t }:=I.un (h':=s.heap) (t':=t) Un.refl I.hok
theorem Inv.kept {t':Nat}(I:Inv X f' σ H s)(k:∀b u,s.heap.get? b=some u->h'.get? b=some u):Inv X f' σ H { s with heap:=h',toks:=t' }:=I.un (Un.kept k) (I.hok.kept k)
theorem Inv.laid {a:Addr}{o:HO}{t':Nat}(I:Inv X f' σ H s)(k:∀b u,s.heap.get? b=some u->h'.get? b=some u)(hp:s.heap.objs.size<=a)(new:ObjOk X.prog X.w (upd H a o) h' a o) :
  Inv X f' σ (upd H a o) { s with heap:=h',toks:=t' }:=I.un (Un.laid k hp (I.hok.fresh hp)) (I.hok.laid k hp new)
theorem Inv.write {x e:Addr}{o:HO}{t':Nat}(I:Inv X f' σ H s)(mu:Mut (H x))(he:e=x\/H e=some (.own x))(k:∀b u,b≠e->s.heap.get? b=some u->h'.get? b=some u)(JO:∃u,h'.get? e=some u)
  (new:ObjOk X.prog X.w (upd H x o) h' x o):Inv X f' σ (upd H x o) { s with heap:=h',toks:=t' }:=I.un (Un.write mu he k JO) (I.hok.write mu he k JO new)
theorem Inv.weak {σ':List (Option V)}(I:Inv X f' σ H s)(hl:σ'.length=σ.length)(w:∀(i:Nat) v,σ'[i]?=some (some v)->σ[i]?=some (some v)):Inv X f' σ' H s:=
 ⟨I.ok,I.os,I.bare,I.base,let ⟨m,hn,KL⟩:=I.loc;⟨m,hn,λi x v e1 e2 e3=>KL i x v e1 (w i v e2) e3⟩,I.cell,I.free,I.freeC,I.pin,I.hok,hl.trans I.len⟩
theorem Inv.pins_of {GQ:List (Addr×Obj)}(I:Inv X f' σ H s)(h:∀p∈GQ,s.heap.get? p.1=some p.2/\H p.1=none/\p.1≠X.env.locals/\p.1 ∉ X.fs/\∀v,p.2.data≠.cell v):Inv X GQ σ H s:=
 ⟨I.ok,I.os,I.bare,I.base,I.loc,I.cell,I.free,I.freeC,λp hp=>(eC.mp hp).elim (λz=>I.pin p (oB _ z)) (h p),I.hok,I.len⟩
theorem Ct {N:List Str}(hN:N.Nodup){i j:Nat}{x:Str}(a:N[i]?=some x)(b:N[j]?=some x):i=j:=by
 obtain⟨h1,e1⟩:=aL.mp a;obtain⟨h2,e2⟩:=aL.mp b;exact(List.getElem_inj hN).mp (e1.trans e2.symm)
theorem Bd {M:sY}{A:cQ}{E:aB->aG->Prop}{i:Nat}{x:Str}{v:V}{u:aB}{Q:Unit->aG->Prop}(I:Inv X f' σ H s)(hN:X.N.Nodup)(hi:X.N[i]?=some x)(hx:Loc X.env.scope x)(r:RelV v u)
  (h:∀s',Inv X f' (σ.set i (some v)) H s'->(∃a,gG a s.heap s'.heap/\(a=X.env.locals\/X.env.cells.lookup x=some a))->Q () s') (hf:X.fn x=true\/X.env.scope.names.lookup x=some .local:=by first | exact .inl rfl | exact .inr rfl | assumption):aM M A (storeName X.env x u) Q E s:=by
 obtain⟨m,hn,hl⟩:=id I.loc;have HY:(X.env.scope.kind == .class || (X.env.scope.kind == .module && X.env.locals != X.env.globals))=false:=(by rw[I.ok.kind];rfl);have KM:i < σ.length:=(by rw[I.len];exact(aL.mp hi).1);have cne:=I.cne;have CZ:∀{a:Addr}{h':Heap},(∃o,s.heap.get? a=some o/\H a=none)->gG a s.heap h'->HOk X.prog X.w H h':=λ{a h'} ha hs b ob e=>by
  obtain⟨_,_,GV⟩:=ha;refine(I.hok b ob e).stay (λc w' hc q=>(hs.2 c ?_).trans q) (λ_ q=>q) λ_ _ q=>q;intro zE;subst zE;rcases hc with rfl | hc
  ·rw[GV]at e;cases e
  ·rw[GV]at hc;cases hc
 rcases hx with hk | hk
 ·refine wpAny_storeName_local hk hn (λh' HZ hs=>?_) HY;obtain⟨oL,_,_,IA,_⟩:=id hn;refine h _ ⟨I.ok,I.os,I.bare,⟨λb o e n hb hx=>?_,λb o e n hb hx=>?_,I.base.free,λb o e hx=>?_,I.base.tups,I.base.frzs,I.base.tbls⟩,⟨_,HZ,λj y v' e1 e2 e3=>?_⟩,λy c e=>?_,I.free,I.freeC,λp hp=>?_,CZ ⟨oL,IA,I.free⟩ hs,by simpa using I.len⟩ ⟨_,hs,.inl rfl⟩
  ·exact(hs.2 b (cK (eG (aZ e) I.ok.above))).trans (I.base.keep b o e n hb hx)
  ·obtain⟨sl,e1⟩:=I.base.slot b o e n hb hx;exact⟨sl,(hs.2 b (cK (eG (aZ e) I.ok.above))).trans e1⟩
  ·obtain⟨o',e1⟩:=I.base.there b o e hx;exact⟨o',(hs.2 b (cK (eG (aZ e) I.ok.above))).trans e1⟩
  ·by_cases hj:j=i
   ·subst hj;rw[hi]at e1;cases e1;rw[List.getElem?_set_self KM]at e2;cases e2;exact⟨u,r,.inl ⟨hk,by simp⟩⟩
   ·rw[List.getElem?_set_ne (Ne.symm hj)]at e2;obtain⟨u',r',q⟩:=hl j y v' e1 e2 e3;refine⟨u',r',?_⟩;rcases q with⟨k,e⟩ | ⟨k,c,e,z⟩
    ·refine .inl ⟨k,?_⟩;have:y≠x:=λe=>hj (Ct hN e1 (e ▸ hi));simp[this,e]
    ·exact .inr ⟨k,c,e,z.sameBut hs (cne y c e)⟩
  ·obtain⟨w',z⟩:=I.cell y c e;exact⟨w',z.sameBut hs (cne y c e)⟩
  ·obtain⟨e,n,ne,nf,d⟩:=I.pin p hp;exact⟨(hs.2 p.1 ne).trans e,n,ne,nf,d⟩
 ·have OK:X.fn x=true:=by
   rcases hf with z | z
   ·exact z
   ·rw[z]at hk;cases hk
  obtain⟨c,hc⟩:=I.ok.has x (.inl hk);obtain⟨w',z⟩:=I.cell x c hc;refine wpAny_storeName_cell I.ok.kind hk hc z (λh' KN hs=>?_);obtain⟨oc,TC,hocd⟩:=id z;refine h { s with heap:=h' } ⟨I.ok,I.os,I.bare,⟨λb o e n hb hx=>?_,λb o e n hb hx=>?_,I.base.free,λb o e hx=>?_,I.base.tups,I.base.frzs,I.base.tbls⟩,⟨m,hn.sameBut hs (Ne.symm (cne x c hc)),λj y v' e1 e2 e3=>?_⟩,λy c' e=>?_,I.free,I.freeC,λp hp=>?_,CZ ⟨oc,TC,I.freeC x c hc⟩ hs,by simpa using I.len⟩ ⟨c,hs,.inr hc⟩
  ·exact(hs.2 b (cK (eG (aZ e) (I.ok.cab x c OK hc)))).trans (I.base.keep b o e n hb hx)
  ·obtain⟨sl,e1⟩:=I.base.slot b o e n hb hx;exact⟨sl,(hs.2 b (cK (eG (aZ e) (I.ok.cab x c OK hc)))).trans e1⟩
  ·obtain⟨o',e1⟩:=I.base.there b o e hx;exact⟨o',(hs.2 b (cK (eG (aZ e) (I.ok.cab x c OK hc)))).trans e1⟩
  ·by_cases hj:j=i
   ·subst hj;rw[hi]at e1;cases e1;rw[List.getElem?_set_self KM]at e2;cases e2;exact⟨u,r,.inr ⟨.inl hk,c,hc,KN⟩⟩
   ·rw[List.getElem?_set_ne (Ne.symm hj)]at e2;obtain⟨u',r',q⟩:=hl j y v' e1 e2 e3;refine⟨u',r',?_⟩;rcases q with q | ⟨k,c',e,z'⟩
    ·exact .inl q
    ·refine .inr ⟨k,c',e,z'.sameBut hs ?_⟩;intro zE;subst zE;exact hj (Ct hN e1 (I.ok.inj _ _ _ e hc ▸ hi))
  ·by_cases TD:c'=c
   ·subst TD;exact⟨_,KN⟩
   ·obtain⟨w2,z2⟩:=I.cell y c' e;exact⟨w2,z2.sameBut hs TD⟩
  ·obtain⟨e,n,ne,nf,d⟩:=I.pin p hp;refine⟨(hs.2 p.1 ?_).trans e,n,ne,nf,d⟩;intro q;rw[q,TC]at e;have q':oc=p.2:=eA e;exact d w' (by rw[<-q'];exact hocd)
theorem wx {M:sY}{A:cQ}{E:aB->aG->Prop}{i:Nat}{x:Str}{v:V}{u:aB}{Q:Unit->aG->Prop}(I:Inv X f' σ H s)(hN:X.N.Nodup)(hi:X.N[i]?=some x)(hx:Loc X.env.scope x)(r:RelV v u)
  (h:∀s',Inv X f' (σ.set i (some v)) H s'->Q () s') (hf:X.fn x=true\/X.env.scope.names.lookup x=some .local:=by first | exact .inl rfl | exact .inr rfl | assumption):aM M A (storeName X.env x u) Q E s:=
 Bd I hN hi hx r (λs' I' _=>h s' I') hf
theorem Inv.call' {s':aG}{ch:List Addr}(I:Inv X f' σ H s)(ho:s'.os=s.os)(u:Un (frs X.stack) ch H H' s.heap s'.heap)(hok:HOk X.prog X.w H' s'.heap)(hg:rE s'.gens)
  (EK:∀b∈ch,(b∈X.ex\/X.s₀.heap.objs.size<=b)/\b≠X.env.locals/\(∀x c,X.env.cells.lookup x=some c->c≠b)/\∀p∈X.pn++f',p.1≠b):Inv X f' σ H' s':=by
 obtain⟨h',g',d',t',o'⟩:=s';have e:o'=s.os:=ho;subst e;exact I.call (g':=g') (t':=t') (d':=d') u hok hg EK
end
abbrev XK:=aB->Option Addr->Hp->Prop
abbrev St:=List (Option V)
abbrev VK:=V->Hp->Prop
abbrev TE:=St->Hp->VK->Prop
abbrev TT:=St->Hp->(Bool->Hp->Prop)->Prop
abbrev TA:=St->Hp->(List V->Hp->Prop)->Prop
structure d6 where
 nx:St->Hp->Prop
 rt:VK
 bk:St->Hp->Prop:=λ_ _=>False
 ct:St->Hp->Prop:=λ_ _=>False
abbrev TS:=d6->St->Hp->Prop
def EP (X:Cx)(f':List (Addr×Obj))(σ:St)(Q:VK)(u:aB)(s':aG):Prop:=∃v H',Inv X f' σ H' s'/\RelV v u/\Q v H'
def TP (X:Cx)(f':List (Addr×Obj))(σ:St)(Q:Bool->Hp->Prop)(b:Bool)(s':aG):Prop:=∃H',Inv X f' σ H' s'/\Q b H'
def AP (X:Cx)(f':List (Addr×Obj))(σ:St)(Q:List V->Hp->Prop)(us:List aB)(s':aG):Prop:=∃vs H',Inv X f' σ H' s'/\Vals vs us/\Q vs H'
def SP (X:Cx)(f':List (Addr×Obj))(D:d6)(f:Flow)(s':aG):Prop:=
 match f with
 | .next=>∃σ' H',Inv X f' σ' H' s'/\D.nx σ' H'
 | .brk=>∃σ' H',Inv X f' σ' H' s'/\D.bk σ' H'
 | .cont=>∃σ' H',Inv X f' σ' H' s'/\D.ct σ' H'
 | .ret u=>∃v σ' H',Inv X f' σ' H' s'/\RelV v u/\D.rt v H'
def PE (X:Cx)(e:Expr)(t:TE):Prop:=
 ∀(f':List (Addr×Obj))(s:aG) (σ:St) (H:Hp) (Q:VK),Inv X f' σ H s->t σ H Q->aM (aX X.prog X.w) X.A (eval e X.env) (EP X f' σ Q) X.xe s
def PT (X:Cx)(e:Expr)(t:TT):Prop:=
 ∀(f':List (Addr×Obj))(s:aG) (σ:St) (H:Hp) (Q:Bool->Hp->Prop),Inv X f' σ H s->t σ H Q->aM (aX X.prog X.w) X.A (wQ e X.env (eval e X.env)) (TP X f' σ Q) X.xe s
def PW (X:Cx)(e:Expr)(t:TT):Prop:=
 ∀(AJ:Sem aB)(f':List (Addr×Obj)) (s:aG) (σ:St) (H:Hp) (Q:Bool->Hp->Prop),Inv X f' σ H s->t σ H Q->aM (aX X.prog X.w) X.A (wQ e X.env AJ) (TP X f' σ Q) X.xe s
theorem PW.pt {X:Cx}{e:Expr}{t:TT}(h:PW X e t):PT X e t:=h _
def PA (X:Cx)(es:List Expr)(t:TA):Prop:=
 ∀(pos:Pos)(f':List (Addr×Obj)) (s:aG) (σ:St) (H:Hp) (Q:List V->Hp->Prop),Inv X f' σ H s->t σ H Q->aM (aX X.prog X.w) X.A (yC (jJ pos (cW es X.env))) (AP X f' σ Q) X.xe s
def PS (X:Cx)(st:Stmt)(t:TS):Prop:=
 ∀(f':List (Addr×Obj))(s:aG) (σ:St) (H:Hp) (D:d6),Inv X f' σ H s->t D σ H->aM (aX X.prog X.w) X.A (exec st X.env) (SP X f' D) X.xe s
def PSs (X:Cx)(st:List Stmt)(t:TS):Prop:=
 ∀(f':List (Addr×Obj))(s:aG) (σ:St) (H:Hp) (D:d6),Inv X f' σ H s->t D σ H->aM (aX X.prog X.w) X.A (execs st X.env) (SP X f' D) X.xe s
theorem thn {α:Type}{t:Sem α}{Q Q':α->aG->Prop}{M:sY}{A:cQ}{E:aB->aG->Prop}{s:aG}(h:aM M A t Q E s)(hQ:∀a s,Q a s->Q' a s):aM M A t Q' E s:=iD h hQ λ_ _ x=>x
section
variable {X:Cx}
def ii (i:Nat):TE:=λσ H Q=>∃v,σ[i]?=some (some v)/\Q v H
def tC (v:V):TE:=λ_ H Q=>Q v H
theorem Ud {i:Nat}{x:Str}{pos:Pos}(hN:X.N[i]?=some x)(hv:Vis X.env.scope x)(hd:(x == ("__debug__":Str))=false:=by decide)(DH:(x == ("__classdict__":Str))=false:=by decide):PE X (.Name x pos) (ii i):=by
 intro f' s σ H Q I h;obtain⟨v,e,h⟩:=h;obtain⟨m,hn,hl⟩:=I.loc;obtain⟨u,r,l⟩:=hl i x v hN e hv;have zL:EP X f' σ Q u s:=⟨v,H,I,r,h⟩;rcases l with⟨hk,hm⟩ | ⟨hk,c,hc,C'⟩
 ·exact yO (wpAny_loadName_local I.ok.kind hk hn hm zL) hd
 ·rcases hk with hk | hk
  ·exact yO (wpAny_loadName_cell I.ok.kind hk hc C' zL) hd
  ·exact yO (wpAny_loadName_free I.ok.kind hk hc C' zL DH) hd
theorem af {i j pos}:PE X (.Constant (.int i) j pos) (tC (.int i)):=λ_ _ _ H _ I h=>wpAny_Constant_int ⟨.int i,H,I.tok _,⟨_,rfl⟩,h⟩
theorem j9 {b j pos}:PE X (.Constant (.bool b) j pos) (tC (.bl b)):=λ_ _ _ H _ I h=>Constant_bool ⟨.bl b,H,I,rfl,h⟩
theorem bh {x j pos}:PE X (.Constant (.str x) j pos) (tC (.str x)):=λ_ _ _ H _ I h=>Calls.Constant_str ⟨.str x,H,I.tok _,⟨_,rfl⟩,h⟩
def Gl (X:Cx)(x:Str):Prop:=X.env.kindOf x=some .globalImplicit
theorem m8 {E:aB->aG->Prop}{f':List (Addr×Obj)}{s:aG}{σ:St}{H:Hp}{x:Str}{u:aB}{pos:Pos}{Q:aB->aG->Prop}(I:Inv X f' σ H s)(hg:Gl X x)(hm:X.mg x=some u)(h:Q u s)
  (hd:(x == ("__debug__":Str))=false:=by decide):aM (aX X.prog X.w) X.A (eval (.Name x pos) X.env) Q E s:=
 Calls.Name_function_global I.ok.kind hg (Calls.loadGlobal_global (by rw[I.ok.glob];exact I.mod.glob.keeps I.bk) hm h) hd
theorem ip {E:aB->aG->Prop}{f':List (Addr×Obj)}{s:aG}{σ:St}{H:Hp}{x:Str}{u:aB}{pos:Pos}{Q:aB->aG->Prop}(I:Inv X f' σ H s)(hg:Gl X x)(hm:X.mg x=none)(hv:jI x=some u)(h:Q u s)
  (hn:x≠"__name__":=by decide) (hd:(x == ("__debug__":Str))=false:=by decide):aM (aX X.prog X.w) X.A (eval (.Name x pos) X.env) Q E s:=by
 obtain⟨mb,h1,h2⟩:=I.mod.blt;exact Calls.Name_function_global I.ok.kind hg (Calls.loadGlobal_builtin (by rw[I.ok.glob];exact I.mod.glob.keeps I.bk) hm (by rw[I.ok.blt];exact h1.keeps I.bk) ((h2 x hn).trans hv) h) hd
theorem Ai {x:Str}{v:V}{u:aB}{pos:Pos}(hg:Gl X x)(hm:X.mg x=some u)(r:RelV v u)(hd:(x == ("__debug__":Str))=false:=by decide):PE X (.Name x pos) (tC v):=
 λ_ _ _ H _ I h=>m8 I hg hm ⟨v,H,I,r,h⟩ hd
theorem Fp {x:Str}{v:V}{u:aB}{pos:Pos}(hg:Gl X x)(hm:X.mg x=none)(hv:jI x=some u)(r:RelV v u)(hn:x≠"__name__":=by decide)(hd:(x == ("__debug__":Str))=false:=by decide):PE X (.Name x pos) (tC v):=
 λ_ _ _ H _ I h=>ip I hg hm hv ⟨v,H,I,r,h⟩ hn hd
variable {a b:Expr}{ta tb:TE}{pos:Pos}
def PC (X:Cx)(op:CmpOp)(a b:Expr)(t:TE):Prop:=
 ∀(f':List (Addr×Obj))(s:aG) (σ:St) (H:Hp) (Q:VK),Inv X f' σ H s->t σ H Q->
  aM (aX X.prog X.w) X.A (eval a X.env) (λv s₁=>aM (aX X.prog X.w) X.A (eval b X.env) (λu s₂=>aM (aX X.prog X.w) X.A (lZ op v u) (EP X f' σ Q) X.xe s₂) X.xe s₁) X.xe s
def tB (t:TE):TT:=λσ H Q=>t σ H λx H1=>∃c,x=.bl c/\Q c H1
theorem Ue {op:CmpOp}{t:TE}(h:PC X op a b t)(h1:sI op b=false:=by first | exact nobehind _ (by decide) (by decide) | rfl):PT X (.Compare a [op] [b] pos) (tB t):=by
 intro f' s σ H Q I hw;refine wpAny_isTrue_Compare1 (thn (h f' s σ H _ I hw) λv s1 h1=>thn h1 λu s2 h2=>thn h2 λc s3 zF=>?_) h1;obtain⟨x,H1,I1,r1,q1⟩:=zF;obtain⟨d,rfl,q⟩:=q1;cases r1;exact lY ⟨H1,I1,q⟩
theorem o7 {e:Expr}{t:TE}(h:PE X e t)(he:∀AJ,wQ e X.env AJ=(do let v <-AJ;vK e.pos;rF [v] (truthy v)):=by intro _;rfl):PT X e (tB t):=by
 intro f' s σ H Q I hw;refine isTrue_plain (thn (h f' s σ H _ I hw) λv s1 zF=>?_) (he _);obtain⟨x,H1,I1,r1,q1⟩:=zF;obtain⟨d,rfl,q⟩:=q1;cases r1;exact lY ⟨H1,I1,q⟩
variable {tA MY:TT}{rest:List Expr}
def tAnd (t u:TT):TT:=λσ H Q=>t σ H λc H1=>if c=true then u σ H1 Q else Q false H1
def tOr (t u:TT):TT:=λσ H Q=>t σ H λc H1=>if c=true then Q true H1 else u σ H1 Q
def tNot (t:TT):TT:=λσ H Q=>t σ H λc H1=>Q (!c) H1
theorem o8 (ha:PT X a tA):PW X (.BoolOp .And [a] pos) tA:=by
 intro wh f' s σ H Q I h;refine isTrue_and (thn (ha f' s σ H Q I h) λc s1 e=>?_);cases c with
 |true=>exact isTrue_and_nil e
 |false=>exact e
theorem yb (ha:PT X a tA):PW X (.BoolOp .Or [a] pos) tA:=by
 intro wh f' s σ H Q I h;refine isTrue_or (thn (ha f' s σ H Q I h) λc s1 e=>?_);cases c with
 |false=>exact isTrue_or_nil e
 |true=>exact e
theorem o9 (ha:PT X a tA)(hb:PW X (.BoolOp .And (b::rest) pos) MY):PW X (.BoolOp .And (a::b::rest) pos) (tAnd tA MY):=by
 intro wh f' s σ H Q I h;refine isTrue_and (thn (ha f' s σ H _ I h) λc s1 zF=>?_);obtain⟨H1,I1,q1⟩:=zF;cases c with
 |true=>exact hb wh f' s1 σ H1 Q I1 q1
 |false=>exact⟨H1,I1,q1⟩
theorem yc (ha:PT X a tA)(hb:PW X (.BoolOp .Or (b::rest) pos) MY):PW X (.BoolOp .Or (a::b::rest) pos) (tOr tA MY):=by
 intro wh f' s σ H Q I h;refine isTrue_or (thn (ha f' s σ H _ I h) λc s1 zF=>?_);obtain⟨H1,I1,q1⟩:=zF;cases c with
 |true=>exact⟨H1,I1,q1⟩
 |false=>exact hb wh f' s1 σ H1 Q I1 q1
theorem ye (ha:PT X a tA):PT X (.UnaryOp .Not a pos) (tNot tA):=by
 intro f' s σ H Q I h;exact isTrue_not (ha f' s σ H (λc H1=>Q (!c) H1) I h)
def Qn (ta tb:TE):TE:=λσ H Q=>ta σ H λx H1=>∃c,x=.bl c/\if c=true then tb σ H1 Q else Q (.bl false) H1
theorem Uf {op}{t:TE}(h:PE X a t):PE X (.BoolOp op [a] pos) t:=λf' s σ H Q I hw=>BoolOp_one (h f' s σ H Q I hw)
theorem Ug (ha:PE X a ta)(hb:PE X (.BoolOp .And (b::rest) pos) tb):PE X (.BoolOp .And (a::b::rest) pos) (Qn ta tb):=by
 intro f' s σ H Q I h;refine BoolOp_and (thn (ha f' s σ H _ I h) λv s1 zF=>?_);obtain⟨x,H1,I1,r1,q1⟩:=zF;obtain⟨c,rfl,q1⟩:=q1;cases r1;refine lY ?_;cases c with
 |true=>exact hb f' s1 σ H1 Q I1 q1
 |false=>exact⟨.bl false,H1,I1,rfl,q1⟩
def tIf (t:TT)(ta tb:TE):TE:=λσ H Q=>t σ H λc H1=>if c=true then ta σ H1 Q else tb σ H1 Q
theorem wz {c:Expr}(hc:PT X c tA)(ha:PE X a ta)(hb:PE X b tb):PE X (.IfExp c a b pos) (tIf tA ta tb):=by
 intro f' s σ H Q I h;refine wpAny_IfExp (thn (hc f' s σ H _ I h) λd s1 zF=>?_);obtain⟨H1,I1,q1⟩:=zF;cases d with
 |true=>exact ha f' s1 σ H1 Q I1 q1
 |false=>exact hb f' s1 σ H1 Q I1 q1
end
def SqL (K:aC)(H:Hp)(a:Addr)(xs:List V):Prop:=
 Rd H a (.lst xs)\/
  ∃(o:Obj)(its:Array aB) (n:Nat),K.lookup a=some o/\o.cls=.type "list"/\o.dict=none/\o.data=.seq its n/\its.size<=sizeLine/\Vals xs its.toList
def SqT (K:aC)(H:Hp)(a:Addr)(xs:List V):Prop:=
 Rd H a (.tup xs)\/
  ∃(o:Obj)(its:Array aB) (n:Nat),K.lookup a=some o/\o.cls=.type "tuple"/\o.data=.seq its n/\its.size<=sizeLine/\Vals xs its.toList
def absV:aB->Option V
 | .none=>some .non
 | .bool b=>some (.bl b)
 | .int i _=>some (.int i)
 | .str x _=>some (.str x)
 | .bytes b _=>some (.byt b)
 | .float b _=>some (.flt b)
 | .ref a=>some (.ref a)
 | .type n=>some (.ty n)
 |_=>none
theorem RelV.abs {x:V}{u:aB}(r:RelV x u):absV u=some x:=by
 cases x with
 |non=>cases r;rfl
 |bl _=>cases r;rfl
 |int _=>obtain⟨t,rfl⟩:=r;rfl
 |str _=>obtain⟨t,rfl⟩:=r;rfl
 |byt _=>obtain⟨t,rfl⟩:=r;rfl
 |flt _=>obtain⟨t,rfl⟩:=r;rfl
 |ref _=>cases r;rfl
 |ty _=>cases r;rfl
theorem RelV.inj {x y:V}{u:aB}(r:RelV x u)(q:RelV y u):x=y:=eA (r.abs.symm.trans q.abs)
theorem Vals.inj:∀{xs ys:List V}{us:List aB},Vals xs us->Vals ys us->xs=ys
 |_,_,_,.nil,.nil=>rfl
 |_,_,_,.cons r t,.cons r' t'=>by rw[r.inj r',Vals.inj t t']
section
variable {X:Cx}{f':List (Addr×Obj)}{σ:St}{H:Hp}{s:aG}{a:Addr}{xs ys:List V}
theorem SqL.of {K:aC}(h:H a=some (.lst xs)):SqL K H a xs:=.inl (.inl h)
theorem SqT.of {K:aC}(h:H a=some (.tup xs)):SqT K H a xs:=.inl (.inl h)
theorem Inv.list (I:Inv X f' σ H s)(h:SqL X.K H a xs):∃its:List aB,Vals xs its/\PlainL s.heap a its.toArray/\xs.length<=sizeLine:=by
 rcases h with h | ⟨o,its,n,hk,hc,hd,hs,hz,r⟩
 ·obtain⟨z,its,n,r,e⟩:=h.ok I.hok;exact⟨its,r,⟨_,n,e,rfl,rfl,rfl⟩,z⟩
 ·refine⟨its.toList,r,⟨o,n,I.kIn a o hk,hc,hd,by simpa using hs⟩,?_⟩;have e:=r.length;simp only[gA]at e;lia
theorem Inv.tuple (I:Inv X f' σ H s)(h:SqT X.K H a xs):∃its:List aB,Vals xs its/\yL s.heap a its.toArray/\xs.length<=sizeLine:=by
 rcases h with h | ⟨o,its,n,hk,hc,hs,hz,r⟩
 ·obtain⟨z,its,r,p⟩:=h.ok I.hok;exact⟨its,r,p,z⟩
 ·refine⟨its.toList,r,⟨o,I.kIn a o hk,hc,n,by simpa using hs⟩,?_⟩;have e:=r.length;simp only[gA]at e;lia
theorem Inv.list_inj (I:Inv X f' σ H s)(h:SqL X.K H a xs)(h':SqL X.K H a ys):xs=ys:=by
 obtain⟨its,r,⟨o,n,e,_,_,d⟩,_⟩:=I.list h;obtain⟨its',r',⟨o',n',e',_,_,d'⟩,_⟩:=I.list h';rw[e]at e';cases e';rw[d]at d';injection d' with d1 _;have:its=its':=(by simpa using congrArg Array.toList d1);subst this;exact r.inj r'
theorem Inv.tuple_inj (I:Inv X f' σ H s)(h:SqT X.K H a xs)(h':SqT X.K H a ys):xs=ys:=by
 obtain⟨its,r,⟨o,e,_,n,d⟩,_⟩:=I.tuple h;obtain⟨its',r',⟨o',e',_,n',d'⟩,_⟩:=I.tuple h';rw[e]at e';cases e';rw[d]at d';injection d' with d1 _;have:its=its':=(by simpa using congrArg Array.toList d1);subst this;exact r.inj r'
end
abbrev Cx.wish (X:Cx)(E:aB->aG->Prop):Cx:={ X with xe:=E }
abbrev Cx.nox (X:Cx):Cx:=X.wish λ_ _=>False
theorem Cx.Ok.wish {X:Cx}(ok:X.Ok)(E:aB->aG->Prop):(X.wish E).Ok:=
 ⟨ok.mod,ok.kind,ok.glob,ok.blt,ok.above,ok.inj,ok.has,ok.cab,ok.hd,ok.frames,ok.stk,ok.exf,ok.bs,ok.bsz,ok.noex,ok.exfs,ok.funs,ok.frf⟩
theorem Cx.Ok.unwish {X:Cx}{E:aB->aG->Prop}(ok:(X.wish E).Ok):X.Ok:=
 ⟨ok.mod,ok.kind,ok.glob,ok.blt,ok.above,ok.inj,ok.has,ok.cab,ok.hd,ok.frames,ok.stk,ok.exf,ok.bs,ok.bsz,ok.noex,ok.exfs,ok.funs,ok.frf⟩
section
variable {X:Cx}{f':List (Addr×Obj)}{σ:St}{H:Hp}{s:aG}{E:aB->aG->Prop}
theorem Inv.wish (I:Inv X f' σ H s)(E:aB->aG->Prop):Inv (X.wish E) f' σ H s:=⟨I.ok.wish E,I.os,I.bare,I.base,I.loc,I.cell,I.free,I.freeC,I.pin,I.hok,I.len⟩
theorem Inv.unwish (I:Inv (X.wish E) f' σ H s):Inv X f' σ H s:=⟨I.ok.unwish,I.os,I.bare,I.base,I.loc,I.cell,I.free,I.freeC,I.pin,I.hok,I.len⟩
theorem SP.unwish {D:d6}{f:Flow}{s':aG}(h:SP (X.wish E) f' D f s'):SP X f' D f s':=by
 cases f with
 |next=>obtain⟨σ',H',I,q⟩:=h;exact⟨σ',H',I.unwish,q⟩
 |brk=>obtain⟨σ',H',I,q⟩:=h;exact⟨σ',H',I.unwish,q⟩
 |cont=>obtain⟨σ',H',I,q⟩:=h;exact⟨σ',H',I.unwish,q⟩
 |ret u=>obtain⟨v,σ',H',I,r,q⟩:=h;exact⟨v,σ',H',I.unwish,r,q⟩
theorem PSs.nox {st:List Stmt}{t:TS}(h:PSs X.nox st t):PSs X st t:=λf' s σ H D I hw=>
 iD (h f' s σ H D (I.wish _) hw) (λ_ _ q=>q.unwish) λ_ _ z=>iO z
end
section
variable {X:Cx}{st:Stmt}{rest:List Stmt}{t u:TS}{e:Expr}{te:TE}{pos:Pos}
def yf:TS:=λD σ H=>D.nx σ H
def Uh (t u:TS):TS:=λD σ H=>t { D with nx:=u D } σ H
theorem bo:PSs X [] yf:=λ_ _ σ H _ I h=>sZ ⟨σ,H,I,h⟩
theorem ag (h1:PS X st t)(h2:PSs X rest u):PSs X (st::rest) (Uh t u):=by
 intro f' s σ H D I h;refine wpAny_execs_cons (thn (h1 f' s σ H { D with nx:=u D } I h) λf s1 q=>?_);cases f with
 |next=>
  obtain⟨σ',H',I',q⟩:=q;exact h2 f' s1 σ' H' D I' q
 |ret v=>exact q
 |brk=>exact q
 |cont=>exact q
theorem ah (h1:PS X st t):PSs X [st] t:=by
 intro f' s σ H D I h;refine wpAny_execs_cons (thn (h1 f' s σ H D I h) λf s1 q=>?_);cases f with
 |next=>exact sZ q
 |ret v=>exact q
 |brk=>exact q
 |cont=>exact q
theorem Inv.quiet {f':List (Addr×Obj)}{σ:St}{H:Hp}{s:aG}(I:Inv X f' σ H s):interactive X.env=false:=by simp[interactive,I.ok.kind]
def Wi (te:TE):TS:=λD σ H=>te σ H λ_ H1=>D.nx σ H1
theorem cw (he:PE X e te)(hs:uP e none pos.line X.env=pure false:=by rfl):PS X (.Expr e pos) (Wi te):=by
 intro f' s σ H D I h;exact wpAny_Expr_any (thn (he f' s σ H _ I h) λv s1 zF=>by obtain⟨x,H1,I1,r1,q1⟩:=zF;exact⟨σ,H1,I1,q1⟩) I.quiet hs
def tRet (te:TE):TS:=λD σ H=>te σ H D.rt
theorem ax (he:PE X e te):PS X (.Return (some e) pos) (tRet te):=by
 intro f' s σ H D I h;exact wpAny_Return_some (thn (he f' s σ H _ I h) λv s1 zF=>by obtain⟨x,H1,I1,r1,q1⟩:=zF;exact⟨x,σ,H1,I1,r1,q1⟩)
def Nt (c:TT)(t u:TS):TS:=λD σ H=>c σ H λb H1=>if b=true then t D σ H1 else u D σ H1
theorem cn {c:Expr}{a b:List Stmt}{tc:TT}(hc:PT X c tc)(ha:PSs X a t)(hb:PSs X b u):PS X (.If c a b pos) (Nt tc t u):=by
 intro f' s σ H D I h;refine wpAny_If (thn (hc f' s σ H _ I h) λd s1 zF=>?_);obtain⟨H1,I1,q1⟩:=zF;cases d with
 |true=>exact ha f' s1 σ H1 D I1 q1
 |false=>exact hb f' s1 σ H1 D I1 q1
end
abbrev TG:=V->St->Hp->(St->Hp->Prop)->Prop
abbrev TGs:=List V->St->Hp->(St->Hp->Prop)->Prop
def PG (X:Cx)(target:Expr)(t:TG):Prop:=
 ∀(f':List (Addr×Obj))(s:aG) (σ:St) (H:Hp) (v:V) (u:aB) (Q:St->Hp->Prop),Inv X f' σ H s->RelV v u->t v σ H Q->
  aM (aX X.prog X.w) X.A (uQ target X.env u) (λ_ s'=>∃σ' H',Inv X f' σ' H' s'/\Q σ' H') X.xe s
def PGs (X:Cx)(ts:List Expr)(t:TGs):Prop:=
 ∀(f':List (Addr×Obj))(s:aG) (σ:St) (H:Hp) (vs:List V) (us:List aB) (Q:St->Hp->Prop),Inv X f' σ H s->Vals vs us->t vs σ H Q->
  aM (aX X.prog X.w) X.A (assignInOrder ((pQ ts X.env).map (·.2)) us) (λ_ s'=>∃σ' H',Inv X f' σ' H' s'/\Q σ' H') X.xe s
abbrev Hn:=V->V->V->Hp->(Hp->Prop)->Prop
def Nu (X:Cx)(t:Hn):Prop:=
 ∀(f':List (Addr×Obj))(s:aG) (σ:St) (H:Hp) (o i v:V) (ov iv u:aB) (Q:Hp->Prop),Inv X f' σ H s->RelV o ov->RelV i iv->RelV v u->t o i v H Q->
  aM (aX X.prog X.w) X.A (setItem ov iv u) (λ_ s'=>∃H',Inv X f' σ H' s'/\Q H') X.xe s
abbrev TIp:=V->V->Hp->VK->Prop
def PIp (X:Cx)(op:Operator)(t:TIp):Prop:=
 ∀(f':List (Addr×Obj))(s:aG) (σ:St) (H:Hp) (x y:V) (v u:aB) (Q:VK),Inv X f' σ H s->RelV x v->RelV y u->t x y H Q->
  aM (aX X.prog X.w) X.A (xJ op v u) (EP X f' σ Q) X.xe s
section
variable {X:Cx}{pos:Pos}
def mq (i:Nat):TG:=λv σ H Q=>Q (σ.set i (some v)) H
theorem ba {i:Nat}{x:Str}(hN:X.N.Nodup)(hi:X.N[i]?=some x)(hx:Loc X.env.scope x)(hf:X.fn x=true\/X.env.scope.names.lookup x=some .local:=by first | exact .inl rfl | exact .inr rfl | assumption):PG X (.Name x pos) (mq i):=by
 intro f' s σ H v u Q I r h;exact wpAny_assign_Name (wx I hN hi hx r (λs' I'=>⟨_,H,I',h⟩) hf)
def Ui:TGs:=λvs σ H Q=>vs=[]/\Q σ H
def Ho (t:TG)(u:TGs):TGs:=λvs σ H Q=>∃v r,vs=v::r/\t v σ H λσ' H'=>u r σ' H' Q
theorem m9:PGs X [] Ui:=by
 intro f' s σ H vs us Q I r h;obtain⟨e,h⟩:=h;subst e;cases r;exact assignInOrder_nil ⟨σ,H,I,h⟩
theorem fb {e:Expr}{es:List Expr}{t:TG}{u:TGs}(h1:PG X e t)(h2:PGs X es u)
  (hs:(pQ (e::es) X.env).map (·.2)=uQ e X.env::(pQ es X.env).map (·.2):=by rfl):PGs X (e::es) (Ho t u):=by
 intro f' s σ H vs us Q I r h;obtain⟨v,vr,e1,h⟩:=h;subst e1;cases r with
 |cons r rr=>
  rw[hs];refine assignInOrder_cons (thn (h1 f' s σ H _ _ _ I r h) λ_ s1 zF=>?_);obtain⟨σ1,H1,I1,q1⟩:=zF;exact h2 f' s1 σ1 H1 _ _ Q I1 rr q1
def Uj (K:aC)(n:Nat)(t:TGs):TG:=λv σ H Q=>∃a xs,v=.ref a/\SqT K H a xs/\xs.length=n/\t xs σ H Q
theorem tj {es:List Expr}{k:Nat}{t:TGs}{n:Nat}(hc:X.calm=true)(h:PGs X es t)
  (hn:(pQ es X.env).length=n:=by rfl) (DI:(pQ es X.env).findIdx? (·.1)=none:=by rfl):PG X (.Tuple es k pos) (Uj X.K n t):=by
 intro f' s σ H v u Q I r hw;obtain⟨a,xs,e1,hq,hl,hw⟩:=hw;subst e1;cases r;obtain⟨its,rv,ht,hz⟩:=I.tuple hq;refine assign_Tuple_tuple (I.ok.hd hc) ht (by simp[hn,<-hl,rv.length]) DI λh' hx=>?_;have I1:Inv X f' σ H { s with heap:=h' }:=I.kept (t':=s.toks) λb o e=>hx b o (cK (aZ e)) e;exact h f' _ σ H xs _ Q I1 (by simpa using rv) hw
def gSub (to ti:TE)(t:Hn):TG:=λv σ H Q=>to σ H λo H1=>ti σ H1 λi H2=>t o i v H2 λH3=>Q σ H3
theorem iq {o i:Expr}{to ti:TE}{t:Hn}(ho:PE X o to)(hi:PE X i ti)(hs:Nu X t)
  (ha:∀v,uQ (.Subscript o i pos) X.env v=(do
    let ov <-rF [v] (eval o X.env)
    let iv <-rF [v,ov] (eval i X.env)
    vK pos
    rF [v,ov,iv] (setItem ov iv v)
    release [v,ov,iv] []):=by intro _;rfl):PG X (.Subscript o i pos) (gSub to ti t):=by
 intro f' s σ H v u Q I r h;rw[ha];refine aA (gH (thn (ho f' s σ H _ I h) λov s1 zF=>?_));obtain⟨x,H1,I1,r1,q1⟩:=zF;refine aA (gH (thn (hi f' s1 σ H1 _ I1 q1) λiv s2 zF=>?_));obtain⟨y,H2,I2,r2,q2⟩:=zF;refine aA (nU (aA (gH (thn (hs f' s2 σ H2 x y v ov iv u _ I2 r1 r2 r q2) λ_ s3 zF=>?_))));obtain⟨H3,I3,q3⟩:=zF;exact wpAny_release ⟨σ,H3,I3,q3⟩
def Uk (te:TE)(g:TG):TS:=λD σ H=>te σ H λx H1=>g x σ H1 D.nx
theorem fw {tg e:Expr}{te:TE}{g:TG}(he:PE X e te)(hg:PG X tg g)(hs:swapsWithSole [tg] e pos.line X.env=pure false:=by rfl)(hw:swappedStores [tg] e X.env=pure none:=by rfl)
  (h1:(pQ [tg] X.env).map (·.2)=[uQ tg X.env]:=by rfl):PS X (.Assign [tg] e pos) (Uk te g):=by
 intro f' s σ H D I h;refine wpAny_Assign_stores (thn (he f' s σ H _ I h) λv s1 zF=>?_) hs hw;obtain⟨x,H1,I1,r1,q1⟩:=zF;rw[h1];exact thn (hg f' s1 σ H1 x v _ I1 r1 q1) λ_ s2 q=>q
theorem av {i:Nat}{x:Str}{e:Expr}{te:TE}{AQ:Pos}(hN:X.N.Nodup)(hi:X.N[i]?=some x)(hx:Loc X.env.scope x)(he:PE X e te)(hs:uP e (some (.Name x AQ)) pos.line X.env=pure false:=by rfl)(hf:X.fn x=true\/X.env.scope.names.lookup x=some .local:=by first | exact .inl rfl | exact .inr rfl | assumption) :
  PS X (.Assign [.Name x AQ] e pos) (Uk te (mq i)):=by
 intro f' s σ H D I h;refine wpAny_Assign_Name (thn (he f' s σ H _ I h) λv s1 zF=>?_) hs;obtain⟨y,H1,I1,r1,q1⟩:=zF;exact wx I1 hN hi hx r1 (λs2 I2=>⟨_,H1,I2,q1⟩) hf
def tAug (i:Nat)(te:TE)(ti:TIp):TS:=λD σ H=>∃x,σ[i]?=some (some x)/\te σ H λy H1=>ti x y H1 λz H2=>D.nx (σ.set i (some z)) H2
theorem Ks {i:Nat}{x:Str}{e:Expr}{te:TE}{op:Operator}{ti:TIp}{AQ:Pos}(hN:X.N.Nodup)(hi:X.N[i]?=some x)(hx:Loc X.env.scope x)(he:PE X e te)(ho:PIp X op ti)(hf:X.fn x=true\/X.env.scope.names.lookup x=some .local:=by first | exact .inl rfl | exact .inr rfl | assumption) :
  PS X (.AugAssign (.Name x AQ) op e pos) (tAug i te ti):=by
 intro f' s σ H D I h;obtain⟨v,e1,h⟩:=h;obtain⟨m,hn,hl⟩:=I.loc;have vis:Vis X.env.scope x:=(by rcases hx with k | k;exact .inl k;exact .inr (.inl k));obtain⟨u,r,l⟩:=hl i x v hi e1 vis;refine wpAny_AugAssign_Name ?_;have go:aM (aX X.prog X.w) X.A (eval e X.env) (λw s₂=>aM (aX X.prog X.w) X.A (xJ op u w) (λr s₃=>aM (aX X.prog X.w) X.A (storeName X.env x r) (λ_=>SP X f' D .next) X.xe s₃) X.xe s₂) X.xe s:=by
  refine thn (he f' s σ H _ I h) λw s1 zF=>?_;obtain⟨y,H1,I1,r1,q1⟩:=zF;refine thn (ho f' s1 σ H1 v y u w _ I1 r r1 q1) λz s2 zF=>?_;obtain⟨zv,H2,I2,r2,q2⟩:=zF;exact wx I2 hN hi hx r2 (λs3 I3=>⟨_,H2,I3,q2⟩) hf
 rcases l with⟨hk,hm⟩ | ⟨hk,c,hc,C'⟩
 ·exact wpAny_loadName_local I.ok.kind hk hn hm go
 ·rcases hk with hk | hk
  ·exact wpAny_loadName_cell I.ok.kind hk hc C' go
  ·rcases hx with k | k
   ·have:X.env.scope.names.lookup x=some .free:=hk;rw[k]at this;cases this
   ·have:X.env.scope.names.lookup x=some .free:=hk;rw[k]at this;cases this
def Ul (c:TT)(tb:TS):TS:=λD σ H=>∃W:Nat->St->Hp->Prop,(∃m,W m σ H)/\∀m σ H,W m σ H->
 c σ H λb H1=>if b=true then ∃N:St->Hp->Prop,(∀σ' H',N σ' H'->∃m',m' < m/\W m' σ' H')/\tb { D with nx:=N,ct:=N,bk:=D.nx } σ H1 else D.nx σ H1
theorem nh {c:Expr}{body:List Stmt}{tc:TT}{tb:TS}(hp:PassesOwn (aX X.prog X.w) X.A X.env X.xe)(hc:PT X c tc)(hb:PSs X body tb):PS X (.While c body [] pos) (Ul tc tb):=by
 intro f' s σ H D I h;obtain⟨W,⟨m0,w0⟩,BL⟩:=h;refine wpAny_While (codeAny_whileLoop (λn s'=>∃σ' H',Inv X f' σ' H' s'/\W n σ' H') ?_ m0 ⟨σ,H,I,w0⟩);intro n s1 zE;obtain⟨σ1,H1,I1,w1⟩:=zE;refine nM hp (thn (hc f' s1 σ1 H1 _ I1 (BL n σ1 H1 w1)) λb s2 zF=>?_);obtain⟨H2,I2,q2⟩:=zF;cases b with
 |true=>
  obtain⟨N,hN,q2⟩:=q2;rw[if_pos rfl];refine nM hp (thn (hb f' s2 σ1 H2 _ I2 q2) λf s3 q3=>?_);cases f with
  |next=>
   obtain⟨σ3,H3,I3,n3⟩:=q3;obtain⟨m',hm,w3⟩:=hN σ3 H3 n3;exact⟨m',hm,σ3,H3,I3,w3⟩
  |cont=>
   obtain⟨σ3,H3,I3,n3⟩:=q3;obtain⟨m',hm,w3⟩:=hN σ3 H3 n3;exact⟨m',hm,σ3,H3,I3,w3⟩
  |brk=>exact q3
  |ret v=>exact q3
 |false=>
  rw[if_neg bZ];exact sZ ⟨σ1,H2,I2,q2⟩
end
structure It where
 go:Nat->Hp->Prop
 yld:Nat->Hp->V->Hp->Prop
 stop:Nat->Hp->Prop
def ij (X:Cx)(f':List (Addr×Obj))(H:Hp)(b:Addr):Prop:=
 H b=none/\b≠X.env.locals/\b ∉ X.fs/\(b∈X.ex\/X.s₀.heap.objs.size<=b)/\(∀x c,X.env.cells.lookup x=some c->c≠b)/\∀p∈X.pn++f',p.1≠b
theorem Inv.fpOk {X:Cx}{f':List (Addr×Obj)}{σ:St}{H H':Hp}{s:aG}{b:Addr}(I:Inv X f' σ H s)(hb:s.heap.objs.size<=b)(hn:H' b=none):ij X f' H' b:=by
 refine⟨hn,gN (eG I.lt hb),I.nofs hb,.inr (bQ I.sz hb),λx c e z=>?_,λp hp z=>?_⟩
 ·obtain⟨v,q⟩:=I.cell x c e;exact absurd (eG q.lt (by rw[z];exact hb)) (jH _)
 ·exact absurd (eG (aZ (I.pin p hp).1) (by rw[z];exact hb)) (jH _)
structure tm (P:aP)(w:aW)(K:aC)(tg:Expr)(J:It)(fp:List Addr)(it:Addr)(tn:Nat->Heap->Prop):Prop where
 mem:it∈fp
 obj:∀i h,tn i h->∀b∈fp,∃o,h.get? b=some o/\∀v,o.data≠.cell v
 keep:∀i h h',tn i h->(∀b∈fp,∀o,h.get? b=some o->h'.get? b=some o)->tn i h'
 item:∀(X:Cx),X.prog=P->X.w=w->X.K=K->X.calm=true->∀(i:Nat)(f':List (Addr×Obj)) (s:aG) (σ:St) (H:Hp) (E:aB->aG->Prop),Inv X f' σ H s->(∀b∈fp,ij X f' H b)->tn i s.heap->J.go i H->
  aM (aX P w) X.A (lE (.ref it)) (λr s1=>∃u,r=some u/\aM (aX P w) X.A (tI tg (.ref it) u) (λ_ s2=>∃x H',Inv X f' σ H' s2/\RelV x u/\J.yld i H x H'/\tn (i+1) s2.heap/\∀b∈fp,H' b=none) E s1) E s
 done:∀(X:Cx),X.prog=P->X.w=w->X.K=K->X.calm=true->∀(i:Nat)(f':List (Addr×Obj)) (s:aG) (σ:St) (H:Hp) (E:aB->aG->Prop),Inv X f' σ H s->(∀b∈fp,ij X f' H b)->tn i s.heap->J.stop i H->
  aM (aX P w) X.A (lE (.ref it)) (λr s1=>r=none/\Inv X f' σ H s1) E s
 self:∀(A:cQ)(i:Nat) (s:aG) (Q:aB->aG->Prop) (E:aB->aG->Prop),tn i s.heap->Q (.ref it) s->aM (aX P w) A (yP (.ref it)) Q E s
abbrev TI:=St->Hp->(It->Hp->Prop)->Prop
def PIE (X:Cx)(f':List (Addr×Obj))(σ:St)(tg:Expr)(R:It->Hp->Prop)(MZ:aB)(s2:aG):Prop:=
 ∃(it:Addr)(fp:List Addr) (tn:Nat->Heap->Prop) (J:It) (H':Hp),MZ=.ref it/\Inv X f' σ H' s2/\tm X.prog X.w X.K tg J fp it tn/\tn 0 s2.heap/\(∀b∈fp,ij X f' H' b)/\R J H'
def PI (X:Cx)(tg iter:Expr)(wi:TI):Prop:=
 ∀(f':List (Addr×Obj))(s:aG) (σ:St) (H:Hp) (R:It->Hp->Prop),Inv X f' σ H s->wi σ H R->
  aM (aX X.prog X.w) X.A (eval iter X.env) (λv s1=>aM (aX X.prog X.w) X.A (yP v) (PIE X f' σ tg R) X.xe s1) X.xe s
theorem Cd {M:sY}{A:cQ}{E:aB->aG->Prop}{s:aG}{tg:Expr}{it:Addr}{u:aB}{o:Obj}{n:String}{vs:Array aB}{Q:Unit->aG->Prop}(ho:s.heap.get? it=some o)(hc:o.cls=.type n)(hd:o.data=.fields vs)
  (hn:["enumerate","zip","dict_itemiterator","dict_reverseitemiterator","odict_iterator","itertools.zip_longest","itertools.pairwise"].contains n=false) (hQ:Q () s):aM M A (tI tg (.ref it) u) Q E s:=by
 unfold tI;cases tg<;>first
  |exact wpAny_pure hQ
  | (cases u<;>first
      |exact wpAny_pure hQ
      | (refine aA (wpAny_load ho ?_)
         rw[hc,hd];show aM M A (if (["enumerate","zip","dict_itemiterator","dict_reverseitemiterator","odict_iterator","itertools.zip_longest","itertools.pairwise"].contains n && vs[0]? == some (jF _))=true then _ else _) Q E s
         rw[if_neg (by intro h;rw[hn,Bool.false_and]at h;cases h)];exact wpAny_pure hQ))
def Itl (K:aC)(a:Addr):It:=
 ⟨λi H=>∃xs x,SqL K H a xs/\xs[i]?=some x,λi H x H'=>H'=H/\∀xs,SqL K H a xs->xs[i]?=some x,λi H=>∃xs,SqL K H a xs/\xs.length<=i⟩
def Itt (K:aC)(a:Addr):It:=
 ⟨λi H=>∃xs x,SqT K H a xs/\xs[i]?=some x,λi H x H'=>H'=H/\∀xs,SqT K H a xs->xs[i]?=some x,λi H=>∃xs,SqT K H a xs/\xs.length<=i⟩
def Itr (lo:Int)(n:Nat):It:=⟨λi _=>i < n,λi H x H'=>H'=H/\x=.int (lo+i),λi _=>n<=i⟩
theorem Kt {P:aP}{w:aW}{K:aC}{tg:Expr}(a it:Addr):tm P w K tg (Itl K a) [it] it (λi h=>h.IsListIter it a i) where
 mem:=by simp
 obj:=λi h st b hb=>by
  have e:b=it:=(by simpa using hb);subst e;obtain⟨o,e,c,d⟩:=st;exact⟨o,e,λv z=>by rw[d]at z;cases z⟩
 keep:=λi h h' st k=>st.at λo e=>k it (by simp) o e
 item:=by
  intro X hP hw hK hc i f' s σ H E I hf st hg;subst hP hw hK;obtain⟨xs,x,hq,hx⟩:=hg;obtain⟨its,rv,p,hz⟩:=I.list hq;obtain⟨u,hu,ru⟩:=rv.get hx;obtain⟨f0,f1,f2,f3,f4,f5⟩:=hf it (by simp);refine wpAny_pyNext_list_item st p.isList (x:=u) (by simpa using hu) λh' BT sb=>?_;have I1:Inv X f' σ H { s with heap:=h' }:=I.turned (t':=s.toks) (λb o hb e=>(sb.2 b hb).trans e) f0 f1 f3 f4 f5;obtain⟨o,e,c,d⟩:=id BT;exact⟨u,rfl,Cd (s:={ s with heap:=h' }) e c d (by decide) ⟨x,H,I1,ru,⟨rfl,λys hy=>by rw[I.list_inj hy hq];exact hx⟩,BT,λb hb=>(hf b hb).1⟩⟩
 done:=by
  intro X hP hw hK hc i f' s σ H E I hf st hg;subst hP hw hK;obtain⟨xs,hq,hx⟩:=hg;obtain⟨its,rv,p,hz⟩:=I.list hq;obtain⟨f0,f1,f2,f3,f4,f5⟩:=hf it (by simp);have hl:=rv.length;exact wpAny_pyNext_list_end (I.ok.hd hc) st p.isList (by simp;lia) λh' eb=>⟨rfl,I.turned (t':=s.toks) (λb o hb e=>eb b o hb e) f0 f1 f3 f4 f5⟩
 self:=λ_ _ _ _ _ st h=>wpAny_pyIter_listiter st h
theorem Hq {P:aP}{w:aW}{K:aC}{tg:Expr}(a it:Addr):tm P w K tg (Itt K a) [it] it (λi h=>h.IsTupleIter it a i) where
 mem:=by simp
 obj:=λi h st b hb=>by
  have e:b=it:=(by simpa using hb);subst e;obtain⟨o,e,c,d⟩:=st;exact⟨o,e,λv z=>by rw[d]at z;cases z⟩
 keep:=λi h h' st k=>st.at λo e=>k it (by simp) o e
 item:=by
  intro X hP hw hK hc i f' s σ H E I hf st hg;subst hP hw hK;obtain⟨xs,x,hq,hx⟩:=hg;obtain⟨its,rv,p,hz⟩:=I.tuple hq;obtain⟨u,hu,ru⟩:=rv.get hx;obtain⟨f0,f1,f2,f3,f4,f5⟩:=hf it (by simp);refine wpAny_pyNext_tuple_item st (show s.heap.IsTuple a its.toArray from p) (x:=u) (by simpa using hu) λh' BT sb=>?_;have I1:Inv X f' σ H { s with heap:=h' }:=I.turned (t':=s.toks) (λb o hb e=>(sb.2 b hb).trans e) f0 f1 f3 f4 f5;obtain⟨o,e,c,d⟩:=id BT;exact⟨u,rfl,Cd (s:={ s with heap:=h' }) e c d (by decide) ⟨x,H,I1,ru,⟨rfl,λys hy=>by rw[I.tuple_inj hy hq];exact hx⟩,BT,λb hb=>(hf b hb).1⟩⟩
 done:=by
  intro X hP hw hK hc i f' s σ H E I hf st hg;subst hP hw hK;obtain⟨xs,hq,hx⟩:=hg;obtain⟨its,rv,p,hz⟩:=I.tuple hq;obtain⟨f0,f1,f2,f3,f4,f5⟩:=hf it (by simp);have hl:=rv.length;exact wpAny_pyNext_tuple_end (I.ok.hd hc) st (show s.heap.IsTuple a its.toArray from p) (by simp;lia) λh' eb=>⟨rfl,I.turned (t':=s.toks) (λb o hb e=>eb b o hb e) f0 f1 f3 f4 f5⟩
 self:=λ_ _ _ _ _ st h=>wpAny_pyIter_tupleiter st h
theorem Hr {P:aP}{w:aW}{K:aC}{tg:Expr}(it:Addr)(lo:Int)(n:Nat):tm P w K tg (Itr lo n) [it] it (λi h=>IsRangeIter h it (lo+(i:Nat) * 1) ((n:Int) - (i:Nat)) 1) where
 mem:=by simp
 obj:=λi h st b hb=>by
  have e:b=it:=(by simpa using hb);subst e;exact⟨_,st,λv z=>by
    have z':wL _=uR v:=z;cases z'⟩
 keep:=λi h h' st k=>k it (by simp) _ st
 item:=by
  intro X hP hw hK hc i f' s σ H E I hf st hg;subst hP hw hK;obtain⟨f0,f1,f2,f3,f4,f5⟩:=hf it (by simp);have W:=Walks.range (prog:=X.prog) (w:=X.w) (I.ok.hd hc) it lo 1 n;refine W.item i s _ _ hg st λv h' tk hv BT kk=>?_;obtain⟨t,rfl⟩:=hv;have I1:Inv X f' σ H { s with heap:=h',toks:=tk }:=I.turned (λb o hb e=>kk b o (by simpa using hb) e) f0 f1 f3 f4 f5;refine⟨_,rfl,Cd (s:={ s with heap:=h',toks:=tk }) (n:="range_iterator") BT rfl rfl (by decide) ⟨.int (lo+i),H,I1,⟨t,?_⟩,⟨rfl,rfl⟩,BT,λb hb=>(hf b hb).1⟩⟩;rw[Int.mul_one]
 done:=by
  intro X hP hw hK hc i f' s σ H E I hf st hg;subst hP hw hK;obtain⟨f0,f1,f2,f3,f4,f5⟩:=hf it (by simp);exact wpAny_pyNext_range_end (I.ok.hd hc) st (by have:n<=i:=hg;lia) λh' eb=>⟨rfl,I.turned (t':=s.toks) (λb o hb e=>eb b o hb e) f0 f1 f3 f4 f5⟩
 self:=λ_ _ _ _ _ st h=>wpAny_pyIter_rangeiter st h
section
variable {X:Cx}{tg:Expr}
def Wj (K:aC)(tl:TE):TI:=λσ H R=>tl σ H λx H1=>∃a,x=.ref a/\(∃xs,SqL K H1 a xs)/\R (Itl K a) H1
def iTup (K:aC)(tl:TE):TI:=λσ H R=>tl σ H λx H1=>∃a,x=.ref a/\(∃xs,SqT K H1 a xs)/\R (Itt K a) H1
theorem cf {l:Expr}{tl:TE}(hl:PE X l tl):PI X tg l (Wj X.K tl):=by
 intro f' s σ H R I h;refine thn (hl f' s σ H _ I h) λv s1 zF=>?_;obtain⟨x,H1,I1,r1,q1⟩:=zF;obtain⟨a,e,⟨xs,hq⟩,q⟩:=q1;subst e;cases r1;obtain⟨its,rv,p,hz⟩:=I1.list hq;refine iM p.isList ?_;refine⟨s1.heap.objs.size,[s1.heap.objs.size],_,_,H1,rfl,I1.kept (t':=s1.toks) λb o e=>aJ _ e,Kt a _,⟨_,bV _ rfl,rfl,rfl⟩,λb hb=>?_,q⟩;have e:b=s1.heap.objs.size:=(by simpa using hb);subst e;exact I1.fpOk (aN _) (I1.hok.fresh (aN _))
theorem pb {l:Expr}{tl:TE}(hl:PE X l tl):PI X tg l (iTup X.K tl):=by
 intro f' s σ H R I h;refine thn (hl f' s σ H _ I h) λv s1 zF=>?_;obtain⟨x,H1,I1,r1,q1⟩:=zF;obtain⟨a,e,⟨xs,hq⟩,q⟩:=q1;subst e;cases r1;obtain⟨its,rv,p,hz⟩:=I1.tuple hq;refine oU (show s1.heap.IsTuple a its.toArray from p) ?_;refine⟨s1.heap.objs.size,[s1.heap.objs.size],_,_,H1,rfl,I1.kept (t':=s1.toks) λb o e=>aJ _ e,Hq a _,⟨_,bV _ rfl,rfl,rfl⟩,λb hb=>?_,q⟩;have e:b=s1.heap.objs.size:=(by simpa using hb);subst e;exact I1.fpOk (aN _) (I1.hok.fresh (aN _))
theorem Nv {f':List (Addr×Obj)}{σ:St}{H:Hp}{s:aG}{R:It->Hp->Prop}{E:aB->aG->Prop}{lo hi:Int}{t u v:Tok}{tk:Nat}(I:Inv X f' σ H s)(h1:-(2 ^ 62)<=lo)(h2:lo < 2 ^ 62)(h3:-(2 ^ 62)<=hi)(h4:hi < 2 ^ 62)
  (q:R (Itr lo (hi - lo).toNat) H):aM (aX X.prog X.w) X.A (yP (.ref s.heap.objs.size)) (PIE X f' σ tg R) E { s with heap:=s.heap.push { cls:=.type "range",data:=.fields #[.int lo t,.int hi u,.int 1 v] },toks:=tk }:=by
 refine wpAny_pyIter_range (IsRange.new ..) (small_one h1 h2 h3 h4) ?_;have I1:Inv X f' σ H { s with heap:=s.heap.push { cls:=.type "range",data:=.fields #[.int lo t,.int hi u,.int 1 v] },toks:=tk }:=I.kept λb o e=>aJ _ e;refine⟨(s.heap.push { cls:=.type "range",data:=.fields #[.int lo t,.int hi u,.int 1 v] }).objs.size,[(s.heap.push { cls:=.type "range",data:=.fields #[.int lo t,.int hi u,.int 1 v] }).objs.size],_,_,H,rfl,I1.kept (t':=tk) λb o e=>aJ _ e,Hr _ lo (hi - lo).toNat,?_,λb hb=>?_,q⟩
 ·have e1:lo+((0:Nat):Int) * 1=lo:=(by simp);have e2:(((hi - lo).toNat:Nat):Int) - ((0:Nat):Int)=Builtin.Range.rangeSize lo hi 1:=(by rw[rangeSize_one];split<;>lia);show IsRangeIter _ _ (lo+((0:Nat):Int) * 1) ((((hi - lo).toNat:Nat):Int) - ((0:Nat):Int)) 1;rw[e1,e2];exact bV _ rfl
 ·have e:b=(s.heap.push { cls:=.type "range",data:=.fields #[.int lo t,.int hi u,.int 1 v] }).objs.size:=(by simpa using hb);subst e;exact I1.fpOk (aN _) (I1.hok.fresh (aN _))
def Wk (ta:TA):TI:=λσ H R=>ta σ H λvs H1=>∃j:Int,vs=[.int j]/\-(2 ^ 62)<=j/\j < 2 ^ 62/\R (Itr 0 j.toNat) H1
theorem jo {a:Expr}{ta:TA}{p pos:Pos}(hg:Gl X "range")(hm:X.mg "range"=none)(ha:PA X [a] ta)(hs:cW [a] X.env=[(false,eval a X.env)]:=by rfl):PI X tg (.Call (.Name "range" p) [a] [] pos) (Wk ta):=by
 intro f' s σ H R I h;refine Call_ (ip I hg hm boot_range (iL (thn (ha pos f' s σ H _ I h) λus s1 zF=>?_) hs rfl));obtain⟨vs,H1,I1,r1,q1⟩:=zF;obtain⟨j,e,q1,q2,q⟩:=q1;subst e;cases r1 with
 |cons r rr=>
  cases rr;obtain⟨t,rfl⟩:=r;exact call_range_1 (Nv I1 (by lia) (by lia) q1 q2 (by simpa using q))
def tFor (wi:TI)(g:TG)(tb:TS):TS:=λD σ H=>wi σ H λJ H1=>∃W:Nat->Nat->St->Hp->Prop,(∃m,W 0 m σ H1)/\∀i m σ H,W i m σ H->
 (J.stop i H/\D.nx σ H)\/(J.go i H/\∃N:St->Hp->Prop,(∀σ' H',N σ' H'->∃m',m' < m/\W (i+1) m' σ' H')/\∀x H',J.yld i H x H'->g x σ H' λσ2 H2=>tb { D with nx:=N,ct:=N,bk:=D.nx } σ2 H2)
def pf (fp:List Addr)(h:Heap):List (Addr×Obj):=fp.filterMap λb=>(h.get? b).map λo=>(b,o)
theorem i6 {fp:List Addr}{h:Heap}{b:Addr}{o:Obj}(hb:b∈fp)(e:h.get? b=some o):(b,o)∈pf fp h:=List.mem_filterMap.mpr ⟨b,hb,by rw[e];rfl⟩
theorem Ku {fp:List Addr}{h:Heap}{p:Addr×Obj}(hp:p∈pf fp h):p.1∈fp/\h.get? p.1=some p.2:=by
 obtain⟨b,hb,e⟩:=List.mem_filterMap.mp hp;cases q:h.get? b with
 |none=>rw[q]at e;cases e
 |some o=>
  rw[q]at e;have e':(b,o)=p:=eA e;subst e';exact⟨hb,q⟩
theorem Inv.pinned {f':List (Addr×Obj)}{σ:St}{H:Hp}{s:aG}{fp:List Addr}(I:Inv X f' σ H s)(hf:∀b∈fp,ij X f' H b)(ho:∀b∈fp,∃o,s.heap.get? b=some o/\∀v,o.data≠.cell v):Inv X (f'++pf fp s.heap) σ H s:=
 I.pins_of λp hp=>(eC.mp hp).elim (λz=>I.pin p (fK _ z)) λz=>by
  obtain⟨hb,e⟩:=Ku z;obtain⟨f0,f1,f2,_⟩:=hf p.1 hb;obtain⟨o,e',d⟩:=ho p.1 hb;rw[e]at e';cases e';exact⟨e,f0,f1,f2,d⟩
theorem Inv.unpinned {f' pl:List (Addr×Obj)}{σ:St}{H:Hp}{s:aG}(I:Inv X (f'++pl) σ H s):Inv X f' σ H s:=I.pins_of λp hp=>I.pin p (fK _ (oB _ hp))
theorem dv {iter:Expr}{body:List Stmt}{wi:TI}{g:TG}{tb:TS}{pos:Pos}(hp:PassesOwn (aX X.prog X.w) X.A X.env X.xe)(hc:X.calm=true)(hi:PI X tg iter wi)(hg:PG X tg g)(hb:PSs X body tb)
  (hs:∀x,vA iter X.env x=pure x:=by intro _;rfl):PS X (.For tg iter body [] pos) (tFor wi g tb):=by
 intro f' s σ H D I h;refine wpAny_For (thn (hi f' s σ H _ I h) λv s1 h1=>thn h1 λMZ s2 h2=>?_) hs;obtain⟨it,fp,tn,J,H2,e,I2,T,DJ,f2,W,⟨m0,w0⟩,BL⟩:=h2;subst e;have AZ:∀{H':Hp},(∀b∈fp,H' b=none)->∀b∈fp,ij X f' H' b:=λhn b hb=>⟨hn b hb,(f2 b hb).2⟩;refine codeAny_forLoop_any (λn s'=>∃i σ' H',Inv X f' σ' H' s'/\tn i s'.heap/\(∀b∈fp,H' b=none)/\W i n σ' H') ?_ m0 ⟨0,σ,H2,I2,DJ,λb hb=>(f2 b hb).1,w0⟩;intro n s3 zE;obtain⟨i,σ3,H3,I3,DT,JP,w3⟩:=zE;rcases BL i n σ3 H3 w3 with⟨stop,qn⟩ | ⟨go,N,hN,step⟩
 ·refine nM hp (thn (T.done X rfl rfl rfl hc i f' s3 σ3 H3 X.xe I3 (AZ JP) DT stop) λr s4 zF=>?_);obtain⟨hr,I4⟩:=zF;subst hr;exact sZ ⟨σ3,H3,I4,qn⟩
 ·refine nM hp (thn (T.item X rfl rfl rfl hc i f' s3 σ3 H3 X.xe I3 (AZ JP) DT go) λr s4 zF=>?_);obtain⟨u,hr,h4⟩:=zF;subst hr;refine nM hp (thn h4 λ_ s5 zF=>?_);obtain⟨x,H5,I5,r5,y5,FA,IB⟩:=zF;have I5':=I5.pinned (AZ IB) (T.obj _ _ FA);refine nM hp (thn (hg _ s5 σ3 H5 x u _ I5' r5 (step x H5 y5)) λ_ s6 zF=>?_);obtain⟨σ6,H6,I6,q6⟩:=zF;refine nM hp (thn (hb _ s6 σ6 H6 _ I6 q6) λf s7 q7=>?_);have again:∀{σ7:St}{H7:Hp},Inv X (f'++pf fp s5.heap) σ7 H7 s7->N σ7 H7->∃m,m < n/\∃i σ' H',Inv X f' σ' H' s7/\tn i s7.heap/\(∀b∈fp,H' b=none)/\W i m σ' H':=λ{σ7 H7} I7 n7=>by
   obtain⟨m',hm,w7⟩:=hN σ7 H7 n7;refine⟨m',hm,i+1,σ7,H7,I7.unpinned,T.keep _ _ _ FA λb hb o e=>(I7.pin (b,o) (fK _ (fK _ (i6 hb e)))).1,λb hb=>?_,w7⟩;obtain⟨o,e,d⟩:=T.obj _ _ FA b hb;exact(I7.pin (b,o) (fK _ (fK _ (i6 hb e)))).2.1
  cases f with
  |next=>obtain⟨σ7,H7,I7,n7⟩:=q7;exact again I7 n7
  |cont=>obtain⟨σ7,H7,I7,n7⟩:=q7;exact again I7 n7
  |brk=>obtain⟨σ7,H7,I7,q7⟩:=q7;exact⟨σ7,H7,I7.unpinned,q7⟩
  |ret v=>obtain⟨x7,σ7,H7,I7,r7,q7⟩:=q7;exact⟨x7,σ7,H7,I7.unpinned,r7,q7⟩
end
theorem fe {K:aC}{a:Addr}{xs:List V}{g:TG}{tb:TS}{D:d6}{σ:St}{H:Hp}(Pv:Nat->St->Hp->Prop)(h0:Pv 0 σ H)(hl:∀i σ H,i<=xs.length->Pv i σ H->SqL K H a xs)
  (hs:∀i x σ H,xs[i]?=some x->Pv i σ H->g x σ H λσ2 H2=>tb { D with nx:=Pv (i+1),ct:=Pv (i+1),bk:=D.nx } σ2 H2) (hd:∀σ H,Pv xs.length σ H->D.nx σ H) :
  ∃W:Nat->Nat->St->Hp->Prop,(∃m,W 0 m σ H)/\∀i m σ H,W i m σ H->
   ((Itl K a).stop i H/\D.nx σ H)\/((Itl K a).go i H/\∃N:St->Hp->Prop,(∀σ' H',N σ' H'->∃m',m' < m/\W (i+1) m' σ' H')/\∀x H',(Itl K a).yld i H x H'->g x σ H' λσ2 H2=>tb { D with nx:=N,ct:=N,bk:=D.nx } σ2 H2):=by
 refine⟨λi m σ H=>m=xs.length - i/\i<=xs.length/\Pv i σ H,⟨xs.length,by simp,eV _,h0⟩,?_⟩;intro i m σ H zE;obtain⟨rfl,hi,p⟩:=zE;have q:=hl i σ H hi p;by_cases zR:i < xs.length
 ·refine .inr ⟨⟨xs,xs[i],q,by simp[zR]⟩,Pv (i+1),λσ' H' p'=>⟨xs.length - (i+1),by lia,rfl,zR,p'⟩,λx H' y=>?_⟩;obtain⟨e,y⟩:=y;subst e;exact hs i x σ _ (y xs q) p
 ·have e:i=xs.length:=(by lia);subst e;exact .inl ⟨⟨xs,q,aN _⟩,hd σ H p⟩
theorem Aj {K:aC}{a:Addr}{xs:List V}{g:TG}{tb:TS}{D:d6}{σ:St}{H:Hp}(Pv:Nat->St->Hp->Prop)(h0:Pv 0 σ H)(hl:∀i σ H,i<=xs.length->Pv i σ H->SqT K H a xs)
  (hs:∀i x σ H,xs[i]?=some x->Pv i σ H->g x σ H λσ2 H2=>tb { D with nx:=Pv (i+1),ct:=Pv (i+1),bk:=D.nx } σ2 H2) (hd:∀σ H,Pv xs.length σ H->D.nx σ H) :
  ∃W:Nat->Nat->St->Hp->Prop,(∃m,W 0 m σ H)/\∀i m σ H,W i m σ H->
   ((Itt K a).stop i H/\D.nx σ H)\/((Itt K a).go i H/\∃N:St->Hp->Prop,(∀σ' H',N σ' H'->∃m',m' < m/\W (i+1) m' σ' H')/\∀x H',(Itt K a).yld i H x H'->g x σ H' λσ2 H2=>tb { D with nx:=N,ct:=N,bk:=D.nx } σ2 H2):=by
 refine⟨λi m σ H=>m=xs.length - i/\i<=xs.length/\Pv i σ H,⟨xs.length,by simp,eV _,h0⟩,?_⟩;intro i m σ H zE;obtain⟨rfl,hi,p⟩:=zE;have q:=hl i σ H hi p;by_cases zR:i < xs.length
 ·refine .inr ⟨⟨xs,xs[i],q,by simp[zR]⟩,Pv (i+1),λσ' H' p'=>⟨xs.length - (i+1),by lia,rfl,zR,p'⟩,λx H' y=>?_⟩;obtain⟨e,y⟩:=y;subst e;exact hs i x σ _ (y xs q) p
 ·have e:i=xs.length:=(by lia);subst e;exact .inl ⟨⟨xs,q,aN _⟩,hd σ H p⟩
theorem tq {lo:Int}{n:Nat}{g:TG}{tb:TS}{D:d6}{σ:St}{H:Hp}(Pv:Nat->St->Hp->Prop)(h0:Pv 0 σ H)
  (hs:∀i σ H,i < n->Pv i σ H->g (.int (lo+i)) σ H λσ2 H2=>tb { D with nx:=Pv (i+1),ct:=Pv (i+1),bk:=D.nx } σ2 H2) (hd:∀σ H,Pv n σ H->D.nx σ H) :
  ∃W:Nat->Nat->St->Hp->Prop,(∃m,W 0 m σ H)/\∀i m σ H,W i m σ H->
   ((Itr lo n).stop i H/\D.nx σ H)\/((Itr lo n).go i H/\∃N:St->Hp->Prop,(∀σ' H',N σ' H'->∃m',m' < m/\W (i+1) m' σ' H')/\∀x H',(Itr lo n).yld i H x H'->g x σ H' λσ2 H2=>tb { D with nx:=N,ct:=N,bk:=D.nx } σ2 H2):=by
 refine⟨λi m σ H=>m=n - i/\i<=n/\Pv i σ H,⟨n,by simp,eV _,h0⟩,?_⟩;intro i m σ H zE;obtain⟨rfl,hi,p⟩:=zE;by_cases zR:i < n
 ·refine .inr ⟨zR,Pv (i+1),λσ' H' p'=>⟨n - (i+1),by lia,rfl,zR,p'⟩,λx H' y=>?_⟩;obtain⟨e,y⟩:=y;subst e y;exact hs i σ _ zR p
 ·have e:i=n:=(by lia);subst e;exact .inl ⟨aN _,hd σ H p⟩
abbrev R2:=V->V->Hp->VK->Prop
def OpR (X:Cx)(f:aB->aB->Sem aB)(r:R2):Prop:=
 ∀(f':List (Addr×Obj))(s:aG) (σ:St) (H:Hp) (x y:V) (v u:aB) (Q:VK),Inv X f' σ H s->RelV x v->RelV y u->r x y H Q->
  aM (aX X.prog X.w) X.A (f v u) (EP X f' σ Q) X.xe s
def UnR (X:Cx)(f:aB->Sem aB)(r:V->Hp->VK->Prop):Prop:=
 ∀(f':List (Addr×Obj))(s:aG) (σ:St) (H:Hp) (x:V) (v:aB) (Q:VK),Inv X f' σ H s->RelV x v->r x H Q->
  aM (aX X.prog X.w) X.A (f v) (EP X f' σ Q) X.xe s
def jr (X:Cx)(f:aB)(r:List V->Hp->VK->Prop):Prop:=
 ∀(f':List (Addr×Obj))(s:aG) (σ:St) (H:Hp) (xs:List V) (us:List aB) (Q:VK),Inv X f' σ H s->Vals xs us->r xs H Q->
  aM (aX X.prog X.w) X.A (call f us) (EP X f' σ Q) X.xe s
def TruR (X:Cx)(r:V->Hp->(Bool->Hp->Prop)->Prop):Prop:=
 ∀(f':List (Addr×Obj))(s:aG) (σ:St) (H:Hp) (x:V) (v:aB) (Q:Bool->Hp->Prop),Inv X f' σ H s->RelV x v->r x H Q->
  aM (aX X.prog X.w) X.A (truthy v) (TP X f' σ Q) X.xe s
def tOp (r:R2)(ta tb:TE):TE:=λσ H Q=>ta σ H λx H1=>tb σ H1 λy H2=>r x y H2 Q
def tUn (r:V->Hp->VK->Prop)(ta:TE):TE:=λσ H Q=>ta σ H λx H1=>r x H1 Q
def rI (C:Int->Int->Prop)(g:Int->Int->V):R2:=λx y H Q=>∃i j,x=.int i/\y=.int j/\C i j/\Q (g i j) H
def rI0 (g:Int->Int->V):R2:=λx y H Q=>∃i j,x=.int i/\y=.int j/\Q (g i j) H
def rU (g:Int->V):V->Hp->VK->Prop:=λx H Q=>∃i,x=.int i/\Q (g i) H
section
variable {X:Cx}{a b c:Expr}{ta tb tc:TE}{pos:Pos}
theorem Nw (ha:PE X a ta)(hb:PE X b tb){f':List (Addr×Obj)}{s:aG}{σ:St}{H:Hp}{R:V->V->Hp->Prop}(I:Inv X f' σ H s)
  (h:ta σ H λx H1=>tb σ H1 λy H2=>R x y H2) {Q:aB->aG->Prop}{f:aB->aB->Sem aB}
  (hf:∀v u s2 x y H2,Inv X f' σ H2 s2->RelV x v->RelV y u->R x y H2->aM (aX X.prog X.w) X.A (f v u) Q X.xe s2) :
  aM (aX X.prog X.w) X.A (eval a X.env) (λv s₁=>aM (aX X.prog X.w) X.A (eval b X.env) (λu s₂=>aM (aX X.prog X.w) X.A (f v u) Q X.xe s₂) X.xe s₁) X.xe s:=by
 refine thn (ha f' s σ H _ I h) λv s1 zF=>?_;obtain⟨x,H1,I1,r1,q1⟩:=zF;refine thn (hb f' s1 σ H1 _ I1 q1) λu s2 zF=>?_;obtain⟨y,H2,I2,r2,q2⟩:=zF;exact hf v u s2 x y H2 I2 r1 r2 q2
theorem ay {op:Operator}{r:R2}(ho:OpR X (kZ op) r)(ha:PE X a ta)(hb:PE X b tb):PE X (.BinOp a op b pos) (tOp r ta tb):=by
 intro f' s σ H Q I h;exact wpAny_BinOp (Nw ha hb I h λv u s2 x y H2 I2 rx ry q=>ho f' s2 σ H2 x y v u Q I2 rx ry q)
theorem n8 {op:UnaryOp}{r:V->Hp->VK->Prop}(ho:UnR X (unaryOp op) r)(ha:PE X a ta):PE X (.UnaryOp op a pos) (tUn r ta):=by
 intro f' s σ H Q I h;exact UnaryOp_ (thn (ha f' s σ H _ I h) λv s1 zF=>by obtain⟨x,H1,I1,r1,q1⟩:=zF;exact ho f' s1 σ H1 x v Q I1 r1 q1)
theorem opI {f:aB->aB->Sem aB}{C:Int->Int->Prop}{g:Int->Int->Int}
  (rule:∀(i j:Int)(t u:Tok) (s:aG) (Q:aB->aG->Prop) (E:aB->aG->Prop),C i j->Q (.int (g i j) s.toks) { s with toks:=s.toks+1 }->aM (aX X.prog X.w) X.A (f (.int i t) (.int j u)) Q E s) :
  OpR X f (rI C λi j=>.int (g i j)):=by
 intro f' s σ H x y v u Q I rx ry h;obtain⟨i,j,rfl,rfl,hc,q⟩:=h;obtain⟨t,rfl⟩:=rx;obtain⟨t',rfl⟩:=ry;exact rule i j t t' s _ _ hc ⟨.int (g i j),H,I.tok _,⟨_,rfl⟩,q⟩
theorem Ak {f:aB->aB->Sem aB}{g:Int->Int->Int}
  (rule:∀(i j:Int)(t u:Tok) (s:aG) (Q:aB->aG->Prop) (E:aB->aG->Prop),Q (.int (g i j) s.toks) { s with toks:=s.toks+1 }->aM (aX X.prog X.w) X.A (f (.int i t) (.int j u)) Q E s) :
  OpR X f (rI0 λi j=>.int (g i j)):=by
 intro f' s σ H x y v u Q I rx ry h;obtain⟨i,j,rfl,rfl,q⟩:=h;obtain⟨t,rfl⟩:=rx;obtain⟨t',rfl⟩:=ry;exact rule i j t t' s _ _ ⟨.int (g i j),H,I.tok _,⟨_,rfl⟩,q⟩
theorem Nx {f:aB->aB->Sem aB}{g:Int->Int->Bool}
  (rule:∀(i j:Int)(t u:Tok) (s:aG) (Q:aB->aG->Prop) (E:aB->aG->Prop),Q (.bool (g i j)) s->aM (aX X.prog X.w) X.A (f (.int i t) (.int j u)) Q E s) :
  OpR X f (rI0 λi j=>.bl (g i j)):=by
 intro f' s σ H x y v u Q I rx ry h;obtain⟨i,j,rfl,rfl,q⟩:=h;obtain⟨t,rfl⟩:=rx;obtain⟨t',rfl⟩:=ry;exact rule i j t t' s _ _ ⟨.bl (g i j),H,I,rfl,q⟩
def CDiv (i j:Int):Prop:=0 < j/\j < 1073741824
def CPow (i j:Int):Prop:=0<=j/\j<=1000000/\i.natAbs < 2 ^ 64
def CMul (i j:Int):Prop:=(-(2 ^ 64) < i/\i < 2 ^ 64)\/(-(2 ^ 64) < j/\j < 2 ^ 64)
theorem CMul.ok {i j:Int}(h:CMul i j):IntMulOk i j:=by
 rcases h with⟨h1,h2⟩ | ⟨h1,h2⟩
 ·exact .of_left (intBits_le_64 h1 h2)
 ·exact .of_right (intBits_le_64 h1 h2)
theorem Hs (k:Nat):(0:Int)<=2 ^ k:=by
 rw[two_pow_cast];exact uS _
theorem ie:OpR X (kZ .Add) (rI0 λi j=>.int (i+j)):=Ak λ_ _ _ _ _ _ _ q=>add_int q
theorem Kv:OpR X (kZ .Sub) (rI0 λi j=>.int (i - j)):=Ak λ_ _ _ _ _ _ _ q=>sub_int q
theorem pi:OpR X (kZ .Mult) (rI CMul λi j=>.int (i * j)):=opI λ_ _ _ _ _ _ _ hc q=>mul_int q hc.ok
theorem Al:OpR X (kZ .FloorDiv) (rI CDiv λi j=>.int (i / j)):=opI λi j _ _ _ _ _ hc q=>by
 have h1:(0:Int) < j:=hc.1;have h2:j < 1073741824:=hc.2;exact floordiv_int (by lia) (by rw[Int.fdiv_eq_ediv_of_nonneg i (by lia)];exact q) (.inl (PyProof.noPylong_small (by lia)))
theorem jd:OpR X (kZ .Mod) (rI (λ_ j=>0 < j) λi j=>.int (i % j)):=opI λi j _ _ _ _ _ hc q=>by
 have h1:(0:Int) < j:=hc;exact mod_int' (by lia) (by rw[Int.fmod_eq_emod_of_nonneg i (by lia)];exact q)
theorem yg:OpR X (kZ .LShift) (rI CPow λi j=>.int (i * 2 ^ j.toNat)):=opI λ_ _ _ _ _ _ _ hc q=>lshift_int_small hc.1 hc.2.1 hc.2.2 q
theorem Kw:OpR X (kZ .RShift) (rI (λ_ j=>0<=j) λi j=>.int (i / 2 ^ j.toNat)):=opI λi j _ _ _ _ _ hc q=>
 rshift_int hc (by rw[Int.fdiv_eq_ediv_of_nonneg i (Hs _)];exact q)
theorem Cu:OpR X (kZ .BitAnd) (rI0 λi j=>.int (oF i j)):=Ak λ_ _ _ _ _ _ _ q=>and_int q
theorem Ht:OpR X (kZ .BitOr) (rI0 λi j=>.int (nV i j)):=Ak λ_ _ _ _ _ _ _ q=>or_int q
theorem Um:OpR X (xJ .BitOr) (rI0 λi j=>.int (nV i j)):=Ak λ_ _ _ _ _ _ _ q=>ior_int q
theorem Rr:OpR X (xJ .BitXor) (rI0 λi j=>.int (tZ i j)):=Ak λ_ _ _ _ _ _ _ q=>ixor_int q
theorem unI {f:aB->Sem aB}{g:Int->Int}
  (rule:∀(i:Int)(t:Tok) (s:aG) (Q:aB->aG->Prop) (E:aB->aG->Prop),Q (.int (g i) s.toks) { s with toks:=s.toks+1 }->aM (aX X.prog X.w) X.A (f (.int i t)) Q E s) :
  UnR X f (rU λi=>.int (g i)):=by
 intro f' s σ H x v Q I rx h;obtain⟨i,rfl,q⟩:=h;obtain⟨t,rfl⟩:=rx;exact rule i t s _ _ ⟨.int (g i),H,I.tok _,⟨_,rfl⟩,q⟩
theorem kq:UnR X (unaryOp .USub) (rU λi=>.int (-i)):=unI λ_ _ _ _ _ q=>neg_int q
end
def Uo:V->V->Bool
 | .non,.non=>true | .non,.int _=>true | .int _,.non=>true | .non,.bl _=>true | .bl _,.non=>true | .non,.str _=>true | .str _,.non=>true
 | .int _,.int _=>true | .bl _,.bl _=>true | .str _,.str _=>true | .byt _,.byt _=>true
 | .int _,.str _=>true | .str _,.int _=>true | .bl _,.str _=>true | .str _,.bl _=>true
 |_,_=>false
def rEq:R2:=λx y H Q=>Uo x y=true/\Q (.bl (decide (x=y))) H
def rNe:R2:=λx y H Q=>Uo x y=true/\Q (.bl (!decide (x=y))) H
theorem Fq {i j:Int}:decide (V.int i=V.int j)=(i == j):=by
 rw[oV];simp
theorem Kx {i j:Bool}:decide (V.bl i=V.bl j)=(i == j):=by
 rw[oV];simp
theorem Fr {i j:Str}:decide (V.str i=V.str j)=(i == j):=by
 rw[oV];simp
theorem Fs {i j:Array UInt8}:decide (V.byt i=V.byt j)=(i.toList == j.toList):=by
 rw[oV];cases i;cases j;simp
section
variable {X:Cx}{a b c:Expr}{ta tb tc:TE}{pos:Pos}
theorem cg {f':List (Addr×Obj)}{σ:St}{H:Hp}{s:aG}{Q:VK}{k k':Bool}(I:Inv X f' σ H s)(q:Q (.bl k) H)(e:k=k'):EP X f' σ Q (.bool k') s:=by
 subst e;exact⟨.bl k,H,I,rfl,q⟩
theorem dh:OpR X (lZ .Eq) rEq:=by
 intro f' s σ H x y v u Q I rx ry h;obtain⟨hs,q⟩:=h;cases x with
 |non=>
  cases rx;cases y with
  |non=>cases ry;exact PySem.EqNone.eq_none_none (cg I q (by simp))
  |bl j=>cases ry;exact PySem.EqNone.eq_none_bool (cg I q (by simp))
  |int j=>obtain⟨t',rfl⟩:=ry;exact PySem.EqNone.eq_none_int (cg I q (by simp))
  |str j=>obtain⟨t',rfl⟩:=ry;exact PySem.EqNone.eq_none_str (cg I q (by simp))
  |_=>exact absurd (show false=true from hs) bZ
 |bl i=>
  cases rx;cases y with
  |non=>cases ry;exact PySem.EqNone.eq_bool_none (cg I q (by simp))
  |bl j=>cases ry;exact eq_bool (cg I q Kx)
  |str j=>obtain⟨t',rfl⟩:=ry;exact PySem.EqMixed.eq_bool_str (cg I q (by simp))
  |_=>exact absurd (show false=true from hs) bZ
 |int i=>
  obtain⟨t,rfl⟩:=rx;cases y with
  |non=>cases ry;exact PySem.EqNone.eq_int_none (cg I q (by simp))
  |int j=>obtain⟨t',rfl⟩:=ry;exact eq_int (cg I q Fq)
  |str j=>obtain⟨t',rfl⟩:=ry;exact PySem.EqMixed.eq_int_str (cg I q (by simp))
  |_=>exact absurd (show false=true from hs) bZ
 |str i=>
  obtain⟨t,rfl⟩:=rx;cases y with
  |non=>cases ry;exact PySem.EqNone.eq_str_none (cg I q (by simp))
  |bl j=>cases ry;exact PySem.EqMixed.eq_str_bool (cg I q (by simp))
  |int j=>obtain⟨t',rfl⟩:=ry;exact PySem.EqMixed.eq_str_int (cg I q (by simp))
  |str j=>obtain⟨t',rfl⟩:=ry;exact eq_str (cg I q Fr)
  |_=>exact absurd (show false=true from hs) bZ
 |byt i=>
  obtain⟨t,rfl⟩:=rx;cases y with
  |byt j=>obtain⟨t',rfl⟩:=ry;exact PySem.W.eq_bytes (cg I q Fs)
  |_=>exact absurd (show false=true from hs) bZ
 |_=>cases y<;>exact absurd (show false=true from hs) bZ
theorem Hu:OpR X (lZ .NotEq) rNe:=by
 intro f' s σ H x y v u Q I rx ry h;obtain⟨hs,q⟩:=h;cases x with
 |non=>
  cases rx;cases y with
  |non=>cases ry;exact PySem.EqNone.ne_none_none (cg I q (by simp))
  |bl j=>cases ry;exact PySem.EqNone.ne_none_bool (cg I q (by simp))
  |int j=>obtain⟨t',rfl⟩:=ry;exact PySem.EqNone.ne_none_int (cg I q (by simp))
  |str j=>obtain⟨t',rfl⟩:=ry;exact PySem.EqNone.ne_none_str (cg I q (by simp))
  |_=>exact absurd (show false=true from hs) bZ
 |bl i=>
  cases rx;cases y with
  |non=>cases ry;exact PySem.EqNone.ne_bool_none (cg I q (by simp))
  |bl j=>cases ry;exact ne_bool (cg I q (congrArg not Kx))
  |str j=>obtain⟨t',rfl⟩:=ry;exact PySem.EqMixed.ne_bool_str (cg I q (by simp))
  |_=>exact absurd (show false=true from hs) bZ
 |int i=>
  obtain⟨t,rfl⟩:=rx;cases y with
  |non=>cases ry;exact PySem.EqNone.ne_int_none (cg I q (by simp))
  |int j=>obtain⟨t',rfl⟩:=ry;exact ne_int (cg I q (congrArg not Fq))
  |str j=>obtain⟨t',rfl⟩:=ry;exact PySem.EqMixed.ne_int_str (cg I q (by simp))
  |_=>exact absurd (show false=true from hs) bZ
 |str i=>
  obtain⟨t,rfl⟩:=rx;cases y with
  |non=>cases ry;exact PySem.EqNone.ne_str_none (cg I q (by simp))
  |bl j=>cases ry;exact PySem.EqMixed.ne_str_bool (cg I q (by simp))
  |int j=>obtain⟨t',rfl⟩:=ry;exact PySem.EqMixed.ne_str_int (cg I q (by simp))
  |str j=>obtain⟨t',rfl⟩:=ry;exact ne_str (cg I q (congrArg not Fr))
  |_=>exact absurd (show false=true from hs) bZ
 |byt i=>
  obtain⟨t,rfl⟩:=rx;cases y with
  |byt j=>obtain⟨t',rfl⟩:=ry;exact PySem.W.ne_bytes (cg I q (congrArg not Fs))
  |_=>exact absurd (show false=true from hs) bZ
 |_=>cases y<;>exact absurd (show false=true from hs) bZ
theorem vb:OpR X (lZ .Lt) (rI0 λi j=>.bl (decide (i < j))):=Nx λ_ _ _ _ _ _ _ q=>lt_int q
theorem yh:OpR X (lZ .Gt) (rI0 λi j=>.bl (decide (j < i))):=Nx λ_ _ _ _ _ _ _ q=>gt_int q
theorem Wl:OpR X (lZ .GtE) (rI0 λi j=>.bl (decide (j<=i))):=Nx λ_ _ _ _ _ _ _ q=>ge_int q
theorem OpR.or {f:aB->aB->Sem aB}{r r':R2}(h:OpR X f r)(h':OpR X f r'):OpR X f (λx y H Q=>r x y H Q\/r' x y H Q):=by
 intro f' s σ H x y v u Q I rx ry q;rcases q with q | q
 ·exact h f' s σ H x y v u Q I rx ry q
 ·exact h' f' s σ H x y v u Q I rx ry q
theorem bg (b:Expr){op:CmpOp}(h:op≠.In:=by decide)(h2:op≠.NotIn:=by decide):sI op b=false:=by
 have e1:(op == CmpOp.In)=false:=by cases op<;>first | rfl | exact absurd rfl h
 have e2:(op == CmpOp.NotIn)=false:=by cases op<;>first | rfl | exact absurd rfl h2
 cases b<;>simp[sI,e1,e2]
theorem na {op:CmpOp}{r:R2}(ho:OpR X (lZ op) r)(ha:PE X a ta)(hb:PE X b tb)(hm:sI op b=false):PE X (.Compare a [op] [b] pos) (tOp r ta tb):=by
 intro f' s σ H Q I h;exact wpAny_Compare1 (Nw ha hb I h λv u s2 x y H2 I2 rx ry q=>ho f' s2 σ H2 x y v u Q I2 rx ry q) hm
def Ce (t:TE):TT:=λσ H Q=>t σ H λx H'=>∃k,x=.bl k/\Q k H'
theorem bc {op:CmpOp}{r:R2}(ho:OpR X (lZ op) r)(ha:PE X a ta)(hb:PE X b tb)(hm:sI op b=false):PT X (.Compare a [op] [b] pos) (Ce (tOp r ta tb)):=by
 intro f' s σ H Q I h;refine wpAny_isTrue_Compare1 (thn (ha f' s σ H _ I h) λv s1 ⟨x,H1,I1,r1,q1⟩=>thn (hb f' s1 σ H1 _ I1 q1) λu s2 ⟨y,H2,I2,r2,q2⟩=>
   thn (ho f' s2 σ H2 x y v u _ I2 r1 r2 q2) λc s3 ⟨z,H3,I3,r3,k,e,q3⟩=>?_) hm
 subst e;cases r3;exact lY ⟨H3,I3,q3⟩
def Ny (K:aC)(x:V)(H:Hp)(k:Bool):Prop:=
 match x with
 | .non=>k=false
 | .bl b=>k=b
 | .int i=>k=(i != 0)
 | .str y=>y.length<=sizeLine/\k=((y.length:Int) != 0)
 | .byt y=>y.size<=sizeLine/\k=((y.size:Int) != 0)
 | .ref p=>(∃xs,SqL K H p xs/\k=!xs.isEmpty)\/(∃xs,SqT K H p xs/\k=!xs.isEmpty)\/∃kvs,H p=some (.dK kvs)/\k=!kvs.isEmpty
 |_=>False
theorem Hv {κ:Type}{kvs:List (κ×V)}{vs:List (κ×aB)}(r:KV kvs vs):(!vs.isEmpty)=!kvs.isEmpty:=by
 cases r<;>rfl
theorem yi {xs:List V}{its:List aB}(r:Vals xs its):(!its.toArray.isEmpty)=!xs.isEmpty:=by
 cases r<;>simp
theorem lg:(sizeLine:Nat) < 2 ^ 63:=by rw[gS];decide
theorem Uq:TruR X (λx H Q=>∃k,Ny X.K x H k/\Q k H):=by
 intro f' s σ H x v Q I rx h;obtain⟨k,e,q⟩:=h;have hl:=lg;have hs:sizeLine=16777216:=gS;cases x with
 |non=>
  cases rx;have e':k=false:=e;subst e';exact truthy_none ⟨H,I,q⟩
 |bl b=>
  cases rx;have e':k=b:=e;subst e';exact lY ⟨H,I,q⟩
 |int i=>
  obtain⟨t,rfl⟩:=rx;have e':k=(i != 0):=e;subst e';exact PySem.P.truthy_int ⟨H,I,q⟩
 |str y=>
  obtain⟨t,rfl⟩:=rx;obtain⟨hy,e'⟩:y.length<=sizeLine/\k=((y.length:Int) != 0):=e;subst e';exact PySem.P.truthy_str (by lia) ⟨H,I.tok _,q⟩
 |byt y=>
  obtain⟨t,rfl⟩:=rx;obtain⟨hy,e'⟩:y.size<=sizeLine/\k=((y.size:Int) != 0):=e;subst e';exact PySem.W.truthy_bytes (by lia) ⟨H,I.tok _,q⟩
 |ref p=>
  cases rx;have e':(∃xs,SqL X.K H p xs/\k=!xs.isEmpty)\/(∃xs,SqT X.K H p xs/\k=!xs.isEmpty)\/∃kvs,H p=some (.dK kvs)/\k=!kvs.isEmpty:=e;rcases e' with⟨xs,hx,e'⟩ | ⟨xs,hx,e'⟩ | ⟨kvs,hx,e'⟩
  ·subst e';obtain⟨its,r,pl,hz⟩:=I.list hx;have zJ:=r.length;exact wpAny_truthy_list pl.isList (by simp only[aS];lia) ⟨H,I.tok _,by rw[yi r];exact q⟩
  ·subst e';obtain⟨its,r,pl,hz⟩:=I.tuple hx;have zJ:=r.length;exact truthy_tuple pl (by simp only[aS];lia) ⟨H,I.tok _,by rw[yi r];exact q⟩
  ·subst e';obtain⟨hz,hS,vs,r,m⟩:kvs.length<=sizeLine/\(p == lR)=false/\∃vs,KV kvs vs/\s.heap.DictOf (eh X.prog X.w) p vs:=I.hok p _ hx;have zJ:kvs.length=vs.length:=Paired.length r;exact wpAny_truthy_dict hS m (by lia) ⟨H,I.tok _,by rw[Hv r];exact q⟩
 |_=>exact(show False from e).elim
theorem qg (ha:PE X a ta)(he:∀AJ,wQ a X.env AJ=(do let v <-AJ;vK a.pos;rF [v] (truthy v))) :
  PT X a (λσ H Q=>ta σ H λx H'=>∃k,Ny X.K x H' k/\Q k H'):=by
 intro f' s σ H Q I h;exact isTrue_plain (thn (ha f' s σ H _ I h) λv s1 zF=>by obtain⟨x,H1,I1,r1,q1⟩:=zF;exact Uq f' s1 σ H1 x v Q I1 r1 q1) (he _)
theorem Hw:OpR X (kZ .Add) (λx y H Q=>∃i j,x=.str i/\y=.str j/\i.length+j.length<=sizeLine/\Q (.str (i++j)) H):=by
 intro f' s σ H x y v u Q I rx ry h;obtain⟨i,j,rfl,rfl,hz,q⟩:=h;obtain⟨t,rfl⟩:=rx;obtain⟨t',rfl⟩:=ry;exact add_str (λt' tk=>⟨.str (i++j),H,I.tok _,⟨_,rfl⟩,q⟩) hz
theorem jf {x:V}{us:List aB}(r:Vals [x] us):∃u,us=[u]/\RelV x u:=by
 cases r with
 |cons r1 r2=>cases r2;exact⟨_,rfl,r1⟩
theorem yj {x y:V}{us:List aB}(r:Vals [x,y] us):∃u w',us=[u,w']/\RelV x u/\RelV y w':=by
 cases r with
 |cons r1 r2=>
  cases r2 with
  |cons r3 r4=>cases r4;exact⟨_,_,rfl,r1,r3⟩
theorem Nz:jr X (.builtin "abs") (λxs H Q=>∃i,xs=[.int i]/\Q (.int (if i < 0 then -i else i)) H):=by
 intro f' s σ H xs us Q I r h;obtain⟨i,rfl,q⟩:=h;obtain⟨u,rfl,t,rfl⟩:=jf r;exact call_abs_int λu tk=>⟨.int (if i < 0 then -i else i),H,I.tok _,⟨_,rfl⟩,q⟩
theorem Be (hc:X.calm=true):jr X (.builtin "max") (λxs H Q=>∃i j,xs=[.int i,.int j]/\Q (.int (if j > i then j else i)) H):=by
 intro f' s σ H xs us Q I r h;obtain⟨i,j,rfl,q⟩:=h;obtain⟨u,w',rfl,⟨t,rfl⟩,⟨t',rfl⟩⟩:=yj r;refine max_two_ints (I.ok.hd hc) λh' tk k=>⟨_,H,I.kept k,?_,q⟩;by_cases hj:j > i
 ·rw[if_pos hj,if_pos hj];exact⟨_,rfl⟩
 ·rw[if_neg hj,if_neg hj];exact⟨_,rfl⟩
theorem Bf (hc:X.calm=true):jr X (.builtin "min") (λxs H Q=>∃i j,xs=[.int i,.int j]/\Q (.int (if j < i then j else i)) H):=by
 intro f' s σ H xs us Q I r h;obtain⟨i,j,rfl,q⟩:=h;obtain⟨u,w',rfl,⟨t,rfl⟩,⟨t',rfl⟩⟩:=yj r;refine min_two_ints (I.ok.hd hc) λh' tk k=>⟨_,H,I.kept k,?_,q⟩;by_cases hj:j < i
 ·rw[if_pos hj,if_pos hj];exact⟨_,rfl⟩
 ·rw[if_neg hj,if_neg hj];exact⟨_,rfl⟩
theorem Ky:jr X (.type "int") (λxs H Q=>(∃i,xs=[.int i]/\Q (.int i) H)\/∃k,xs=[.bl k]/\Q (.int (if k then 1 else 0)) H):=by
 intro f' s σ H xs us Q I r h;rcases h with⟨i,rfl,q⟩ | ⟨k,rfl,q⟩
 ·obtain⟨u,rfl,t,rfl⟩:=jf r;exact call_int_int ⟨.int i,H,I,⟨_,rfl⟩,q⟩
 ·obtain⟨u,rfl,r1⟩:=jf r;cases r1;exact call_int_bool ⟨.int (if k then 1 else 0),H,I.tok _,⟨_,rfl⟩,q⟩
end
structure ObjM (h:Heap)(x dx C:Addr)(mA:Str->Option aB):Prop where
 obj:h.get? x=some (lS C dx)
 ns:h.Ns1 dx mA
 ne:dx≠x
theorem Kz {h:Heap}{dx:Addr}{mA:Str->Option aB}(n:h.Ns1 dx mA):∃od,h.get? dx=some od/\∀name,uA name od=some (mA name):=by
 obtain⟨o,es,ep,ho,hd,hk,_,hm⟩:=n;refine⟨o,ho,λname=>?_⟩;have e:=hm name;unfold nsFind findBy at e;rw[<-Array.find?_toList]at e;unfold uA;rw[hd];dsimp only
 split
 ·rename_i y q
  rw[q]at e;exact congrArg some e
 ·rename_i q
  rw[q]at e;have a:es.toList.any (·.refKey)=false:=by
   rw[List.any_eq_false];intro y hy;obtain⟨z,t,hkey⟩:=hk y (Array.mem_toList_iff.mp hy);simp[DictEntry.refKey,hkey]
  have a':¬es.toList.any (·.refKey)=true:=(by rw[a];exact bZ);rw[if_neg a'];exact congrArg some e
theorem ObjM.look {h:Heap}{x dx C:Addr}{mA:Str->Option aB}(I:ObjM h x dx C mA):∃od,PySem.W.InstAt h x (lS C dx) C (some od)/\∀name,uA name od=some (mA name):=
 let ⟨od,ho,hl⟩:=Kz I.ns
 ⟨od,⟨I.obj,rfl,rfl,ho⟩,hl⟩
section
variable {prog:aP}{w:aW}{A:cQ}{E:aB->aG->Prop}{s:aG}{K:aC}{x dx C f:Addr}{mA:Str->Option aB}{name:Str}{v:aB}
theorem Rs {expr:Bool}{Q:aB->aG->Prop}(X:K.In s.heap)(I:ObjM s.heap x dx C mA)(hg:pR K C name=true)(hh:rR K C=true)
  (ha:cH K (.ref C) name=some none) (hv:mA name=some v) (hv':PySem.W.handedIn v=true) (h:Q v { s with toks:=s.toks+1 }) :
  aM (aX prog w) A (getAttr (.ref x) name expr) Q E s:=by
 obtain⟨od,J,hl⟩:=I.look;exact PySem.W.get_value X J (tW hg).1 (PySem.W.findObj_own hh ha rfl (by rw[hl,hv])) hv' h
theorem N0 {pl:Sem Bool}{Q:aB×List aB->aG->Prop}(X:K.In s.heap)(I:ObjM s.heap x dx C mA)(hg:pR K C name=true)
  (hf:cH K (.ref C) name=some (some (.ref f))) (ht:oG K (.ref f)=true) (hv:mA name=none) (h:Q (.ref f,[.ref x]) s) :
  aM (aX prog w) A (wC (.ref x) name pl) Q E s:=by
 obtain⟨od,J,hl⟩:=I.look;exact PySem.W.method_fn X J (tW hg).1 (tW hg).2 hf (beq_iff_eq.mp ht) (by show(uA name od).map (·.isSome)=some false;rw[hl,hv];rfl) h
theorem Rt {ns:List Str}{Q:Unit->aG->Prop}(X:K.In s.heap)(I:ObjM s.heap x dx C mA)
  (hs:cH K (.ref C) "__setattr__"=some (some (.builtin "object.__setattr__"))) (hp:vB K C=true) (ht:wD K C name=some none) (hh:rR K C=true)
  (hw:xI mA ns) (hsz:ns.length<=sizeLine)
  (h:∀h',ObjM h' x dx C (λy=>if y=name then some v else mA y)->gG dx s.heap h'->Q () { s with heap:=h',toks:=s.toks+2 }) :
  aM (aX prog w) A (zA (.ref x) name v) Q E s:=by
 obtain⟨od,J,hl⟩:=I.look;refine PySem.W.set_plain X J hs (PySem.W.osa_open (s:={ s with toks:=s.toks+1 }) (r:=none) X J hp ht λb=>?_);obtain⟨cd,hc,BH⟩:=PySem.W.any_some hh;have hx:s.heap.get? x=some ⟨.ref C,some dx,.plain,#[]⟩:=I.obj;refine aA (wpAny_pure (aA (aA (wpAny_loadPart hx (aA (PySem.W.Looks.here (s:={ s with toks:=s.toks+1 }) (PySem.W.looks_clsIn X hc) ?_))))));rw[BH];refine wpAny_pure (a:=some dx) (aA (wpAny_pure (aA ?_)));refine xK (s:={ s with toks:=s.toks+1 }) I.ns λh' DU BM=>?_;obtain⟨oD,TF,TH,KO,IC,KP⟩:=DU.count (PySem.Within.cons name v hw);refine aA (vO KO (by rw[IC];exact vP (bQ KP (by rw[cX];lia))) ?_);exact wpAny_pure (h _ ⟨(BM.2 _ (Ne.symm I.ne)).trans I.obj,DU,I.ne⟩ BM)
theorem N1 {R:xL->aG->Prop}{vs:List aB}{kw:List (Str×aB)}(X:K.In s.heap)(hm:wE K C=true)
  (hi:cH K (.ref C) "__init__"=some (some (.ref f))) (hf:PySem.W.typeIn K (.ref f)=some (.type "function"))
  (h:oQ (aX prog w) (A.under (.builtin "type.__call__" ⟨.ref C::vs,kw⟩)) (.call (.ref f) ⟨.ref (s.heap.objs.size+1)::vs,kw⟩) (PySem.W.InitBack (s.heap.objs.size+1) R) { s with heap:=(s.heap.push jO).push (lS C s.heap.objs.size) }) :
  oQ (aX prog w) A (.call (.ref C) ⟨vs,kw⟩) R s:=by
 obtain⟨hh,g,d,t,os⟩:=s;exact PySem.W.make_core (PySem.W.makes_of X hm) (pS X hi) (λself=>PySem.W.bind_fn X self hf) (.inl rfl) h
end
def gz (f:Str)(v:V):List (Str×V)->List (Str×V)
 | []=>[(f,v)]
 | (g,x)::r=>if g=f then (g,v)::r else (g,x)::gz f v r
theorem oq (f g:Str)(v:V):∀fs:List (Str×V),(gz f v fs).lookup g=if g=f then some v else fs.lookup g
 | []=>by
  show nG g [(f,v)]=_;by_cases h:g=f
  ·have hb:(g == f)=true:=beq_iff_eq.mpr h;simp only[nG,hb,if_pos h]
  ·have hb:(g == f)=false:=beq_eq_false_iff_ne.mpr h;simp only[nG,hb,if_neg h]
 | (k,x)::r=>by
  have ih:=oq f g v r;rw[show gz f v ((k,x)::r)=(if k=f then (k,v)::r else (k,x)::gz f v r)from rfl]
  by_cases hk:k=f
  ·rw[if_pos hk];by_cases h:g=k
   ·have hb:(g == k)=true:=beq_iff_eq.mpr h;simp only[nG,hb,if_pos (h.trans hk)]
   ·have hb:(g == k)=false:=beq_eq_false_iff_ne.mpr h;simp only[nG,hb,if_neg (λe:g=f=>h (e.trans hk.symm))]
  ·rw[if_neg hk];by_cases h:g=k
   ·have hb:(g == k)=true:=beq_iff_eq.mpr h;simp only[nG,hb,if_neg (λe:g=f=>hk (h.symm.trans e))]
   ·have hb:(g == k)=false:=beq_eq_false_iff_ne.mpr h;simp only[nG,hb];exact ih
theorem tu (f:Str)(v:V):∀fs:List (Str×V),f∈(gz f v fs).map (·.1)/\∀g,g∈fs.map (·.1)->g∈(gz f v fs).map (·.1)
 | []=>⟨by simp[gz],λg h=>by simp at h⟩
 | (k,x)::r=>by
  obtain⟨i1,i2⟩:=tu f v r;rw[show gz f v ((k,x)::r)=(if k=f then (k,v)::r else (k,x)::gz f v r)from rfl]
  by_cases hk:k=f
  ·rw[if_pos hk];subst hk;exact⟨by simp,λg h=>by simpa using h⟩
  ·rw[if_neg hk];refine⟨?_,λg h=>?_⟩
   ·rw[eO];exact cC _ i1
   ·rw[eO]at h ⊢;rcases aU.mp h with e | e
    ·exact List.mem_cons.mpr (.inl e)
    ·exact cC _ (i2 g e)
theorem vw (f:Str)(v:V):∀fs:List (Str×V),(gz f v fs).length<=fs.length+1
 | []=>by simp[gz]
 | (k,x)::r=>by
  have ih:=vw f v r;rw[show gz f v ((k,x)::r)=(if k=f then (k,v)::r else (k,x)::gz f v r)from rfl]
  by_cases hk:k=f
  ·rw[if_pos hk,cX,cX];lia
  ·rw[if_neg hk,cX,cX];lia
theorem RelO.some_of {v:V}{o:Option aB}(r:RelO (some v) o):∃u,o=some u/\RelV v u:=by
 cases o with
 |none=>exact(show False from r).elim
 |some u=>exact⟨u,rfl,r⟩
theorem RelO.none_of {o:Option aB}(r:RelO none o):o=none:=by
 cases o with
 |none=>rfl
 |some u=>exact(show False from r).elim
theorem K0 {v:V}{u:aB}(r:RelV v u):PySem.W.handedIn u=true:=by
 cases v with
 |non=>cases(show u=gP from r);rfl
 |bl b=>cases(show u=vH b from r);rfl
 |int i=>obtain⟨t,e⟩:=(show ∃t,u=nI i t from r);cases e;rfl
 |str x=>obtain⟨t,e⟩:=(show ∃t,u=uO x t from r);cases e;rfl
 |byt b=>obtain⟨t,e⟩:=(show ∃t,u=Value.bytes b t from r);cases e;rfl
 |flt b=>obtain⟨t,e⟩:=(show ∃t,u=yE b t from r);cases e;rfl
 |ref a=>cases(show u=cE a from r);rfl
 |ty n=>cases(show u=rC n from r);rfl
section
variable {P:aP}{w:aW}{H H':Hp}{h h':Heap}{a C dx:Addr}{fs fs':List (Str×V)}
theorem vc (hok:HOk P w H h)(e:H a=some (.ins C dx fs)):∃mA,ObjM h a dx C mA/\(∀f,RelO (fs.lookup f) (mA f))/\xI mA (fs.map (·.1))/\fs.length<=1000/\H dx=some (.own a):=by
 obtain⟨d,z,ne,ob,mA,n,r,q⟩:=(show ObjOk P w H h a (.ins C dx fs)from hok a _ e);exact⟨mA,⟨ob,n,ne⟩,r,q,z,d⟩
end
structure Cls (K:aC)(C:Addr):Prop where
 pg:pR K C xM=true
 hd:rR K C=true
 po:vB K C=true
 sa:cH K (.ref C) "__setattr__"=some (some (.builtin "object.__setattr__"))
theorem Cls.get {K:aC}{C:Addr}(c:Cls K C)(f:Str):pR K C f=true:=c.pg
def NoAttr (K:aC)(C:Addr)(f:Str):Prop:=cH K (.ref C) f=some none
theorem NoAttr.taker {K:aC}{C:Addr}{f:Str}(n:NoAttr K C f):wD K C f=some none:=by
 unfold wD;rw[show cH K (.ref C) f=some none from n];rfl
structure N2 (K:aC)(C:Addr)(m:Str)(f:Addr):Prop where
 at_:cH K (.ref C) m=some (some (.ref f))
 fn:oG K (.ref f)=true
 kp:aV K (.ref f)=true
section
variable {X:Cx}{f':List (Addr×Obj)}{σ:St}{H:Hp}{s:aG}{a C dx:Addr}{fs:List (Str×V)}{f:Str}{v:V}{A:cQ}{E:aB->aG->Prop}
theorem Hx {b:Bool}{Q:aB->aG->Prop}(I:Inv X f' σ H s)(e:H a=some (.ins C dx fs))(c:Cls X.K C)(n:NoAttr X.K C f)(l:fs.lookup f=some v)
  (h:∀u s',Inv X f' σ H s'->RelV v u->Q u s'):aM (aX X.prog X.w) A (getAttr (.ref a) f b) Q E s:=by
 obtain⟨mA,O,r,_,_,_⟩:=vc I.hok e;obtain⟨u,hu,ru⟩:=RelO.some_of (v:=v) (o:=mA f) (by rw[<-l];exact r f);exact Rs I.kIn O (c.get f) c.hd n hu (K0 ru) (h u _ (I.tok _) ru)
theorem Hy {m:Str}{g:Addr}{pl:Sem Bool}{Q:aB×List aB->aG->Prop}(I:Inv X f' σ H s)(e:H a=some (.ins C dx fs))(c:Cls X.K C)(k:N2 X.K C m g)(l:fs.lookup m=none)
  (h:Q (.ref g,[.ref a]) s):aM (aX X.prog X.w) A (wC (.ref a) m pl) Q E s:=by
 obtain⟨mA,O,r,_,_,_⟩:=vc I.hok e;have hn:mA m=none:=RelO.none_of (by rw[<-l];exact r m);exact N0 I.kIn O (c.get m) k.at_ k.fn hn h
theorem Hz {y:V}{u:aB}{Q:Unit->aG->Prop}(I:Inv X f' σ H s)(e:H a=some (.ins C dx fs))(c:Cls X.K C)(n:NoAttr X.K C f)(hl:fs.length < 1000)(ry:RelV y u)
  (h:∀s',Inv X f' σ (upd H a (.ins C dx (gz f y fs))) s'->Q () s'):aM (aX X.prog X.w) A (zA (.ref a) f u) Q E s:=by
 obtain⟨mA,O,r,wi,_,ho⟩:=vc I.hok e;have hz:(fs.map (·.1)).length<=sizeLine:=(by rw[aI,gS];lia);refine Rt I.kIn O c.sa c.po n.taker c.hd wi hz λh' O' sb=>h _ ?_;have hd:∃o,h'.get? dx=some o:=let ⟨o,_,_,e',_⟩:=O'.ns;⟨o,e'⟩;refine I.write (x:=a) (e:=dx) (by rw[e];exact kQ) (.inr ho) (λb q hb z=>(sb.2 b hb).trans z) hd ?_;refine⟨by rw[ai O.ne];exact ho,?_,O.ne,O'.obj,_,O'.ns,λg=>?_,λg hg=>?_⟩
 ·have:=vw f y fs;lia
 ·show RelO ((gz f y fs).lookup g) (if g=f then some u else mA g)
  rw[oq];by_cases q:g=f
  ·rw[if_pos q,if_pos q];exact ry
  ·rw[if_neg q,if_neg q];exact r g
 ·by_cases q:g=f
  ·rw[q];exact(tu f y fs).1
  ·refine(tu f y fs).2 g (wi g λz=>hg ?_);show(if g=f then some u else mA g)=none
   rw[if_neg q];exact z
theorem Inv.made (I:Inv X f' σ H s):Inv X f' σ (upd (upd H s.heap.objs.size (.own (s.heap.objs.size+1))) (s.heap.objs.size+1) (.ins C s.heap.objs.size []))
  { s with heap:=(s.heap.push jO).push (lS C s.heap.objs.size) }:=by
 have e1:(s.heap.push jO).get? s.heap.objs.size=some jO:=bV s.heap rfl;have e2:((s.heap.push jO).push (lS C s.heap.objs.size)).get? (s.heap.objs.size+1)=some (lS C s.heap.objs.size):=by
  have:=bV (s.heap.push jO) (o:=lS C s.heap.objs.size) rfl
  rwa [gK]at this
 have e3:(s.heap.push jO).Ns s.heap.objs.size (λ_=>none):=⟨jO,#[],_,e1,rfl,(λe he=>absurd he (by simp)),λ_=>rfl⟩;have I1:=I.laid (a:=s.heap.objs.size) (o:=.own (s.heap.objs.size+1)) (h':=s.heap.push jO) (t':=s.toks) (λb u q=>aJ _ q) (aN _) ⟨_,e1⟩;refine I1.laid (a:=s.heap.objs.size+1) (o:=.ins C s.heap.objs.size []) (t':=s.toks) (λb u q=>aJ _ q) (Nat.le_of_eq (gK _ _)) ?_;have ne:s.heap.objs.size≠s.heap.objs.size+1:=cK (oH _);refine⟨by rw[ai ne,ac],eV _,ne,e2,λ_=>none,(Heap.Ns1.of_empty e3).at λo q=>aJ _ q,λ_=>kQ,λy hy=>absurd rfl hy⟩
theorem Ru {prog:aP}{w:aW}{env:Env}{e:Expr}{f:Str}{pos:Pos}{s:aG}{Q:aB->aG->Prop}(hb:oR e f env (eval e env)=eval e env)
  (h:aM (aX prog w) A (eval e env) (λo s₁=>aM (aX prog w) A (getAttr o f true) Q E s₁) E s):aM (aX prog w) A (eval (.Attribute e f pos) env) Q E s:=
 Attribute_any_ h (by rw[arm_eval_Attribute,hb])
end
def tFld (K:aC)(ta:TE)(f:Str):TE:=λσ H Q=>ta σ H λx H1=>∃a C dx fs v,x=.ref a/\H1 a=some (.ins C dx fs)/\Cls K C/\NoAttr K C f/\fs.lookup f=some v/\Q v H1
def sFld (K:aC)(ta tv:TE)(f:Str):TS:=λD σ H=>tv σ H λy H1=>ta σ H1 λx H2=>∃a C dx fs,x=.ref a/\H2 a=some (.ins C dx fs)/\Cls K C/\NoAttr K C f/\fs.length < 1000/\
 D.nx σ (upd H2 a (.ins C dx (gz f y fs)))
section
variable {X:Cx}{o e value:Expr}{f:Str}{pos AQ CI:Pos}{ta tv:TE}
theorem yk (he:PE X e ta)(hb:oR e f X.env (eval e X.env)=eval e X.env):PE X (.Attribute e f pos) (tFld X.K ta f):=by
 intro f' s σ H Q I h;refine Ru hb (thn (he f' s σ H _ I h) λu s1 zF=>?_);obtain⟨x,H1,I1,rx,a,C,dx,fs,v,ex,ea,c,n,l,q⟩:=zF;subst ex;obtain rfl:u=cE a:=rx;exact Hx I1 ea c n l λu' s2 I2 ru=>⟨v,H1,I2,ru,q⟩
theorem K1 (ha:PE X o ta)(hv:PE X value tv)(hs:uP value (some (.Attribute o f AQ)) pos.line X.env=pure false):PS X (.Assign [.Attribute o f AQ] value pos) (sFld X.K ta tv f):=by
 intro f' s σ H D I h;refine plainObj_wpAny_Assign_Attribute (thn (hv f' s σ H _ I h) λu s1 zF=>?_) hs;obtain⟨y,H1,I1,ry,q⟩:=zF;refine thn (ha f' s1 σ H1 _ I1 q) λov s2 zF=>?_;obtain⟨x,H2,I2,rx,a,C,dx,fs,ex,ea,c,n,l,q2⟩:=zF;subst ex;obtain rfl:ov=cE a:=rx;exact Hz I2 ea c n l ry λs3 I3=>⟨σ,_,I3,q2⟩
end
section
variable {X:Cx}{f':List (Addr×Obj)}{σ:St}{H:Hp}{s:aG}{A:cQ}{E:aB->aG->Prop}{Q:aB->aG->Prop}{c:aB}{b:Bool}
inductive jz (K:aC)(H:Hp):V->aB->Prop where
 |non:jz K H .non (.type "NoneType")
 |bl (x:Bool):jz K H (.bl x) (.type "bool")
 |int (i:Int):jz K H (.int i) (.type "int")
 |str (x:Str):jz K H (.str x) (.type "str")
 |flt (x:UInt64):jz K H (.flt x) (.type "float")
 |lst {a:Addr}{xs:List V}(e:H a=some (.lst xs)):jz K H (.ref a) (.type "list")
 |frz {a:Addr}{o:Obj}{xs:List V}(e:H a=some (.frz o (.lst xs))):jz K H (.ref a) (.type "list")
 |tup {a:Addr}{xs:List V}(e:H a=some (.tup xs)):jz K H (.ref a) (.type "tuple")
 |dK {a:Addr}{kvs:List (Key×V)}(e:H a=some (.dK kvs)):jz K H (.ref a) (.type "dict")
 |dT {a:Addr}{kvs:List (List Key×V)}(e:H a=some (.dT kvs)):jz K H (.ref a) (.type "dict")
 |ins {a C dx:Addr}{fs:List (Str×V)}(e:H a=some (.ins C dx fs)) (cl:Cls K C) (ha:cH K (.ref C) "__class__"=some (some (.builtin "object.__class__")))
   (hn:nY K (.builtin "object.__class__") "__get__"=some (some (.builtin "getset_descriptor.__get__"))) (TJ:PySem.W.takesIn K (.builtin "object.__class__")=some true)
   (hm:PySem.W.mroIn K C (.type "object")=some true):jz K H (.ref a) (.ref C)
theorem K2 {x:V}{u t:aB}(I:Inv X f' σ H s)(rx:RelV x u)(ty:jz X.K H x t)(e:uB X.K t c=some b)(h:∀tk,Q (.bool b) { s with toks:=tk }) :
  aM (aX X.prog X.w) A (call (.builtin "isinstance") [u,c]) Q E s:=by
 cases ty with
 |non=>cases(show u=gP from rx);exact iJ PySem.W.kitx_none I.kIn kQ e (λz=>nomatch z) h
 |bl y=>cases(show u=vH y from rx);exact iJ PySem.W.kitx_bool I.kIn kQ e (λz=>nomatch z) h
 |int i=>obtain⟨t,q⟩:=(show ∃t,u=nI i t from rx);cases q;exact iJ PySem.W.kitx_int I.kIn kQ e (λz=>nomatch z) h
 |str y=>obtain⟨t,q⟩:=(show ∃t,u=uO y t from rx);cases q;exact iJ PySem.W.kitx_str I.kIn kQ e (λz=>nomatch z) h
 |flt y=>obtain⟨t,q⟩:=(show ∃t,u=yE y t from rx);cases q;exact iJ PySem.W.kitx_float I.kIn kQ e (λz=>nomatch z) h
 |@lst a xs ea=>
  cases(show u=cE a from rx);obtain⟨_,_,n,_,h1⟩:=(show ObjOk X.prog X.w H s.heap a (.lst xs)from I.hok a _ ea);exact iJ vC I.kIn ⟨_,h1,rfl⟩ e (λz=>nomatch z) h
 |@frz a ob xs ea=>
  cases(show u=cE a from rx);obtain⟨_,_,_,n,_,h1⟩:=(show ObjOk X.prog X.w H s.heap a (.frz ob (.lst xs))from I.hok a _ ea);exact iJ vC I.kIn ⟨_,h1,rfl⟩ e (λz=>nomatch z) h
 |@tup a xs ea=>
  cases(show u=cE a from rx);obtain⟨_,_,_,p⟩:=(show ObjOk X.prog X.w H s.heap a (.tup xs)from I.hok a _ ea);obtain⟨o,h1,h2,_⟩:=p;exact iJ PySem.W.kitx_tuple I.kIn ⟨o,h1,h2⟩ e (λz=>nomatch z) h
 |@dK a kvs ea=>
  cases(show u=cE a from rx);obtain⟨_,_,vs,_,p⟩:=(show ObjOk X.prog X.w H s.heap a (.dK kvs)from I.hok a _ ea);obtain⟨o,es,ep,h1,h2,_⟩:=p;exact iJ PySem.W.kitx_dict I.kIn ⟨o,h1,h2.1⟩ e (λz=>nomatch z) h
 |@dT a kvs ea=>
  cases(show u=cE a from rx);obtain⟨_,_,xs,_,o,es,ep,h1,h2,_⟩:=(show ObjOk X.prog X.w H s.heap a (.dT kvs)from I.hok a _ ea);exact iJ PySem.W.kitx_dict I.kIn ⟨o,h1,h2.1⟩ e (λz=>nomatch z) h
 |@ins a C dx fs ea cl ha hn TJ hm=>
  cases(show u=cE a from rx);obtain⟨mA,O,_⟩:=vc I.hok ea;obtain⟨od,J,_⟩:=O.look;exact iJ (PySem.W.kitx_own (cl.get _) cl.hd ha hn TJ hm) I.kIn J e (λz=>nomatch z) h
end
structure Room (k:Nat)(A:cQ):Prop where
 hd:A.handled=none
 dp:A.depth+3 * k+5 < recursionLimit
 un:A.units+16 * k+200 < iK
theorem Room.mono {j k:Nat}{A:cQ}(r:Room k A)(h:j<=k):Room j A:=⟨r.hd,by have:=r.dp;lia,by have:=r.un;lia⟩
theorem Room.deeper {k:Nat}{A:cQ}(r:Room (k+1) A)(env:Env):Room k (A.deeper env):=
 ⟨r.hd,by have:=r.dp;show A.depth+1+3 * k+5 < _;lia,by have:=r.un;show A.units+3+16 * k+200 < _;lia⟩
theorem Ia {A:cQ}{C:Addr}{us:List aB}{kw:List (Str×aB)}:(A.under (.builtin "type.__call__" ⟨.ref C::us,kw⟩)).depth=A.depth+1:=by
 first | rfl | simp[xN,Code.weight,Code.isCreation,Code.isGuard,Code.isCaller,Code.frames,xO,guardIds]
theorem Ib {A:cQ}{C:Addr}{us:List aB}{kw:List (Str×aB)}:(A.under (.builtin "type.__call__" ⟨.ref C::us,kw⟩)).units=A.units+1:=by
 first | rfl | simp[xN,Code.cUnits,Code.frames,xO]
theorem Room.make {k:Nat}{A:cQ}(r:Room (k+1) A)(C:Addr)(us:List aB)(kw:List (Str×aB)):Room k (A.under (.builtin "type.__call__" ⟨.ref C::us,kw⟩)):=
 ⟨r.hd,by have:=r.dp;rw[Ia];lia,by have:=r.un;rw[Ib];lia⟩
theorem Room.depth {k:Nat}{A:cQ}(r:Room k A):A.depth < recursionLimit:=by have:=r.dp;lia
theorem Room.units {k:Nat}{A:cQ}(r:Room k A):A.units+64 < iK:=by have:=r.un;lia
def N3:TA:=λ_ H Q=>Q [] H
def Cf (ta:TE)(tr:TA):TA:=λσ H Q=>ta σ H λx H1=>tr σ H1 λxs H2=>Q (x::xs) H2
section
variable {X:Cx}{e:Expr}{es:List Expr}{te:TE}{t:TA}{pos:Pos}
theorem ae:PA X [] N3:=λ_ _ _ _ H Q I h=>rS ⟨[],H,I,.nil,h⟩
theorem aa (ha:PE X e te)(hr:PA X es t)(hs:cW (e::es) X.env=(false,eval e X.env)::cW es X.env:=by rfl):PA X (e::es) (Cf te t):=by
 intro pos f' s σ H Q I h;rw[hs];show aM _ _ (yC ((false,eval e X.env)::jJ pos (cW es X.env))) _ _ s;refine qR (thn (ha f' s σ H _ I h) λu s1 zF=>?_);obtain⟨x,H1,I1,r1,q1⟩:=zF;exact thn (hr pos f' s1 σ H1 _ I1 q1) λus s2 zF=>by obtain⟨xs,H2,I2,r2,q2⟩:=zF;exact⟨x::xs,H2,I2,.cons r1 r2,q2⟩
def N4 (t:TA):TE:=λσ H Q=>t σ H λxs H1=>xs.length<=sizeLine/\∀p,H1 p=none->Q (.ref p) (upd H1 p (.tup xs))
def tLst (t:TA):TE:=λσ H Q=>t σ H λxs H1=>xs.length<=sizeLine/\∀p,H1 p=none->Q (.ref p) (upd H1 p (.lst xs))
theorem c9 {x1}(h:PA X es t):PE X (.Tuple es x1 pos) (N4 t):=by
 intro f' s σ H Q I hq;refine wpAny_Tuple_spliced (thn (h pos f' s σ H _ I hq) λus s1 ⟨xs,H1,I1,r,z,q⟩=>⟨by rw[<-r.length];exact z,?_⟩);have hf:H1 s1.heap.objs.size=none:=I1.hok.fresh (aN _);refine⟨.ref s1.heap.objs.size,upd H1 s1.heap.objs.size (.tup xs),I1.laid (t':=s1.toks) (λb u e=>aJ _ e) (aN _) ?_,rfl,q _ hf⟩;exact⟨z,us,r,⟨_,bV _ rfl,rfl,_,rfl⟩⟩
theorem az (h:PA X es t):PE X (.List es pos) (tLst t):=by
 intro f' s σ H Q I hq;refine wpAny_List_spliced (thn (h pos f' s σ H _ I hq) λus s1 ⟨xs,H1,I1,r,z,q⟩=>⟨by rw[<-r.length];exact z,?_⟩);have hf:H1 s1.heap.objs.size=none:=I1.hok.fresh (aN _);refine⟨.ref s1.heap.objs.size,upd H1 s1.heap.objs.size (.lst xs),I1.laid (t':=s1.toks) (λb u e=>aJ _ e) (aN _) ?_,rfl,q _ hf⟩;exact⟨z,us,0,r,bV _ rfl⟩
end
abbrev Sp:=List V->Hp->VK->XK->Prop
abbrev CXT:=List Env->Hp->aG->XK->aB->aG->Prop
structure Env0 (P:aP)(w:aW)(K:aC)(mg:Str->Option aB)(base:Heap)(A:cQ)(outer:List Env)(s:aG)(H:Hp):Prop where
 frames:A.frames=some outer
 mod:Mod K mg base
 bs:∀b o,base.get? b=some o->s.heap.get? b=some o/\H b=none
 bsz:base.objs.size<=s.heap.objs.size
 funs:s.heap.FunFrames base outer
 frf:∀b∈frs outer,H b=none
 hok:HOk P w H s.heap
 bare:rE s.gens
def CE (outer:List Env)(P:aP)(w:aW)(H:Hp)(s:aG)(Q:VK)(u:aB)(s':aG):Prop:=
 ∃v H',s'.os=s.os/\rE s'.gens/\Un (frs outer) [] H H' s.heap s'.heap/\HOk P w H' s'.heap/\RelV v u/\Q v H'
def CR (CX:CXT)(outer:List Env)(P:aP)(w:aW)(H:Hp)(s:aG)(Q:VK)(E:XK)(r:xL)(s':aG):Prop:=
 match r with
 | .ok (.ret u)=>CE outer P w H s Q u s'
 | .ok _=>False
 | .error e=>CX outer H s E e s'
structure FnOk (P:aP)(w:aW)(K:aC)(mg:Str->Option aB)(base:Heap)(CX:CXT)(k:Nat)(f:Addr)(fd:bX)(ps:List Str)(sp:Sp):Prop where
 len:∀vs H Q E,sp vs H Q E->vs.length=ps.length
 run:∀(A:cQ)(outer:List Env) (s:aG) (H:Hp) (args:Args) (us:List aB) (vs:List V) (Q:VK) (E:XK),Room k A->Env0 P w K mg base A outer s H->wR s fd args (ps.zip us)->Vals vs us->sp vs H Q E->
  oQ (aX P w) A (.call (.ref f) args) (CR CX outer P w H s Q E) s
theorem Env0.make {P:aP}{w:aW}{K:aC}{mg:Str->Option aB}{base:Heap}{A:cQ}{outer:List Env}{s:aG}{H:Hp}(e:Env0 P w K mg base A outer s H)(C:Addr)(us:List aB)(kw:List (Str×aB)) :
  Env0 P w K mg base (A.under (.builtin "type.__call__" ⟨.ref C::us,kw⟩)) outer s H:=⟨by first | exact e.frames | (simpa[xN,Code.envs,xO,pushEnvs]using e.frames),e.mod,e.bs,e.bsz,e.funs,e.frf,e.hok,e.bare⟩
section
variable {X:Cx}{f':List (Addr×Obj)}{σ:St}{H:Hp}{s s':aG}
theorem Inv.env0 (I:Inv X f' σ H s):Env0 X.prog X.w X.K X.mg X.base X.A X.stack s H:=
 ⟨I.ok.frames,I.ok.mod,I.bs,bQ I.ok.bsz I.sz,I.stack,I.stkFree,I.hok,I.bare⟩
theorem Inv.after {Q:VK}{u:aB}(I:Inv X f' σ H s)(h:CE X.stack X.prog X.w H s Q u s'):EP X f' σ Q u s':=by
 obtain⟨v,H',os,bare,un,hok,r,q⟩:=h;obtain⟨hh,g,d,t,OL⟩:=s';obtain rfl:OL=s.os:=os;exact⟨v,H',I.call (h':=hh) (g':=g) (d':=d) (t':=t) (ch:=[]) un hok bare (λb z=>absurd z (by simp)),r,q⟩
end
def Qo (sp:Sp)(BF:List V)(E:XK)(t:TA):TE:=λσ H Q=>t σ H λvs H1=>sp (vs++BF) H1 Q E
def Wm (C:Addr)(m:Str)(sp:Sp)(BF:List V)(E:XK)(ta:TE)(t:TA):TE:=λσ H Q=>ta σ H λx H1=>∃a dx fs,x=.ref a/\H1 a=some (.ins C dx fs)/\fs.lookup m=none/\
 t σ H1 λvs H2=>sp (x::(vs++BF)) H2 Q E
def Wn (C:Addr)(sp:Sp)(BF:List V)(E:XK)(t:TA):TE:=λσ H Q=>t σ H λvs H1=>∀x dx,H1 x=none->H1 dx=none->dx≠x->
 sp (.ref x::(vs++BF)) (upd (upd H1 dx (.own x)) x (.ins C dx [])) (λv H2=>v=.non/\Q (.ref x) H2) E
def Binds (K:aC)(fd:bX)(ps:List Str)(ds:List aB):Prop:=
 ∀(s:aG)(us:List aB),K.In s.heap->(us++ds).length=ps.length->wR s fd ⟨us,[]⟩ (ps.zip (us++ds))
theorem Binds.all {K:aC}{fd:bX}{ps:List Str}(h:∀us:List aB,us.length=ps.length->vQ fd ⟨us,[]⟩=pure (ps.zip us)):Binds K fd ps []:=λs us _ hl=>by
 rw[lB]at hl ⊢;exact .of_eq (h us hl)
def lh (CX:CXT)(X:Cx)(E:XK):Prop:=∀(f':List (Addr×Obj))(σ:St) (H:Hp) (s:aG) (e:aB) (s':aG),Inv X f' σ H s->CX X.stack H s E e s'->X.xe e s'
section
variable {X:Cx}{CX:CXT}{k:Nat}{f C:Addr}{fd:bX}{ps:List Str}{sp:Sp}{BF:List V}{ds:List aB}{E:XK}{x m:Str}{p pos AA:Pos}{e o:Expr}{es:List Expr}{ta:TE}{t:TA}
theorem Cv {f':List (Addr×Obj)}{σ:St}{H:Hp}{s:aG}{Q:VK}{us:List aB}{vs:List V}(F:FnOk X.prog X.w X.K X.mg X.base CX k f fd ps sp)(hr:Room k X.A)(hb:Binds X.K fd ps ds)(hd:Vals BF ds)(hx:lh CX X E)
  (I:Inv X f' σ H s) (r:Vals vs us) (h:sp (vs++BF) H Q E):aM (aX X.prog X.w) X.A (call (.ref f) us) (EP X f' σ Q) X.xe s:=by
 have r2:Vals (vs++BF) (us++ds):=r.append hd;have hl:(us++ds).length=ps.length:=(by rw[<-r2.length];exact F.len _ _ _ _ h);refine tJ (nJ (F.run X.A X.stack s H ⟨us,[]⟩ (us++ds) (vs++BF) Q E hr I.env0 (hb s us I.kIn hl) r2 h) λr s' hq=>?_);cases r with
 |error e=>exact hx f' σ H s e s' I hq
 |ok fl=>
  cases fl with
  |ret u=>exact I.after hq
  |next=>exact iO hq
  |brk=>exact iO hq
  |cont=>exact iO hq
theorem ao (F:FnOk X.prog X.w X.K X.mg X.base CX k f fd ps sp)(hr:Room k X.A)(hg:Gl X x)(hm:X.mg x=some (.ref f))(hk:aV X.K (.ref f)=true)(hb:Binds X.K fd ps ds)(hd:Vals BF ds)(hx:lh CX X E)
  (ha:PA X (e::es) t) (BU:(x == ("__debug__":Str))=false:=by decide) (he:cW (e::es) X.env=(false,eval e X.env)::cW es X.env:=by rfl) (AL:(jJ pos (cW es X.env)).any (·.1)=false:=by rfl) :
  PE X (.Call (.Name x p) (e::es) [] pos) (Qo sp BF E t):=by
 intro f' s σ H Q I h;refine jW (m8 I hg hm ?_ BU);refine oW (h₀:=X.base) I.ok.mod.kin hk (thn (ha pos f' s σ H _ I h) λus s1 zF=>?_) he AL;obtain⟨vs,H1,I1,r,q⟩:=zF;refine⟨I1.kIn,?_⟩;exact Cv F hr hb hd hx I1 r q
theorem vd {pl:Sem Bool}(he:PE X o ta)(c:Cls X.K C)(hm:N2 X.K C m f)(F:FnOk X.prog X.w X.K X.mg X.base CX k f fd ps sp)(hr:Room k X.A)(hb:Binds X.K fd ps ds)(hd:Vals BF ds)(hx:lh CX X E)(ha:PA X (e::es) t)
  (DI:cW (e::es) X.env=(false,eval e X.env)::cW es X.env:=by rfl) (AL:(jJ pos (cW es X.env)).any (·.1)=false:=by rfl)
  (ht:eval (.Call (.Attribute o m AA) (e::es) [] pos) X.env=(do
    let ov <-eval o X.env
    vK AA.atName
    let (f,first) <-rF [ov] (wC ov m pl)
    callWith pos f first (jJ pos (cW (e::es) X.env)) (vR pos (rY [] X.env))):=by rfl) :
  PE X (.Call (.Attribute o m AA) (e::es) [] pos) (Wm C m sp BF E ta t):=by
 intro f' s σ H Q I h;refine sR (pl:=pl) (thn (he f' s σ H _ I h) λu s1 zF=>?_) ht;obtain⟨x,H1,I1,rx,a,dx,fs,ex,ea,l,q⟩:=zF;subst ex;obtain rfl:u=cE a:=rx;refine Hy I1 ea c hm l ?_;refine oW (first:=[.ref a]) (h₀:=X.base) I.ok.mod.kin hm.kp (thn (ha pos f' s1 σ H1 _ I1 q) λus s2 zF=>?_) DI AL
 obtain⟨vs,H2,I2,r,q2⟩:=zF;refine⟨I2.kIn,?_⟩;exact Cv (us:=.ref a::us) (vs:=.ref a::vs) F hr hb hd hx I2 (.cons rfl r) q2
structure Mk (K:aC)(C f:Addr):Prop where
 makes:wE K C=true
 init:cH K (.ref C) "__init__"=some (some (.ref f))
 fn:oG K (.ref f)=true
 kp:aV K (.ref C)=true
theorem N5 {f':List (Addr×Obj)}{σ:St}{H:Hp}{s:aG}{Q:VK}{us:List aB}{vs:List V}(M:Mk X.K C f)(F:FnOk X.prog X.w X.K X.mg X.base CX k f fd ps sp)(hr:Room (k+1) X.A)(hb:Binds X.K fd ps ds)(hd:Vals BF ds)
  (hx:lh CX X E) (I:Inv X f' σ H s) (r:Vals vs us)
  (h:∀x dx,H x=none->H dx=none->dx≠x->sp (.ref x::(vs++BF)) (upd (upd H dx (.own x)) x (.ins C dx [])) (λv H2=>v=.non/\Q (.ref x) H2) E) :
  aM (aX X.prog X.w) X.A (call (.ref C) us) (EP X f' σ Q) X.xe s:=by
 have hq:=h (s.heap.objs.size+1) s.heap.objs.size (I.hok.fresh (uJ _)) (I.hok.fresh (aN _)) (cK (oH _));have I2:=Inv.made (C:=C) I;have r2:Vals (V.ref (s.heap.objs.size+1)::(vs++BF)) (cE (s.heap.objs.size+1)::(us++ds)):=.cons rfl (r.append hd);have hl:(cE (s.heap.objs.size+1)::us++ds).length=ps.length:=by
  have e:=r2.length;rw[F.len _ _ _ _ hq]at e;exact e.symm
 refine tJ (N1 (f:=f) I.kIn M.makes M.init (beq_iff_eq.mp M.fn) (nJ (F.run _ X.stack _ _ ⟨cE (s.heap.objs.size+1)::us,[]⟩ (cE (s.heap.objs.size+1)::(us++ds)) _ _ E (hr.make C us []) (I2.env0.make C us []) (hb _ (cE (s.heap.objs.size+1)::us) I2.kIn hl) r2 hq) λr s' CJ=>?_));cases r with
 |error e=>exact hx f' σ _ _ e s' I2 CJ
 |ok fl=>
  cases fl with
  |ret u=>
   obtain⟨v,H',I3,rv,ev,q3⟩:=I2.after CJ;subst ev;exact⟨rv,⟨V.ref (s.heap.objs.size+1),H',I3,rfl,q3⟩⟩
  |next=>exact iO CJ
  |brk=>exact iO CJ
  |cont=>exact iO CJ
theorem Ft (M:Mk X.K C f)(F:FnOk X.prog X.w X.K X.mg X.base CX k f fd ps sp)(hr:Room (k+1) X.A)(hg:Gl X x)(hm:X.mg x=some (.ref C))(hb:Binds X.K fd ps ds)(hd:Vals BF ds)(hx:lh CX X E)
  (ha:PA X (e::es) t) (BU:(x == ("__debug__":Str))=false:=by decide) (he:cW (e::es) X.env=(false,eval e X.env)::cW es X.env:=by rfl) (AL:(jJ pos (cW es X.env)).any (·.1)=false:=by rfl) :
  PE X (.Call (.Name x p) (e::es) [] pos) (Wn C sp BF E t):=by
 intro f' s σ H Q I h;refine jW (m8 I hg hm ?_ BU);refine oW (h₀:=X.base) I.ok.mod.kin M.kp (thn (ha pos f' s σ H _ I h) λus s1 zF=>?_) he AL;obtain⟨vs,H1,I1,r,q⟩:=zF;refine⟨I1.kIn,?_⟩;exact N5 M F hr hb hd hx I1 r q
end
section
variable {X:Cx}{CX:CXT}{k:Nat}{f C:Addr}{fd:bX}{ps ks:List Str}{sp:Sp}{E:XK}{x m:Str}{p pos AA kpos:Pos}{e o:Expr}{es:List Expr}{kws:List vL}{te ta:TE}{t tk:TA}{nm:Option Str}
variable {g:List aB->List aB->List aB}{gV:List V->List V->List V}
end
structure au (N P:List Str)(sc:gM):Prop where
 kind:sc.kind=.function
 co:sc.isCoroutine=false
 gen:sc.isGenerator=false
 nd:N.Nodup
 pre:N.take P.length=P
 par:∀x∈P,sc.names.lookup x=some .local\/sc.names.lookup x=some .cell
 nofree:∀y∈sc.names,y.2≠.free
theorem Bg {kindOf:Str->Option vS}{x:Str}:∀{binds:List (Str×aB)}{m:Str->Option aB},(∀v,(x,v) ∉ binds)->wW kindOf binds m x=m x
 | [],_,_=>rfl
 | (n,v)::r,m,h=>by
  unfold wW;rw[Bg λw hw=>h w (cC _ hw)]
  split
  ·have:x≠n:=(by rintro rfl;exact h v cJ);simp[this]
  ·rfl
theorem Bh {kindOf:Str->Option vS}{x:Str}:∀{binds:List (Str×aB)}{m:Str->Option aB},(∀v,(x,v) ∉ binds)->wX kindOf binds m x=m x
 | [],_,_=>rfl
 | (n,v)::r,m,h=>by
  unfold wX;rw[Bh λw hw=>h w (cC _ hw)]
  split
  ·rfl
  ·have:x≠n:=(by rintro rfl;exact h v cJ);simp[this]
theorem Bi {kindOf:Str->Option vS}{x:Str}{v:aB}:∀{P:List Str}{vs:List aB}{i:Nat}{m:Str->Option aB},P.Nodup->P[i]?=some x->vs[i]?=some v->kindOf x=some .local->
  wW kindOf (P.zip vs) m x=some v
 | [],_,_,_,_,h,_,_=>by simp at h
 |_::_,[],_,_,_,_,h,_=>by simp at h
 |p::P,w::vs,0,m,nd,h1,h2,hk=>by
  simp at h1 h2;subst h1;subst h2;show wW kindOf ((p,w)::P.zip vs) m p=_;unfold wW;rw[Bg λv hv=>(iQ.mp nd).1 (wF hv).1,if_pos hk];simp
 |p::P,w::vs,i+1,m,nd,h1,h2,hk=>by
  show wW kindOf ((p,w)::P.zip vs) m x=_;unfold wW;exact Bi (i:=i) (iQ.mp nd).2 (by simpa using h1) (by simpa using h2) hk
theorem Bj {kindOf:Str->Option vS}{x:Str}{v:aB}:∀{P:List Str}{vs:List aB}{i:Nat}{m:Str->Option aB},P.Nodup->P[i]?=some x->vs[i]?=some v->kindOf x≠some .local->
  wX kindOf (P.zip vs) m x=some v
 | [],_,_,_,_,h,_,_=>by simp at h
 |_::_,[],_,_,_,_,h,_=>by simp at h
 |p::P,w::vs,0,m,nd,h1,h2,hk=>by
  simp at h1 h2;subst h1;subst h2;show wX kindOf ((p,w)::P.zip vs) m p=_;unfold wX;rw[Bh λv hv=>(iQ.mp nd).1 (wF hv).1,if_neg hk];simp
 |p::P,w::vs,i+1,m,nd,h1,h2,hk=>by
  show wX kindOf ((p,w)::P.zip vs) m x=_;unfold wX;exact Bj (i:=i) (iQ.mp nd).2 (by simpa using h1) (by simpa using h2) hk
def start (N:List Str)(vs:List V):St:=vs.map some++dQ (N.length - vs.length) none
def bb (CX:CXT)(P:aP)(w:aW)(K:aC)(mg:Str->Option aB)(base:Heap)(N:List Str)(zK:Str)(scope:gM)(f:Addr)(cd:aB)(A:cQ)(outer:List Env)(s:aG)(H:Hp)(E:XK):Cx where
 prog:=P
 w:=w
 K:=K
 mg:=mg
 base:=base
 A:=A.deeper (rZ zK scope s.heap.objs.size f cd)
 N:=N
 s₀:=s
 H₀:=H
 env:=rZ zK scope s.heap.objs.size f cd
 outer:=outer
 stack:=rZ zK scope s.heap.objs.size f cd::outer
 ex:=[]
 calm:=true
 fn:=λ_=>true
 pn:=[]
 xe:=λe s'=>aM (aX P w) (A.deeper (rZ zK scope s.heap.objs.size f cd)) (leaving (rZ zK scope s.heap.objs.size f cd) e) (λ_ KQ=>CX outer H s E e KQ) (λe' KQ=>CX outer H s E e' KQ) s'
theorem Cw {sc:gM}{n:Nat}{x:Str}(h:sc.names.lookup x=some .cell):∃c,(cellsFrom n sc.names []).lookup x=some c:=by
 have q:=PySem.W.cellsFrom_some sc.names n [] (.inl h);exact oJ.mp q
theorem K3 {CX:CXT}{P:aP}{w:aW}{K:aC}{mg:Str->Option aB}{base:Heap}{N ps:List Str}{zK:Str}{scope:gM}{f:Addr}{cd:aB}{A:cQ}{outer:List Env}{s s1:aG}{H:Hp}{E:XK}{us:List aB}{vs:List V}
  (S:au N ps scope) (hd:A.handled=none) (e0:Env0 P w K mg base A outer s H) (hl:vs.length=ps.length) (r:Vals vs us)
  (x:InCallC s s.heap.objs.size (wW (rZ zK scope s.heap.objs.size f cd).kindOf (ps.zip us) λ_=>none) (cellsFrom (s.heap.objs.size+1) scope.names []) (wX (rZ zK scope s.heap.objs.size f cd).kindOf (ps.zip us) λ_=>none) s1) :
  Inv (bb CX P w K mg base N zK scope f cd A outer s H E) [] (start N vs) H s1:=by
 have AL:ps.length<=N.length:=(by have:=congrArg List.length S.pre;rw[dJ]at this;lia);obtain⟨h1,tk,rfl,hk⟩:=x.done;have KR:∀b:Addr,b ∉ (bb CX P w K mg base N zK scope f cd A outer s H E).ex:=λb z=>absurd (show b∈([]:List Addr)from z) (by simp);refine⟨⟨e0.mod,S.kind,rfl,rfl,aN _,λy z c h1 h2=>?_,λy hy=>?_,λy c _ h=>?_,λ_=>hd,Around.frames_deeper e0.frames,.inr ⟨rfl,rfl⟩,λb z=>absurd z (KR b),e0.bs,e0.bsz,λb _ _=>KR b,λb z=>absurd z (KR b),e0.funs,e0.frf⟩,
   rfl,e0.bare,Un.kept hk,⟨_,x.toInCall.ns,λi y v h1 h2 h3=>?_⟩,λy c h=>⟨_,x.cell y c h⟩,e0.hok.fresh (aN _),λy c h=>?_,λp hp=>absurd (show p∈([]:List (Addr×Obj))from hp) (by simp),e0.hok.kept hk,?_⟩
 ·exact name_of_addr x.apart (mX h1) (mX h2)
 ·have hy:scope.names.lookup y=some .cell\/scope.names.lookup y=some .free:=hy;rcases hy with hy | hy
  ·exact Cw hy
  ·exact absurd rfl (S.nofree _ (mX hy))
 ·exact lD (x.above y c (mX h))
 ·have hi:i < vs.length:=by
   unfold start at h2;by_cases hi:i < vs.length
   ·exact hi
   ·rw[fZ (by simpa using hi)]at h2;rw[mK]at h2
    split at h2<;>cases h2
  have ha:vs[i]?=some v:=by
   unfold start at h2;rw[eB (by simpa using hi),cY]at h2;cases e:vs[i]? with
   |none=>rw[e]at h2;cases h2
   |some a=>rw[e]at h2;cases h2;rfl
  obtain⟨u,hu,rv⟩:=r.get ha;have hp:ps[i]?=some y:=by
   rw[<-S.pre,List.getElem?_take_of_lt (by lia)];exact h1
  have TK:ps.Nodup:=(by rw[<-S.pre];exact S.nd.sublist (List.take_sublist _ _));refine⟨u,rv,?_⟩;rcases S.par y (bK hp)with k | k
  ·exact .inl ⟨k,Bi TK hp hu k⟩
  ·obtain⟨c,e⟩:=Cw (n:=s.heap.objs.size+1) k;refine .inr ⟨.inl k,c,e,?_⟩;have q:=x.cell y c e;rw[Bj TK hp hu (by show scope.names.lookup y≠_;rw[k];decide)]at q;exact q
 ·exact e0.hok.fresh (lD (x.above y c (mX h)))
 ·unfold start;show _=N.length;rw[aO,aI,gO];lia
theorem Qp {CX:CXT}{P:aP}{w:aW}{K:aC}{mg:Str->Option aB}{base:Heap}{k:Nat}{f:Addr}{name zK:Str}{params:Arguments}{body:List Stmt}{scope:gM}{dV kV AR pm zH ct oc:aB}{an od:Option Addr}
  {EL:Array (Option aB)}{N ps:List Str}{sp:Sp}(lk:K.lookup f=some ⟨oc,od,.func (gT name zK params body scope dV kV AR pm an zH ct),EL⟩) (DH:kX K zH zK=true) (S:au N ps scope)
  (len:∀vs H Q E,sp vs H Q E->vs.length=ps.length)
  (BV:∀(A:cQ)(outer:List Env) (s:aG) (H:Hp) (vs:List V) (Q:VK) (E:XK),Room k (A.deeper (rZ zK scope s.heap.objs.size f zH))->sp vs H Q E->∃t,PSs (bb CX P w K mg base N zK scope f zH A outer s H E) body t/\t { nx:=λ_ H'=>Q .non H',rt:=Q } (start N vs) H) :
  FnOk P w K mg base CX (k+1) f (gT name zK params body scope dV kV AR pm an zH ct) ps sp:=by
 refine⟨len,λA outer s H args us vs Q E hr e0 hb r zU=>?_⟩;have hl:=len _ _ _ _ zU;have KX:K.In s.heap:=e0.mod.kin.keeps λb o e=>(e0.bs b o e).1;have lim:s.heap.NoLimit:=e0.mod.nolimit.keeps λb o e=>(e0.bs b o e).1;have hkind:∀y∈ps.zip us,scope.names.lookup y.1=some .local\/(scope.names.lookup y.1=some .cell/\((cellsFrom (s.heap.objs.size+1) scope.names []).lookup y.1).isSome=true):=λ⟨n,v⟩ hy=>by
  rcases S.par n (wF hy).1 with q | q
  ·exact .inl q
  ·exact .inr ⟨q,PySem.W.cellsFrom_some _ _ _ (.inl q)⟩
 refine codeAny_call_function hr.depth (KX _ _ lk) rfl S.co S.gen rfl (PySem.W.codeRec_of KX DH) (hb _ _ _ _ ?_);refine wpAny_newFunctionEnv_cells S.kind hkind λenv he s1 x=>?_;subst he;refine⟨lim.keeps x.toInCall.keep,codeAny_func ?_⟩;obtain⟨t,ht,hq⟩:=BV A outer s H vs Q E (hr.deeper _) zU;have I:Inv (bb CX P w K mg base N zK scope f zH A outer s H E) [] (start N vs) H s1:=K3 S hr.hd e0 hl r x;refine iD (ht [] s1 (start N vs) H _ I hq) (λfl s' hs=>?_) λe s' hs=>hs;have zL:∀{σ':St}{H':Hp}{v:V}{u:aB},Inv (bb CX P w K mg base N zK scope f zH A outer s H E) [] σ' H' s'->RelV v u->Q v H'->CE outer P w H s Q u s':=
  λ{σ' H' v u} J rv q=>⟨v,H',J.os,J.bare,J.base,J.hok,rv,q⟩
 cases fl with
 |ret u=>
  obtain⟨v,σ',H',J,rv,q⟩:=hs;exact zL J rv q
 |next=>
  obtain⟨σ',H',J,q⟩:=hs;exact zL (v:=V.non) (u:=gP) J rfl q
 |brk=>
  obtain⟨_,_,_,q⟩:=hs;exact iO q
 |cont=>
  obtain⟨_,_,_,q⟩:=hs;exact iO q
section
variable {X:Cx}{x:Str}{p pos:Pos}{e:Expr}{es:List Expr}{t:TA}{id T:String}{r:List V->Hp->VK->Prop}
def tCB (r:List V->Hp->VK->Prop)(t:TA):TE:=λσ H Q=>t σ H λvs H1=>r vs H1 Q
theorem bn (hc:jr X (.builtin id) r)(hg:Gl X x)(hm:X.mg x=none)(hv:jI x=some (.builtin id))(ha:PA X (e::es) t)(hn:x≠"__name__":=by decide)(BU:(x == ("__debug__":Str))=false:=by decide)
  (he:cW (e::es) X.env=(false,eval e X.env)::cW es X.env:=by rfl) (AL:(jJ pos (cW es X.env)).any (·.1)=false:=by rfl):PE X (.Call (.Name x p) (e::es) [] pos) (tCB r t):=by
 intro f' s σ H Q I h;refine jW (ip I hg hm hv ?_ hn BU);exact oX (thn (ha pos f' s σ H _ I h) λus s1 zF=>by obtain⟨vs,H1,I1,r1,q1⟩:=zF;exact hc f' s1 σ H1 vs us Q I1 r1 q1) he AL
theorem Bk (hc:jr X (.type T) r)(hg:Gl X x)(hm:X.mg x=none)(hv:jI x=some (.type T))(ha:PA X (e::es) t)(hn:x≠"__name__":=by decide)(BU:(x == ("__debug__":Str))=false:=by decide)
  (he:cW (e::es) X.env=(false,eval e X.env)::cW es X.env:=by rfl) (AL:(jJ pos (cW es X.env)).any (·.1)=false:=by rfl):PE X (.Call (.Name x p) (e::es) [] pos) (tCB r t):=by
 intro f' s σ H Q I h;refine jW (ip I hg hm hv ?_ hn BU);exact iL (thn (ha pos f' s σ H _ I h) λus s1 zF=>by obtain⟨vs,H1,I1,r1,q1⟩:=zF;exact hc f' s1 σ H1 vs us Q I1 r1 q1) he AL
end
end L2
namespace HT
open PySem PyProof.Rows
def lexLt:List Int->List Int->Bool
 | [],[]=>false
 | [],_::_=>true
 |_::_,[]=>false
 |x::xs,y::ys=>if x=y then lexLt xs ys else decide (x < y)
theorem lexLt_cons (x y:Int)(xs ys:List Int):lexLt (x::xs) (y::ys)=if x=y then lexLt xs ys else decide (x < y):=rfl
section
open PySem.SeqAt
open PySem.AutoSeq1 (wpAny_loadPart')
open PySem.MeetsSeq PySem.MeetsSeq2 PySem.MeetsSeq3
end
section
variable {prog:aP}{w:aW}{A:cQ}{E:aB->aG->Prop}{s:aG}
theorem cat_tup {t b:Addr}{vs ws:List aB}{Q:aB->aG->Prop}(ht:yL s.heap t vs.toArray)(hb:yL s.heap b ws.toArray)(hv:vs≠[])
  (h1:ws=[]->Q (.ref t) s) (h2:ws≠[]->Q (.ref s.heap.objs.size) { s with heap:=s.heap.push { cls:=.type "tuple",data:=.seq (vs++ws).toArray } })
  (hsz:vs.length+ws.length<=sizeLine):aM (aX prog w) A (kZ .Add (.ref t) (.ref b)) Q E s:=by
 obtain⟨⟨cls,dd,data,sl⟩,ho,hc,n,hd⟩:=id ht;obtain⟨⟨cls2,ID,data2,JQ⟩,M',DV,n2,JR⟩:=id hb;simp only at hc hd DV JR;subst hc hd DV JR;have e:vs.toArray++ws.toArray=(vs++ws).toArray:=(by simp);by_cases hw:ws=[]
 ·exact xP ⟨_,ho,rfl⟩ ⟨_,M',rfl⟩ vT xB sC rO (qS _ _)
   (tuple_addW1 t b vs.toArray ws.toArray n n2 dd ID sl JQ (by simpa using hv) (by simp[hw])) ⟨ho,M',h1 hw⟩
 ·refine xP ⟨_,ho,rfl⟩ ⟨_,M',rfl⟩ vT xB sC rO (qS _ _)
   (tuple_addW2 t b vs.toArray ws.toArray n n2 dd ID sl JQ (by simpa using hv) (by simpa using hw) (by rw[aS,aS];exact hsz)) ⟨ho,M',?_⟩
  rw[e];exact h2 hw
def sIx (n d:Nat):Option Int->Nat
 |none=>d
 |some v=>if v < 0 then (v+(n:Int)).toNat else min v.toNat n
theorem sIx_none (n d:Nat):sIx n d none=d:=rfl
theorem sIx_nat (n d k:Nat):sIx n d (some (k:Int))=min k n:=by
 show(if (k:Int) < 0 then ((k:Int)+(n:Int)).toNat else min (k:Int).toNat n)=min k n
 rw[if_neg (by lia),gE]
theorem Ur (n d:Nat)(hd:d<=n)(o:Option Int):sIx n d o<=n:=by
 cases o with
 |none=>exact hd
 |some v=>
  show(if v < 0 then (v+(n:Int)).toNat else min v.toNat n)<=n
  by_cases hv:v < 0
  ·rw[if_pos hv];lia
  ·rw[if_neg hv];exact Nat.min_le_right _ _
theorem Fu (v:Int)(n d:Nat):(if v < 0 then max (v+(n:Int)) 0 else min v (n:Int))=((sIx n d (some v):Nat):Int):=by
 show(if v < 0 then max (v+(n:Int)) 0 else min v (n:Int))=(((if v < 0 then (v+(n:Int)).toNat else min v.toNat n):Nat):Int)
 by_cases hv:v < 0
 ·simp only[if_pos hv];lia
 ·simp only[if_neg hv];lia
theorem Ic (lo hi:Option Int)(n:Nat):jR lo hi 1 (n:Int)=(((sIx n 0 lo:Nat):Int),((sIx n n hi:Nat):Int)):=by
 have h1:¬((1:Int) < 0):=(by lia);unfold jR;simp only[h1,if_false];refine Prod.ext ?_ ?_
 ·cases lo with
  |none=>rfl
  |some v=>exact Fu v n 0
 ·cases hi with
  |none=>rfl
  |some v=>exact Fu v n n
theorem Id (i j:Nat):iE (i:Int) (j:Int) 1=j - i:=by
 unfold iE;have h1:(1:Int) > 0:=(by lia);simp only[h1,if_true,Int.ediv_one]
 split<;>lia
theorem yo {v:aB}{o:Option Int}{Q:Option Int->aG->Prop}(p:vU v o)(h:Q o s):aM (aX prog w) A (Builtin.Slice.slicePartIndex v) Q E s:=by
 cases p with
 |none=>exact uC h
 |int i t=>exact slicePart_int h
theorem w6 {sl:Addr}{vl vu:aB}{lo hi:Option Int}{n:Nat}{Q:Int×Int×Nat->aG->Prop}(hs:s.heap.IsSliceOf sl vl vu .none)(pl:vU vl lo)(pu:vU vu hi)
  (h:Q (((sIx n 0 lo:Nat):Int),1,sIx n n hi - sIx n 0 lo) s):aM (aX prog w) A (nW (.ref sl) (pure (n:Int))) Q E s:=by
 obtain⟨os,KS,TL,IE⟩:=id hs;unfold nW Builtin.Slice.sliceFields;refine aA (aA (eI KS IE (x:=vl) rfl (aA (eI KS IE (x:=vu) rfl (aA (eI KS IE (x:=.none) rfl (wpAny_pure ?_)))))));refine aA (uC ?_);show aM _ _ (if ((1:Int) == 0)=true then _ else _) _ _ s
 rw[if_neg (by decide)];refine aA (yo pl (aA (yo pu (aA (wpAny_pure ?_)))));show aM _ _ (match jR lo hi 1 (n:Int)with | (lo,hi)=>pure (lo,(1:Int),iE lo hi 1)) _ _ s
 rw[Ic lo hi n];show aM _ _ (pure (((sIx n 0 lo:Nat):Int),(1:Int),iE ((sIx n 0 lo:Nat):Int) ((sIx n n hi:Nat):Int) 1)) _ _ s;rw[Id];exact wpAny_pure h
theorem N6 (xs:Array aB)(i k:Nat):((eE k).filterMap λ(m:Nat)=>xs[((i:Int)+(m:Int) * 1).toNat]?).toArray=((xs.toList.drop i).take k).toArray:=by
 have e:(λ(m:Nat)=>xs[((i:Int)+(m:Int) * 1).toNat]?)=λm=>xs[i+m]?:=by
  funext m
  have:((i:Int)+(m:Int) * 1).toNat=i+m:=(by lia);rw[this]
 rw[e];have:=pick_run xs i k;rw[List.filterMap_map]at this;have e2:((λx=>xs[x]?)∘λx=>i+x)=λm=>xs[i+m]?:=rfl;rw[e2]at this;rw[this]
theorem getItem_tuple_cut {t sl:Addr}{items:Array aB}{vl vu:aB}{lo hi:Option Int}{Q:aB->aG->Prop}(ht:yL s.heap t items)(hs:s.heap.IsSliceOf sl vl vu .none)(pl:vU vl lo)(pu:vU vu hi)
  (hw:¬(sIx items.size 0 lo=0/\sIx items.size items.size hi=items.size))
  (h:Q (.ref s.heap.objs.size) { s with heap:=s.heap.push { cls:=.type "tuple",data:=.seq ((items.toList.drop (sIx items.size 0 lo)).take (sIx items.size items.size hi - sIx items.size 0 lo)).toArray } })
  (hsz:items.size<=sizeLine):aM (aX prog w) A (rG (.ref t) (.ref sl)) Q E s:=by
 have DA:sizeOk (.seq ((items.toList.drop (sIx items.size 0 lo)).take (sIx items.size items.size hi - sIx items.size 0 lo)).toArray):=by
  show((items.toList.drop (sIx items.size 0 lo)).take (sIx items.size items.size hi - sIx items.size 0 lo)).toArray.size<=sizeLine;rw[aS,dJ,hX,gA];lia
 have hj:sIx items.size items.size hi<=items.size:=Ur _ _ (aN _) hi;obtain⟨os,KS,TL,IE⟩:=id hs;have hTs:s.TypeIs (.ref sl) "slice":=⟨os,KS,TL⟩;unfold rG
 try with_reducible refine gH ?_
 first | refine aA (wpAny_pure ?_) | skip
 refine aA (wpAny_sequenceKey ht.typeIs (by decide) ?_);refine aA (gC (name:=iC "__getitem__") ht.typeIs lQ (fV lQ ht.typeIs entry_tuple_getitem ?_ (args_tuple_getitem _ _)));show aM _ _ (qC (.ref t) >>= _) _ _ s;refine aA (tupleItemsOf_ ht ?_);refine aA (tK hTs ?_);rw[if_pos (by decide)];refine aA (w6 hs pl pu ?_);have OM:¬((((sIx items.size 0 lo:Nat):Int) == 0 && (1:Int) == 1 && (sIx items.size items.size hi - sIx items.size 0 lo) == items.size)=true):=by
  intro q;rw[hZ,hZ]at q;have q1:((sIx items.size 0 lo:Nat):Int)=0:=eq_of_beq q.1.1;have q2:sIx items.size items.size hi - sIx items.size 0 lo=items.size:=eq_of_beq q.2;exact hw ⟨by lia,by lia⟩
 show aM _ _ (if (((sIx items.size 0 lo:Nat):Int) == 0 && (1:Int) == 1 && (sIx items.size items.size hi - sIx items.size 0 lo) == items.size)=true then _ else _) _ _ s
 rw[if_neg OM,N6]
 first
  |exact aA (m:=jA _) (gJ (wpAny_pure ⟨_,rfl,wpAny_pure h⟩) DA)
  |exact aA (m:=jA _) (gJ (aA (wpAny_pure (wpAny_pure ⟨_,rfl,wpAny_pure h⟩))) DA)
  |exact aA (aA (m:=jA _) (gJ (wpAny_pure (wpAny_pure ⟨_,rfl,wpAny_pure h⟩)) DA))
  |exact aA (aA (m:=jA _) (gJ (wpAny_pure ⟨_,rfl,wpAny_pure h⟩) DA))
end
end HT
namespace L2
open PySem PySem.Spec PyProof.Rows
abbrev TO:=St->Hp->(Option Int->Hp->Prop)->Prop
def PO (X:Cx)(e:Option Expr)(t:TO):Prop:=
 ∀(f':List (Addr×Obj))(s:aG) (σ:St) (H:Hp) (Q:Option Int->Hp->Prop),Inv X f' σ H s->t σ H Q->
  aM (aX X.prog X.w) X.A (evalPart e X.env) (λu s'=>∃o H',Inv X f' σ H' s'/\vU u o/\Q o H') X.xe s
def j0:TO:=λ_ H Q=>Q none H
def qh (t:TE):TO:=λσ H Q=>t σ H λx H1=>∃i,x=.int i/\Q (some i) H1
section
variable {X:Cx}{e:Expr}{te:TE}{lo hi:Option Expr}{tl th:TO}{pos p2:Pos}
theorem cq:PO X none j0:=by
 intro f' s σ H Q I h;rw[xC];exact wpAny_pure ⟨none,H,I,.none,h⟩
theorem bw (h:PE X e te):PO X (some e) (qh te):=by
 intro f' s σ H Q I hw;rw[evalPart_some];refine thn (h f' s σ H _ I hw) λu s1 zF=>?_;obtain⟨x,H1,I1,r1,q1⟩:=zF;obtain⟨i,rfl,q⟩:=q1;obtain⟨t,rfl⟩:=r1;exact⟨some i,H1,I1,.int i t,q⟩
def SlR (X:Cx)(r:V->Option Int->Option Int->Hp->VK->Prop):Prop:=
 ∀(f':List (Addr×Obj))(s:aG) (σ:St) (H:Hp) (x:V) (v vl vu:aB) (lo hi:Option Int) (sl:Addr) (Q:VK),Inv X f' σ H s->RelV x v->s.heap.IsSliceOf sl vl vu .none->vU vl lo->vU vu hi->r x lo hi H Q->
  ∃T id,pT (.type T) "__getitem__"=pure (some (.builtin id))/\s.TypeIs v T/\aM (aX X.prog X.w) X.A (rG v (.ref sl)) (EP X f' σ Q) X.xe s
def tSl (r:V->Option Int->Option Int->Hp->VK->Prop)(te:TE)(tl th:TO):TE:=λσ H Q=>te σ H λx H1=>tl σ H1 λl H2=>th σ H2 λu H3=>r x l u H3 Q
theorem bq {r:V->Option Int->Option Int->Hp->VK->Prop}(hr:SlR X r)(he:PE X e te)(hl:PO X lo tl)(hu:PO X hi th):PE X (.Subscript e (.Slice lo hi none p2) pos) (tSl r te tl th):=by
 intro f' s σ H Q I h;refine Subscript_ (thn (he f' s σ H _ I h) λv s1 zF=>?_);obtain⟨x,H1,I1,r1,q1⟩:=zF;refine wpAny_Slice (thn (hl f' s1 σ H1 _ I1 q1) λvl s2 zF=>?_);obtain⟨l,H2,I2,pl,q2⟩:=zF;refine thn (hu f' s2 σ H2 _ I2 q2) λvu s3 zF=>?_;obtain⟨u,H3,I3,pu,q3⟩:=zF;rw[xC];refine wpAny_pure ?_;have I4:Inv X f' σ H3 { s3 with heap:=s3.heap.push { cls:=.type "slice",data:=.fields #[vl,vu,.none] } }:=I3.kept (t':=s3.toks) λb ob q=>aJ _ q;obtain⟨T,id,hT,ht,hg⟩:=hr f' { s3 with heap:=s3.heap.push { cls:=.type "slice",data:=.fields #[vl,vu,.none] } } σ H3 x v vl vu l u s3.heap.objs.size Q I4 r1 (Heap.IsSliceOf.new ..) pl pu q3;show aM (aX X.prog X.w) X.A (uV e (.Slice lo hi none p2) v (.ref s3.heap.objs.size)) (EP X f' σ Q) X.xe { s3 with heap:=s3.heap.push { cls:=.type "slice",data:=.fields #[vl,vu,.none] } };exact tail_any (ops:=[.ref s3.heap.objs.size,v]) ht hT hg (by with_unfolding_all rfl)
def cr (xs:List V)(lo hi:Option Int):List V:=(xs.drop (HT.sIx xs.length 0 lo)).take (HT.sIx xs.length xs.length hi - HT.sIx xs.length 0 lo)
theorem vy (xs:List V)(lo hi:Option Int):(cr xs lo hi).length<=xs.length:=by
 unfold cr;rw[dJ,hX];lia
def ni (K:aC):V->Option Int->Option Int->Hp->VK->Prop:=λx lo hi H Q=>∃a xs,x=.ref a/\SqT K H a xs/\
 ¬(HT.sIx xs.length 0 lo=0/\HT.sIx xs.length xs.length hi=xs.length)/\∀p,H p=none->Q (.ref p) (upd H p (.tup (cr xs lo hi)))
theorem pj:SlR X (ni X.K):=by
 intro f' s σ H x v vl vu lo hi sl Q I rx hs pl pu h;obtain⟨a,xs,rfl,hx,hw,q⟩:=h;cases rx;obtain⟨its,r,ht,hz⟩:=I.tuple hx;have zJ:its.toArray.size=xs.length:=(by rw[aS];exact r.length.symm);refine⟨"tuple",_,PyProof.Rows.slot_tuple_getitem.lookup,ht.typeIs,?_⟩;refine HT.getItem_tuple_cut ht hs pl pu (by rw[zJ];exact hw) ?_ (by rw[zJ];exact hz);rw[zJ];refine⟨.ref s.heap.objs.size,_,I.laid (t':=s.toks) (o:=.tup (cr xs lo hi)) (λb ob q=>aJ _ q) (aN _) ?_,rfl,q _ (I.hok.fresh (aN _))⟩;exact⟨bQ (vy xs lo hi) hz,_,(r.drop (HT.sIx xs.length 0 lo)).take (HT.sIx xs.length xs.length hi - HT.sIx xs.length 0 lo),xQ _ _⟩
def io (K:aC):R2:=λx y H Q=>∃a b xs ys,x=.ref a/\y=.ref b/\SqT K H a xs/\SqT K H b ys/\xs≠[]/\xs.length+ys.length<=sizeLine/\
 (ys=[]->Q (.ref a) H)/\(ys≠[]->∀p,H p=none->Q (.ref p) (upd H p (.tup (xs++ys))))
theorem Vals.nil_iff {xs:List V}{us:List aB}(r:Vals xs us):us=[]↔xs=[]:=by
 cases r with
 |nil=>simp
 |cons _ _=>simp
theorem Rv:OpR X (kZ .Add) (io X.K):=by
 intro f' s σ H x y v u Q I rx ry h;obtain⟨a,b,xs,ys,rfl,rfl,ha,hb,hx,hz,q1,q2⟩:=h;cases rx;cases ry;obtain⟨its,r1,p1,_⟩:=I.tuple ha;obtain⟨zM,r2,p2,_⟩:=I.tuple hb;refine HT.cat_tup p1 p2 (λz=>hx (r1.nil_iff.mp z)) (λz=>⟨.ref a,H,I,rfl,q1 (r2.nil_iff.mp z)⟩) (λz=>?_) (by rw[<-r1.length,<-r2.length];exact hz);refine⟨.ref s.heap.objs.size,_,I.laid (t':=s.toks) (o:=.tup (xs++ys)) (λb ob q=>aJ _ q) (aN _) ?_,rfl,q2 (λw=>z (r2.nil_iff.mpr w)) _ (I.hok.fresh (aN _))⟩;exact⟨by rw[aO];exact hz,_,r1.append r2,xQ _ _⟩
end
def ixN (n:Nat)(i:Int):Option Nat:=if 0<=i then (if i < n then some i.toNat else none)else if -(n:Int)<=i then some (i+n).toNat else none
def atI {α:Type}(xs:List α)(i:Int):Option α:=(ixN xs.length i).bind λj=>xs[j]?
theorem Fv {n:Nat}{i:Int}{j:Nat}(h:ixN n i=some j):seqIndex? i n=some j/\j < n/\-(n:Int)<=i/\i < n:=by
 unfold ixN at h;by_cases h0:0<=i
 ·rw[if_pos h0]at h;by_cases h1:i < n
  ·rw[if_pos h1]at h;have e:i.toNat=j:=eA h;exact⟨by rw[yF h0 h1,e],by lia,by lia,h1⟩
  ·rw[if_neg h1]at h;cases h
 ·rw[if_neg h0]at h;by_cases h1:-(n:Int)<=i
  ·rw[if_pos h1]at h;have e:(i+n).toNat=j:=eA h;exact⟨by rw[seqIndex_neg (by lia) h1,e],by lia,h1,by lia⟩
  ·rw[if_neg h1]at h;cases h
theorem Am {α:Type}{xs:List α}{i:Int}{v:α}(h:atI xs i=some v):∃j,seqIndex? i xs.length=some j/\xs[j]?=some v/\j < xs.length/\-(xs.length:Int)<=i/\i < xs.length:=by
 unfold atI at h;cases e:ixN xs.length i with
 |none=>rw[e]at h;cases h
 |some j=>
  rw[e]at h;obtain⟨h1,h2,h3,h4⟩:=Fv e;exact⟨j,h1,h,h2,h3,h4⟩
theorem bf {α:Type}{xs:List α}{j:Nat}{v:α}(h:xs[j]?=some v):atI xs (j:Int)=some v:=by
 have hj:j < xs.length:=(aL.mp h).1;have e:ixN xs.length (j:Int)=some j:=by
  unfold ixN;rw[if_pos (by lia),if_pos (by lia)];simp
 unfold atI;rw[e];exact h
theorem N7 {α:Type}(xs:List α)(v:α):atI (xs++[v]) (-1)=some v:=by
 have hl:(xs++[v]).length=xs.length+1:=(by simp);have e:ixN (xs++[v]).length (-1)=some xs.length:=by
  unfold ixN;rw[hl,if_neg (by decide),if_pos (by lia)];congr 1;lia
 unfold atI;rw[e];show(xs++[v])[xs.length]?=some v;simp
def Rw (b:Expr):Prop:=∀o i,wM b false o i=operate [o,i] (rG o i)
def IxR (X:Cx)(r:R2):Prop:=
 ∀(value slice:Expr)(f':List (Addr×Obj)) (s:aG) (σ:St) (H:Hp) (x y:V) (v u:aB) (Q:VK),Inv X f' σ H s->RelV x v->RelV y u->r x y H Q->
  wM slice false v u=operate [v,u] (rG v u)->aM (aX X.prog X.w) X.A (uV value slice v u) (EP X f' σ Q) X.xe s
def MtR (X:Cx)(id:String)(r:V->List V->Hp->VK->Prop):Prop:=
 ∀(f':List (Addr×Obj))(s:aG) (σ:St) (H:Hp) (x:V) (xs:List V) (v:aB) (us:List aB) (Q:VK),Inv X f' σ H s->RelV x v->Vals xs us->r x xs H Q->
  aM (aX X.prog X.w) X.A (call (.builtin id) (v::us)) (EP X f' σ Q) X.xe s
section
variable {X:Cx}{a b:Expr}{ta tb:TE}{pos:Pos}
theorem aq {r:R2}(hr:IxR X r)(ha:PE X a ta)(hb:PE X b tb)(hs:Rw b):PE X (.Subscript a b pos) (tOp r ta tb):=by
 intro f' s σ H Q I h;exact Subscript_ (Nw ha hb I h λv u s2 x y H2 I2 rx ry q=>hr a b f' s2 σ H2 x y v u Q I2 rx ry q (hs _ _))
def An (K:aC):R2:=λx y H Q=>∃p xs i v,x=.ref p/\y=.int i/\SqL K H p xs/\atI xs i=some v/\Q v H
def Ie (K:aC):R2:=λx y H Q=>∃p xs i v,x=.ref p/\y=.int i/\SqT K H p xs/\atI xs i=some v/\Q v H
def rIxS:R2:=λx y H Q=>∃z i c,x=.str z/\y=.int i/\z.length<=sizeLine/\atI z.cps.toList i=some c/\Q (.str ⟨#[c]⟩) H
theorem ar:IxR X (An X.K):=by
 intro value slice f' s σ H x y v u Q I rx ry h hs;obtain⟨p,xs,i,z,rfl,rfl,hq,he,q⟩:=h;cases rx;obtain⟨t,rfl⟩:=ry;obtain⟨its,r,pl,hz⟩:=I.list hq;obtain⟨j,h1,h2,h3,h4,h5⟩:=Am he;obtain⟨w,ew,DB⟩:=r.get h2;have hl:=r.length;have hn:=lg;have zL:EP X f' σ Q w s:=⟨z,H,I,DB,q⟩;by_cases h0:0<=i
 ·have hj:i.toNat=j:=by
   rw[yF h0 h5]at h1;exact eA h1
  exact item_listR pl.isList h0 (by lia) (by rw[hj];simpa using ew) zL hs
 ·have hj:(i+(its.toArray.size:Int)).toNat=j:=by
   rw[seqIndex_neg (by lia) h4]at h1;rw[aS,<-hl];exact eA h1
  exact sE (x:=w) pl.isList.typeIs slot_list_getitem.lookup
   (wpAny_getItem_list_neg (Q:=λr s'=>r=w/\EP X f' σ Q r s') pl.isList (by lia) (by rw[aS]<;>lia) (by lia) (by rw[hj];simpa using ew) ⟨rfl,zL⟩) hs
theorem bx:IxR X (Ie X.K):=by
 intro value slice f' s σ H x y v u Q I rx ry h hs;obtain⟨p,xs,i,z,rfl,rfl,hq,he,q⟩:=h;cases rx;obtain⟨t,rfl⟩:=ry;obtain⟨its,r,pl,hz⟩:=I.tuple hq;obtain⟨j,h1,h2,h3,h4,h5⟩:=Am he;obtain⟨w,ew,DB⟩:=r.get h2;have hl:=r.length;have hn:=lg;have zL:EP X f' σ Q w s:=⟨z,H,I,DB,q⟩;exact sE (x:=w) pl.typeIs slot_tuple_getitem.lookup
  (getItem_tuple (j:=j) (Q:=λr s'=>r=w/\EP X f' σ Q r s') pl (by lia) (by lia) (by rw[aS,<-hl];exact h1) (by simpa using ew) ⟨rfl,zL⟩) hs
theorem Us:IxR X rIxS:=by
 intro value slice f' s σ H x y v u Q I rx ry h hs;obtain⟨z,i,c,rfl,rfl,hz,he,q⟩:=h;obtain⟨t,rfl⟩:=rx;obtain⟨t',rfl⟩:=ry;obtain⟨j,h1,h2,h3,h4,h5⟩:=Am he;have hl:z.cps.toList.length=z.length:=(by simp[Str.length]);rw[hl]at h1 h4 h5;have hn:=lg;exact tail_any (yQ s z t) slot_str_getitem.lookup (getItem_str (c:=c) (by
   have e1:decide (i < -(2 ^ 63:Int))=false:=decide_eq_false (by lia);have e2:decide (i>=2 ^ 63)=false:=decide_eq_false (by lia);rw[e1,e2,Bool.or_false]) (by rw[h1];simpa using h2) ⟨.str ⟨#[c]⟩,H,I.tok _,⟨_,rfl⟩,q⟩) hs
theorem Ig (its:List aB)(n j:Nat)(u:aB):iR (·.setIfInBounds j u) { cls:=.type "list",data:=.seq its.toArray n }={ cls:=.type "list",data:=.seq (its.set j u).toArray n }:=by
 simp[iR]
theorem Inv.lst {f':List (Addr×Obj)}{σ:St}{H:Hp}{s:aG}{p:Addr}{xs:List V}(I:Inv X f' σ H s)(h:H p=some (.lst xs)) :
  ∃(its:List aB)(n:Nat),Vals xs its/\s.heap.get? p=some { cls:=.type "list",data:=.seq its.toArray n }/\xs.length<=sizeLine:=by
 obtain⟨z,its,n,r,e⟩:=I.hok p _ h;exact⟨its,n,r,e,z⟩
theorem Inv.lstUpd {f':List (Addr×Obj)}{σ:St}{H:Hp}{s:aG}{p:Addr}{xs ys:List V}{its its':List aB}{n n':Nat}{f:Obj->Obj}(I:Inv X f' σ H s)(h:H p=some (.lst xs))
  (ho:s.heap.get? p=some { cls:=.type "list",data:=.seq its.toArray n }) (hf:f { cls:=.type "list",data:=.seq its.toArray n }={ cls:=.type "list",data:=.seq its'.toArray n' }) (r:Vals ys its') (hz:ys.length<=sizeLine) (t:Nat) :
  Inv X f' σ (upd H p (.lst ys)) { s with heap:=s.heap.update p f,toks:=t }:=by
 have e:(s.heap.update p f).get? p=some { cls:=.type "list",data:=.seq its'.toArray n' }:=by
  rw[gY f ho (by rw[hf]<;>rfl),hf]
 refine I.write (x:=p) (e:=p) (by rw[h];trivial) (.inl rfl) (λb u hb q=>(jM _ _ (Ne.symm hb)).trans q) ⟨_,e⟩ ?_;exact⟨hz,its',n',r,e⟩
def Wo:V->V->V->Hp->(Hp->Prop)->Prop:=λo i v H Q=>∃p xs k j,o=.ref p/\i=.int k/\H p=some (.lst xs)/\ixN xs.length k=some j/\Q (upd H p (.lst (xs.set j v)))
theorem w8:Nu X Wo:=by
 intro f' s σ H o i v ov iv u Q I ro ri rv h;obtain⟨p,xs,k,j,rfl,rfl,hp,hj,q⟩:=h;cases ro;obtain⟨t,rfl⟩:=ri;obtain⟨its,n,r,ho,hz⟩:=I.lst hp;obtain⟨h1,h2,h3,h4⟩:=Fv hj;have hl:=r.length;have hn:=lg;have I':Inv X f' σ (upd H p (.lst (xs.set j v))) { s with heap:=s.heap.update p (iR (·.setIfInBounds j u)) }:=
  I.lstUpd hp ho (Ig its n j u) (r.set rv j) (by rw[wG];exact hz) s.toks
 by_cases h0:0<=k
 ·have hk:k.toNat=j:=by
   rw[yF h0 h4]at h1;exact eA h1
  exact PySem.W.ki_setAt ho h0 (by lia) (by rw[aS,<-hl];exact h4) (by rw[hk];exact⟨_,I',q⟩)
 ·have hk:(k+(its.toArray.size:Int)).toNat=j:=by
   rw[seqIndex_neg (by lia) h3]at h1;rw[aS,<-hl];exact eA h1
  exact PySem.W.ki_setBack ho (by lia) (by rw[aS,<-hl];exact h3) (by lia) (by rw[hk];exact⟨_,I',q⟩)
theorem Cy (lo hi:Option Int)(n:Nat):(qI lo hi none n).1=((HT.sIx n 0 lo:Nat):Int)/\(qI lo hi none n).2.1=((HT.sIx n n hi:Nat):Int)/\(qI lo hi none n).2.2=1:=by
 refine⟨?_,?_,rfl⟩
 ·cases lo with
  |none=>simp[qI,HT.sIx]
  |some i=>
   simp only[qI,HT.sIx,Option.getD_none,show(1:Int) > 0 by decide,if_true];by_cases h:i < 0
   ·simp only[h,if_true]<;>lia
   ·simp only[h,if_false]<;>lia
 ·cases hi with
  |none=>simp[qI,HT.sIx]
  |some i=>
   simp only[qI,HT.sIx,Option.getD_none,show(1:Int) > 0 by decide,if_true];by_cases h:i < 0
   ·simp only[h,if_true]<;>lia
   ·simp only[h,if_false]<;>lia
theorem B9 (its:List aB)(lo hi:Option Int):slicePick its.toArray lo hi none=((its.drop (HT.sIx its.length 0 lo)).take (HT.sIx its.length its.length hi - HT.sIx its.length 0 lo)).toArray:=by
 obtain⟨h1,h2,h3⟩:=Cy lo hi its.toArray.size;unfold slicePick;rw[h1,h2,h3];simp only[sliceRange_one,pick_run,aS]<;>rfl
def N8 (K:aC):V->Option Int->Option Int->Hp->VK->Prop:=λx lo hi H Q=>∃a xs,x=.ref a/\SqL K H a xs/\∀p,H p=none->Q (.ref p) (upd H p (.lst (cr xs lo hi)))
theorem db:SlR X (N8 X.K):=by
 intro f' s σ H x v vl vu lo hi sl Q I rx hs pl pu h;obtain⟨a,xs,rfl,hx,q⟩:=h;cases rx;obtain⟨its,r,ht,hz⟩:=I.list hx;have zJ:=r.length;refine⟨"list",_,slot_list_getitem.lookup,ht.isList.typeIs,?_⟩;refine wpAny_getItem_list_slice ht.isList hs pl pu .none (by simp) ?_ (by rw[aS]<;>lia);rw[B9,<-zJ];refine⟨.ref s.heap.objs.size,_,I.laid (t':=s.toks) (o:=.lst (cr xs lo hi)) (λb ob q=>aJ _ q) (aN _) ?_,rfl,q _ (I.hok.fresh (aN _))⟩;exact⟨bQ (vy xs lo hi) hz,_,0,(r.drop (HT.sIx xs.length 0 lo)).take (HT.sIx xs.length xs.length hi - HT.sIx xs.length 0 lo),bV _ rfl⟩
def jt:V->Bool
 | .non=>true
 | .bl _=>true
 | .int _=>true
 | .str _=>true
 |_=>false
def eqV:V->V->Bool
 | .non,.non=>true
 | .bl a,.bl b=>a == b
 | .bl a,.int b=>(if a then 1 else 0) == b
 | .int a,.bl b=>a == (if b then 1 else 0)
 | .int a,.int b=>a == b
 | .str a,.str b=>a == b
 |_,_=>false
theorem K4 {A:cQ}{s:aG}{y x:V}{u v:aB}(ry:RelV y u)(rx:RelV x v)(fy:jt y=true)(fx:jt x=true):yR A s u v (eqV y x):=by
 cases y with
 |non=>
  cases ry;cases x with
  |non=>cases rx;exact SeqAt.EqAt.same _
  |bl b=>cases rx;exact SeqAt.EqAt.none_bool b
  |int b=>obtain⟨t,rfl⟩:=rx;exact SeqAt.EqAt.none_int b t
  |str b=>obtain⟨t,rfl⟩:=rx;exact SeqAt.EqAt.none_str b t
  |_=>exact absurd (show false=true from fx) bZ
 |bl a=>
  cases ry;cases x with
  |non=>cases rx;exact SeqAt.EqAt.bool_none a
  |bl b=>cases rx;exact SeqAt.EqAt.bool_bool a b
  |int b=>obtain⟨t,rfl⟩:=rx;exact SeqAt.EqAt.bool_int a b t
  |str b=>obtain⟨t,rfl⟩:=rx;exact SeqAt.EqAt.bool_str a b t
  |_=>exact absurd (show false=true from fx) bZ
 |int a=>
  obtain⟨t',rfl⟩:=ry;cases x with
  |non=>cases rx;exact SeqAt.EqAt.int_none a t'
  |bl b=>cases rx;exact SeqAt.EqAt.int_bool a t' b
  |int b=>obtain⟨t,rfl⟩:=rx;exact SeqAt.EqAt.int_int a t' b t
  |str b=>obtain⟨t,rfl⟩:=rx;exact SeqAt.EqAt.int_str a t' b t
  |_=>exact absurd (show false=true from fx) bZ
 |str a=>
  obtain⟨t',rfl⟩:=ry;cases x with
  |non=>cases rx;exact SeqAt.EqAt.str_none a t'
  |bl b=>cases rx;exact SeqAt.EqAt.str_bool a t' b
  |int b=>obtain⟨t,rfl⟩:=rx;exact SeqAt.EqAt.str_int a t' b t
  |str b=>obtain⟨t,rfl⟩:=rx;exact SeqAt.EqAt.str_str a t' b t
  |_=>exact absurd (show false=true from fx) bZ
 |_=>exact absurd (show false=true from fy) bZ
def eqU (x:V)(u:aB):Bool:=match u with
 | .none=>eqV .non x
 | .bool b=>eqV (.bl b) x
 | .int i _=>eqV (.int i) x
 | .str z _=>eqV (.str z) x
 |_=>false
theorem Cz {x y:V}{u:aB}(r:RelV y u)(f:jt y=true):eqU x u=eqV y x:=by
 cases y with
 |non=>cases r;rfl
 |bl b=>cases r;rfl
 |int i=>obtain⟨t,rfl⟩:=r;rfl
 |str z=>obtain⟨t,rfl⟩:=r;rfl
 |_=>exact absurd (show false=true from f) bZ
theorem Ao {x:V}:∀{xs:List V}{us:List aB},Vals xs us->xs.all jt=true->us.any (eqU x)=xs.any λy=>eqV y x
 |_,_,.nil,_=>rfl
 |y::xs,u::us,.cons r t,f=>by
  rw[xD,hZ]at f;rw[qD,qD,Cz r f.1,Ao t f.2]
theorem qi {A:cQ}{s:aG}{x:V}{v:aB}(rx:RelV x v)(fx:jt x=true):∀{xs:List V}{us:List aB},Vals xs us->xs.all jt=true->∀u∈us,yR A s u v (eqU x u)
 |_,_,.nil,_=>λu hu=>by cases hu
 |y::xs,u::us,.cons r t,f=>λu' hu=>by
  rw[xD,hZ]at f;rcases aU.mp hu with rfl | hu
  ·rw[Cz r f.1];exact K4 r rx f.1 fx
  ·exact qi rx fx t f.2 u' hu
def inV (x:V)(xs:List V):Bool:=xs.any λy=>eqV y x
def rIn (K:aC)(ON:Bool):R2:=λx y H Q=>∃p xs,y=.ref p/\(SqL K H p xs\/SqT K H p xs)/\jt x=true/\xs.all jt=true/\Q (.bl (if ON then !inV x xs else inV x xs)) H
theorem tz:OpR X (lZ .In) (rIn X.K false):=by
 intro f' s σ H x y v u Q I rx ry h;obtain⟨p,xs,rfl,hq,fx,fs,q⟩:=h;cases ry;rcases hq with hq | hq
 ·obtain⟨its,r,pl,hz⟩:=I.list hq;refine SeqAt.in_listAt (eqU x) pl.isList (λw hw=>qi rx fx r fs w (by simpa using hw)) ⟨.bl _,H,I,rfl,?_⟩;rw[show its.toArray.any (eqU x)=its.any (eqU x)by simp,Ao r fs];exact q
 ·obtain⟨its,r,pl,hz⟩:=I.tuple hq;refine SeqAt.in_tupleAt (eqU x) pl (λw hw=>qi rx fx r fs w (by simpa using hw)) ⟨.bl _,H,I,rfl,?_⟩;rw[show its.toArray.any (eqU x)=its.any (eqU x)by simp,Ao r fs];exact q
theorem bj:jr X (.builtin "len") (λxs H Q=>∃p ys,xs=[.ref p]/\(SqL X.K H p ys\/SqT X.K H p ys)/\Q (.int ys.length) H):=by
 intro f' s σ H xs us Q I r h;obtain⟨p,ys,rfl,hq,q⟩:=h;obtain⟨u,rfl,rx⟩:=jf r;cases rx;have hn:=lg;rcases hq with hq | hq
 ·obtain⟨its,r',pl,hz⟩:=I.list hq;have zJ:=r'.length;exact Calls.call_len_list pl.isList (by simp only[aS]<;>lia) ⟨.int ys.length,H,I.tok _,⟨s.toks+1,by rw[aS,zJ]⟩,q⟩
 ·obtain⟨its,r',pl,hz⟩:=I.tuple hq;have zJ:=r'.length;exact len_tuple pl (by simp only[aS]<;>lia) ⟨.int ys.length,H,I.tok _,⟨s.toks+1,by rw[aS,zJ]⟩,q⟩
theorem Ca:jr X (.type "tuple") (λxs H Q=>∃p ys,xs=[.ref p]/\((SqL X.K H p ys/\∀l,H l=none->Q (.ref l) (upd H l (.tup ys)))\/(SqT X.K H p ys/\Q (.ref p) H))):=by
 intro f' s σ H xs us Q I r h;obtain⟨p,ys,rfl,h⟩:=h;obtain⟨u,rfl,rx⟩:=jf r;cases rx;rcases h with⟨hq,q⟩ | ⟨hq,q⟩
 ·obtain⟨its,r',pl,hz⟩:=I.list hq;have zJ:=r'.length;refine call_tuple_list pl.isList (λh' kp=>?_) (by simp only[aS]<;>lia);have I1:Inv X f' σ H { s with heap:=h' }:=I.kept (t':=s.toks) kp;have I2:Inv X f' σ (upd H h'.objs.size (.tup ys)) { s with heap:=h'.push { cls:=.type "tuple",data:=.seq its.toArray } }:=
   I1.laid (t':=s.toks) (λb o e=>aJ _ e) (aN _) (show ObjOk X.prog X.w _ _ _ (.tup ys)from⟨hz,its,r',xQ _ _⟩)
  exact⟨.ref h'.objs.size,_,I2,rfl,q _ (I1.hok.fresh (aN _))⟩
 ·obtain⟨its,r',pl,hz⟩:=I.tuple hq;exact call_tuple_same pl ⟨.ref p,H,I,rfl,q⟩
def tyV (K:aC)(T:String)(x:V)(H:Hp):Prop:=match x with
 | .str _=>T="str"
 | .int _=>T="int"
 | .ref p=>(T="list"/\∃xs,SqL K H p xs)\/(T="tuple"/\∃o,K.lookup p=some o/\o.cls=.type "tuple"/\o.dict=none)\/
   (T="dict"/\((∃kvs,H p=some (.dK kvs))\/∃kvs,H p=some (.dT kvs)))\/(T="set"/\∃S n,H p=some (.set S n))
 |_=>False
theorem K5 {f':List (Addr×Obj)}{σ:St}{H:Hp}{s:aG}{T:String}{x:V}{v:aB}(I:Inv X f' σ H s)(r:RelV x v)(ty:tyV X.K T x H) :
  s.TypeIs v T/\∀a,v=.ref a->∃ob,s.heap.get? a=some ob/\ob.dict=none:=by
 cases x with
 |str z=>
  obtain⟨t,rfl⟩:=r;cases(show T="str" from ty);exact⟨yQ s z t,λ_ e=>nomatch e⟩
 |int i=>
  obtain⟨t,rfl⟩:=r;cases(show T="int" from ty);exact⟨vI s i t,λ_ e=>nomatch e⟩
 |ref p=>
  cases r;rcases ty with⟨rfl,xs,hq⟩ | ⟨rfl,o,hk,hc,hd⟩ | ⟨rfl,hk⟩ | ⟨rfl,S,n,hk⟩
  ·obtain⟨its,_,pl,_⟩:=I.list hq;refine⟨pl.isList.typeIs,λa e=>?_⟩;cases e;obtain⟨o,n,e,c,hd,_⟩:=pl;exact⟨o,e,hd⟩
  ·refine⟨⟨o,I.kIn p o hk,hc⟩,λa e=>?_⟩;cases e;exact⟨o,I.kIn _ o hk,hd⟩
  ·have z:∃o,s.heap.get? p=some o/\o.ExactDict:=by
    rcases hk with⟨kvs,hk⟩ | ⟨kvs,hk⟩
    ·obtain⟨_,_,_,_,o,_,_,e,ex,_⟩:=I.hok p _ hk;exact⟨o,e,ex⟩
    ·obtain⟨_,_,_,_,o,_,_,e,ex,_⟩:=I.hok p _ hk;exact⟨o,e,ex⟩
   obtain⟨o,e,ex⟩:=z;refine⟨⟨o,e,ex.1⟩,λa e2=>?_⟩;cases e2;exact⟨o,e,ex.2.1⟩
  ·obtain⟨o,_,_,_,e,ex,_⟩:=I.hok p _ hk;refine⟨⟨o,e,ex.1⟩,λa e2=>?_⟩;cases e2;exact⟨o,e,ex.2.1⟩
 |_=>exact iO ty
def Ut (K:aC)(T:String)(r:V->List V->Hp->VK->Prop)(to:TE):TE:=λσ H Q=>to σ H λx H1=>tyV K T x H1/\r x [] H1 Q
def tBM (K:aC)(T:String)(r:V->List V->Hp->VK->Prop)(to:TE)(t:TA):TE:=λσ H Q=>to σ H λx H1=>tyV K T x H1/\t σ H1 λxs H2=>r x xs H2 Q
variable {o e:Expr}{es:List Expr}{to:TE}{t:TA}{name:Str}{AA zS:Pos}{T id:String}{r:V->List V->Hp->VK->Prop}
theorem yp (pa:wY T)(slot:Slot T name id)(IF:typeOf (.builtin id)=pure (.type "method_descriptor"))(hm:MtR X id r)(ho:PE X o to)
  (A':oR o name X.env (eval o X.env)=eval o X.env:=by rfl) (BA:(AA.endLine == zS.line)=true:=by rfl):PE X (.Call (.Attribute o name AA) [] [] zS) (Ut X.K T r to):=by
 intro f' s σ H Q I h;refine wpAny_Call_method0_late A' BA (thn (ho f' s σ H _ I h) λv s1 zF=>?_);obtain⟨x,H1,I1,r1,ty,q1⟩:=zF;obtain⟨h1,h2⟩:=K5 I1 r1 ty;exact⟨T,id,pa,slot,IF,h1,h2,Calls.callWith_builtin rfl (PySem.evalArgs_none (hm f' s1 σ H1 x [] v [] Q I1 r1 .nil q1))⟩
theorem mw (pa:wY T)(slot:Slot T name id)(IF:typeOf (.builtin id)=pure (.type "method_descriptor"))(hm:MtR X id r)(ho:PE X o to)(ha:PA X (e::es) t)
  (A':oR o name X.env (eval o X.env)=eval o X.env:=by rfl)
  (IG:((jJ zS (cW (e::es) X.env)).all (λx=>!x.1) && (vR zS (rY [] X.env)).all (λx=>x.1.isSome) && decide ((e::es).length+([]:List vL).length+(if ([]:List vL).isEmpty then 0 else 1) < 30))=true:=by rfl)
  (BA:(AA.endLine == zS.line)=true:=by rfl) (hs:cW (e::es) X.env=(false,eval e X.env)::cW es X.env:=by rfl) (CK:(jJ zS (cW es X.env)).any (·.1)=false:=by rfl) :
  PE X (.Call (.Attribute o name AA) (e::es) [] zS) (tBM X.K T r to t):=by
 intro f' s σ H Q I h;refine wpAny_Call_method_late A' IG BA rfl (thn (ho f' s σ H _ I h) λv s1 zF=>?_);obtain⟨x,H1,I1,r1,ty,q1⟩:=zF;obtain⟨h1,h2⟩:=K5 I1 r1 ty;refine⟨T,id,pa,slot,IF,h1,h2,?_⟩;have hA:=ha zS f' s1 σ H1 _ I1 q1;rw[hs]at hA ⊢;refine Calls.callWith_builtin (by show(false || (jJ zS (cW es X.env)).any (·.1))=false;rw[CK]<;>rfl) (Calls.evalArgs_plain ?_);exact thn hA λus s2 zF=>by obtain⟨vs,H2,I2,r2,q2⟩:=zF;exact hm f' s2 σ H2 x vs v us Q I2 r1 r2 q2
end
def MtM (X:Cx)(id:String)(r:V->List V->Hp->VK->Prop):Prop:=
 ∀(f':List (Addr×Obj))(s:aG) (σ:St) (H:Hp) (x:V) (xs:List V) (v:aB) (us:List aB) (Q:VK),Inv X f' σ H s->RelV x v->Vals xs us->r x xs H Q->
  aM (aX X.prog X.w) X.A (call (.builtin id) (v::us)) (EP X f' σ Q) X.xe s
theorem Vals.one:∀{x:V}{us:List aB},Vals [x] us->∃u,us=[u]/\RelV x u
 |_,_,.cons r .nil=>⟨_,rfl,r⟩
theorem Vals.zero:∀{us:List aB},Vals [] us->us=[]
 |_,.nil=>rfl
theorem Vals.dropLast {xs:List V}{us:List aB}(h:Vals xs us):Vals xs.dropLast us.dropLast:=by
 induction h with
 |nil=>exact .nil
 |cons r t ih=>
  cases t with
  |nil=>exact .nil
  |cons q t'=>exact .cons r ih
theorem Vals.reverse {xs:List V}{us:List aB}(h:Vals xs us):Vals xs.reverse us.reverse:=by
 induction h with
 |nil=>exact .nil
 |cons r t ih=>rw[iZ,iZ];exact Vals.append ih (.cons r .nil)
theorem Vals.rep {xs:List V}{us:List aB}(h:Vals xs us):∀k:Nat,Vals (dQ k xs).flatten (dQ k us).flatten
 |0=>.nil
 |k+1=>by
  rw[iX,iX,nZ,nZ];exact Vals.append h (Vals.rep h k)
theorem Ih {α:Type}(l:List α):l.eraseIdx (l.length - 1)=l.dropLast:=by
 induction l with
 |nil=>rfl
 |cons a r ih=>
  cases r with
  |nil=>rfl
  |cons b r=>
   have e:(a::b::r).length - 1=((b::r).length - 1)+1:=by
    have h1:(a::b::r).length=r.length+2:=rfl;have h2:(b::r).length=r.length+1:=rfl;lia
   rw[e,List.eraseIdx_cons_succ,ih]
   all_goals rfl
theorem Bl (its:List aB):∀(k:Nat)(zN:List aB),
  yS (λx1 x2=>x1++x2) zN.toArray (dQ k its.toArray)=(zN++(dQ k its).flatten).toArray
 |0,zN=>by simp
 |k+1,zN=>by
  have e:zN.toArray++its.toArray=(zN++its).toArray:=(by simp);have e2:(zN++its)++(dQ k its).flatten=zN++(dQ (k+1) its).flatten:=by
   rw[iX,nZ,pJ]
  rw[<-e2,<-Bl its k (zN++its),<-e,iX,tL]
section
variable {X:Cx}{f':List (Addr×Obj)}{σ:St}{H:Hp}{s:aG}{l b:Addr}{xs ys zs:List V}
theorem Inv.lset {its its':List aB}{n:Nat}{f:Array aB->Array aB}{t':Nat}(I:Inv X f' σ H s)(hH:H l=some (.lst xs))
  (e:s.heap.get? l=some { cls:=.type "list",data:=.seq its.toArray n }) (hf:f its.toArray=its'.toArray) (hv:Vals ys its') (hz:ys.length<=sizeLine) :
  Inv X f' σ (upd H l (.lst ys)) { s with heap:=s.heap.update l (iR f),toks:=t' }:=by
 have q:=PySem.IsL.update e f;rw[hf]at q;refine I.write (x:=l) (e:=l) (by rw[hH];exact trivial) (.inl rfl) (λb' u hb hu=>(jM s.heap (iR f) (Ne.symm hb)).trans hu) ⟨_,q⟩ ?_;exact⟨hz,its',_,hv,q⟩
theorem Inv.lnew {its:List aB}{t':Nat}(I:Inv X f' σ H s)(hv:Vals ys its)(hz:ys.length<=sizeLine) :
  Inv X f' σ (upd H s.heap.objs.size (.lst ys)) { s with heap:=s.heap.push { cls:=.type "list",data:=.seq its.toArray },toks:=t' }:=
 I.laid (λ_ _ q=>aJ _ q) (aN _) ⟨hz,its,0,hv,bV _ rfl⟩
theorem Inv.fresh (I:Inv X f' σ H s):H s.heap.objs.size=none:=I.hok.fresh (aN _)
theorem Inv.lstM (I:Inv X f' σ H s)(hH:H l=some (.lst xs)):xs.length<=sizeLine/\∃(its:List aB)(n:Nat),Vals xs its/\xs.length=its.length/\s.heap.get? l=some { cls:=.type "list",data:=.seq its.toArray n }:=by
 obtain⟨z,its,n,r,e⟩:=I.hok l _ hH;exact⟨z,its,n,r,r.length,e⟩
theorem xb {n:Nat}(h:n<=sizeLine):jX n=false:=by
 unfold jX;exact decide_eq_false (by lia)
end
section
variable {X:Cx}
def Rx:V->List V->Hp->VK->Prop:=λx vs H Q=>∃l xs y,x=.ref l/\vs=[y]/\H l=some (.lst xs)/\xs.length < sizeLine/\Q .non (upd H l (.lst (xs++[y])))
theorem ir:MtM X "list.append" Rx:=by
 intro f' s σ H x vs v us Q I rx rv h;obtain⟨l,xs,y,rfl,rfl,hH,hz,q⟩:=h;cases rx;obtain⟨u,rfl,ru⟩:=rv.one;obtain⟨z,its,n,r,hl,e⟩:=I.lstM hH;refine pU F.slot_list_append ⟨_,e,rfl⟩ F.entry_list_append (F.args_list_append_2 _ _) (PySem.list_append l its.toArray n u (by rw[aS];lia)) ⟨e,?_⟩;refine⟨.non,_,I.lset (its':=its++[u]) hH e (by simp) (r.append (.cons ru .nil)) ?_,rfl,q⟩;rw[aO,eX];lia
def Ry:V->List V->Hp->VK->Prop:=λx vs H Q=>∃l b xs zs,x=.ref l/\vs=[.ref b]/\H l=some (.lst xs)/\H b=some (.lst zs)/\xs.length+zs.length<=sizeLine/\Q .non (upd H l (.lst (xs++zs)))
theorem K6:MtM X "list.extend" Ry:=by
 intro f' s σ H x vs v us Q I rx rv h;obtain⟨l,b,xs,zs,rfl,rfl,hH,hB,hz,q⟩:=h;cases rx;obtain⟨u,rfl,ru⟩:=rv.one;cases ru;obtain⟨z,its,n,r,hl,e⟩:=I.lstM hH;obtain⟨z2,zM,n2,r2,zW,e2⟩:=I.lstM hB;have hsz:its.toArray.size+zM.toArray.size<=sizeLine:=(by rw[aS,aS];lia);have BW:¬(!its.toArray.isEmpty && jX (its.toArray.size+zM.toArray.size))=true:=by
  rw[xb hsz,rH];exact bZ
 refine pU F.slot_list_extend ⟨_,e,rfl⟩ F.entry_list_extend (F.args_list_extend_2 _ _)
  (AutoSeq1.list_extend_list_list_0 l its.toArray n b zM.toArray n2 BW (by rw[aS];lia) (by lia)) ⟨e,e2,?_⟩
 refine⟨.non,_,I.lset (its':=its++zM) hH e (by simp) (r.append r2) ?_,rfl,q⟩;rw[aO];lia
def rPop:V->List V->Hp->VK->Prop:=λx vs H Q=>∃l xs y,x=.ref l/\vs=[]/\H l=some (.lst xs)/\xs[xs.length - 1]?=some y/\Q y (upd H l (.lst xs.dropLast))
theorem C0:MtM X "list.pop" rPop:=by
 intro f' s σ H x vs v us Q I rx rv h;obtain⟨l,xs,y,rfl,rfl,hH,hy,q⟩:=h;cases rx;have OO:=rv.zero;subst OO;obtain⟨z,its,n,r,hl,e⟩:=I.lstM hH;obtain⟨u,hu,ru⟩:=r.get hy;have IH:its.toArray[its.toArray.size - 1]?=some u:=by
  show its.toArray[its.length - 1]?=some u;rw[<-dZ,<-hl];exact hu
 refine pU F.slot_list_pop ⟨_,e,rfl⟩ F.entry_list_pop (F.args_list_pop_1 _) (MeetsSeq.list_pop_last l its.toArray n u IH (by rw[aS];lia)) ⟨e,?_⟩;refine⟨y,_,I.lset (its':=its.dropLast) hH e ?_ r.dropLast ?_,ru,q⟩
 ·show its.toArray.eraseIdxIfInBounds (its.toArray.size - 1)=its.dropLast.toArray;rw[aS,List.eraseIdxIfInBounds_toArray,Ih]
 ·rw[List.length_dropLast];lia
def rCat:R2:=λx y H Q=>∃l b xs zs,x=.ref l/\y=.ref b/\H l=some (.lst xs)/\H b=some (.lst zs)/\xs.length+zs.length<=sizeLine/\∀p,H p=none->Q (.ref p) (upd H p (.lst (xs++zs)))
theorem dw:OpR X (kZ .Add) rCat:=by
 intro f' s σ H x y v u Q I rx ry h;obtain⟨l,b,xs,zs,rfl,rfl,hH,hB,hz,q⟩:=h;cases rx;cases ry;obtain⟨z,its,n,r,hl,e⟩:=I.lstM hH;obtain⟨z2,zM,n2,r2,zW,e2⟩:=I.lstM hB;refine PySem.P.add_list e e2 ?_ (by rw[aS,aS];lia);have ea:its.toArray++zM.toArray=(its++zM).toArray:=(by simp);rw[ea];exact⟨.ref _,_,I.lnew (t':=s.toks) (r.append r2) (by rw[aO];lia),rfl,q _ I.fresh⟩
def rRep:R2:=λx y H Q=>∃l k xs,x=.ref l/\y=.int k/\H l=some (.lst xs)/\-(2 ^ 63)<=k/\k < 2 ^ 63/\xs.length * k.toNat<=sizeLine/\
 ∀p,H p=none->Q (.ref p) (upd H p (.lst (dQ k.toNat xs).flatten))
theorem Rz {α:Type}(xs:List α)(k:Nat):(dQ k xs).flatten.length=k * xs.length:=by
 induction k with
 |zero=>simp
 |succ k ih=>rw[iX,nZ,aO,ih,Nat.succ_mul,jB]
theorem C1:OpR X (kZ .Mult) rRep:=by
 intro f' s σ H x y v u Q I rx ry h;obtain⟨l,k,xs,rfl,rfl,hH,h1,h2,hz,q⟩:=h;cases rx;obtain⟨t,rfl⟩:=ry;obtain⟨z,its,n,r,hl,e⟩:=I.lstM hH;have zJ:its.toArray.size * k.toNat<=sizeLine:=(by rw[aS,<-hl];exact hz);have hcap:¬its.toArray.size * k.toNat > (2 ^ 63 - 1) / 8:=by
  have:(sizeLine:Nat)<=(2 ^ 63 - 1) / 8:=(by decide);lia
 have AK:¬(!Builtin.List.listFitsIndex k)=true:=by
  rw[fitsIndex_both h1 h2];exact bZ
 have BW:¬jX (its.toArray.size * k.toNat)=true:=by
  rw[xb zJ];exact bZ
 have hnew:yS (λx1 x2=>x1++x2) #[] (dQ (if its.toArray.isEmpty=true then 0 else k.toNat) its.toArray)=(dQ k.toNat its).flatten.toArray:=by
  have f0:∀m:Nat,yS (λx1 x2=>x1++x2) #[] (dQ m its.toArray)=(dQ m its).flatten.toArray:=λm=>by
   have:=Bl its m [];rw[List.nil_append]at this;exact this
  rw[f0];cases its with
  |nil=>simp
  |cons a r'=>rw[if_neg (by simp)]
 refine wpAny_binaryOp_repeat_ref (T:="list") (U:="int") (by decide) ⟨_,e,rfl⟩ (λs'=>vI s' k t) noFill_list_mul F.fills_int_mul F.slot_int_rmul repeat_list F.slot_int_index.lookup
  (pU F.slot_int_rmul (vI s k t) F.entry_int_rmul (F.args_int_rmul_2 _ _) (int___rmul___int_list k t l its.toArray n) ⟨e,rfl,⟨_,e,rfl⟩,pU F.slot_list_mul ⟨_,e,rfl⟩ F.entry_list_mul (F.args_list_mul_2 _ _) (AutoListH.list___mul___list_int_3 l its.toArray n k t AK hcap BW) ⟨e,?_⟩⟩)
 rw[hnew];exact⟨.ref _,_,I.lnew (t':=s.toks) (r.rep k.toNat) (by rw[Rz,qU];exact hz),rfl,q _ I.fresh⟩
end
section
variable {prog:aP}{w:aW}{A:cQ}{E:aB->aG->Prop}{s:aG}
set_option maxRecDepth 100000 in
end
section
variable {X:Cx}
end
end L2
namespace Att
open PySem PySem.W PySem.Calls PyProof.Rows
theorem yq {P:Params}{h:Heap}:∀(ns:List Int)(vs:List aB),WellAll P h vs (ns.map WData.int)->yD vs ns:=by
 intro ns
 induction ns with
 |nil=>
  intro vs w;rw[vV]at w;cases w;exact .nil
 |cons n ns ih=>
  intro vs w;rw[eO]at w;cases w with
  |cons a b=>
   cases a;exact .cons _ _ (ih _ b)
theorem K7 {l:sF}{n:Nat}(hn:l.most=some n){P:Params}{h:Heap}{args:List WData}{DX:List aB}
  (FB:l.row.toRowW.claim.pre args=true) (NA:WellAll P h DX args) :
  ∃a vs ns,DX=[cE a]/\args=[WData.list (ns.map WData.int)]/\h.get? a=some { cls:=.type "list",data:=.seq vs.toArray }/\yD vs ns/\ns.length<=n:=by
 have hsh:WShape.hasAll [] args [.list .int]=true:=(pre_splitW FB).1;have hc:l.pre.holds [] { args:=args }=true:=(pre_splitW FB).2;obtain⟨d,r,rfl,h1,h2⟩:=hasAllW_cons hsh;obtain rfl:=hasAllW_nil h2;obtain⟨xs,rfl,h3⟩:=hasW_list h1;obtain⟨ns,rfl⟩:=items_int h3;have zJ:ns.length<=n:=by
  unfold OpenLaw.pre at hc;have h4:(WTm.not (.lt (.lit (.int (n:Int))) (.len (.arg 0)))).holds [] { args:=[.list (ns.map .int)] }=true:=by
   have h4:=(holds_andW hc).1;rw[hn]at h4;exact h4
  have h5:=condW_of h4 (w_not (w_lt w_lit (w_len_list (w_arg rfl))));rw[aI]at h5;refine sL λq=>?_;have q':(n:Int) < ((ns.length:Nat):Int):=by lia
  first
   | (rw[decide_eq_true q']at h5;exact absurd h5 (by decide))
   | (simp at h5;lia)
 cases NA with
 |cons w1 w2=>
  cases w2;cases w1 with
  |list ho AS=>exact⟨_,_,ns,rfl,rfl,ho,yq ns _ AS,zJ⟩
theorem K8 (l:sF)(args:List WData):l.row.toRowW.claim.post args (.bool true) args=true:=
 postW_of (r:=l.row.toRowW) (X:=(true == true))
  (show WShape.has [] (.bool true) .bool=true by first | rfl | decide | simp[WShape.has,WShape.arms,WShape.armsAll])
  (show(WTm.eq .res (.lit (.bool true))).value [] { args:=args,res:=some (.bool true),after:=args }=some (.bool (true == true))from w_eq_bool (w_res rfl) w_lit) rfl
theorem attach_call {l:sF}{n:Nat}{q:aP}{BJ:List Str}{XP:(Str->Option aB)->Heap->Prop}{YP:aW->Heap->Prop}{d:DefRec}
  (hn:l.most=some n) (KU:d.params.defaults=[])
  (call:∀(w:aW)(s₀ s₁:aG) (mg mb:Str->Option aB) (fa:Addr) (o:Obj) (pm cd AR:aB) (a:Addr) (vs:List aB) (ns:List Int),Ground q BJ [] XP w s₀ mg mb s₁.heap->YP w s₁.heap->s₁.heap.get? fa=some o->o.data=.func (docDef d.name d.params d.body d.scope pm cd AR)->s₁.heap.CodeRec cd d.name->mg d.name=some (.ref fa)->s₁.heap.get? a=some { cls:=.type "list",data:=.seq vs.toArray }->yD vs ns->ns.length<=n->s₁.gens=#[]->oQ (aX l.prog w) vM (.call (.ref fa) ⟨[.ref a],[]⟩) (λr s'=>r=.ok (.ret (.bool true))/\OldK s₁.heap s'.heap/\s'.os=s₁.os/\rE s'.gens) s₁) :
  WalkO q BJ XP YP l.row.toRowW d [] (λf vs=>yU f vs):=by
 intro w s₀ s₁ mg mb G Y fa o pm cd AR dV kV ho hd DH hD OP hg args DX as FB hlay hrd NA hlo;obtain rfl:dV=.none:=Dflts.none hD KU;obtain rfl:kV=.none:=Dflts.noKw hD;obtain⟨a,vs,ns,rfl,rfl,II,DY,zJ⟩:=K7 hn FB NA;refine enter_call (nJ (call w s₀ s₁ mg mb fa o pm cd AR a vs ns G Y ho (fd_plain hd) DH OP II DY zJ hg) λr s' hq=>?_);obtain⟨rfl,h2,h3,h4⟩:=hq;exact⟨.inl ⟨.bool true,.bool true,[],rfl,λ_=>rfl,.bool true,K8 l _,λ_=>⟨oA,λ_ hm=>(nomatch hm)⟩⟩,h2,h3,h4⟩
section
variable {prog:aP}{w:aW}{A:cQ}{E:aB->aG->Prop}{s:aG}{K:Frag}
def ledger (h:Heap)(L d:Addr):List (Addr×Obj):=(eE h.objs.size).filterMap λa=>if a=L\/a=d then none else (h.get? a).map λo=>(a,o)
end
end Att
namespace L2
open PySem PySem.Spec PyProof.Rows
theorem Bm:∀{vs:List aB}{ns:List Int},yD vs ns->Vals (ns.map V.int) vs
 |_,_,.nil=>.nil
 |_,_,.cons n t h=>.cons ⟨t,rfl⟩ (Bm h)
def N9 (H:Hp):Prop:=∀b,H b=none\/∃o xs,H b=some (.frz o (.lst xs))
theorem Oa {P:aP}{w:aW}{K:aC}{mg mb:Str->Option aB}{CX:CXT}{k:Nat}{fa a:Addr}{fd:bX}{x:Str}{sp:Sp}{s₁:aG}{vs:List aB}{ns:List Int}
  (KX:K.In s₁.heap) (NB:s₁.heap.Ns aQ mg) (hb:s₁.heap.Ns yM mb) (hbb:∀x:Str,x≠"__name__"->mb x=jI x) (hlim:s₁.heap.NoLimit) (hg:s₁.gens=#[])
  (ha:s₁.heap.get? a=some { cls:=.type "list",data:=.seq vs.toArray }) (hi:yD vs ns) (hl:ns.length<=sizeLine) (hr:Room k vM)
  (F:∀base:Heap,K.In base->base.Ns aQ mg->FnOk P w K mg base CX k fa fd [x] sp) (hbind:∀(s:aG)(u:aB),wR s fd ⟨[u],[]⟩ [(x,u)])
  (zU:∀H:Hp,N9 H->SqL K H a (ns.map V.int)->sp [.ref a] H (λv _=>v=.bl true) λ_ _ _=>False)
  (OQ:∀H e s',CX [] H s₁ (λ_ _ _=>False) e s'->False) :
  oQ (aX P w) vM (.call (.ref fa) ⟨[.ref a],[]⟩) (λr s'=>r=.ok (.ret (.bool true))/\OldK s₁.heap s'.heap/\s'.os=s₁.os/\rE s'.gens) s₁:=by
 have rv:=Bm hi;have lenV:=hi.length;have KW:∀H:Hp,N9 H->SqL K H a (ns.map V.int)->HOk P w H s₁.heap->(∀b,H b≠none->b=a)->(H a≠none->K.lookup a=none)->
   oQ (aX P w) vM (.call (.ref fa) ⟨[.ref a],[]⟩) (λr s'=>r=.ok (.ret (.bool true))/\OldK s₁.heap s'.heap/\s'.os=s₁.os/\rE s'.gens) s₁:=by
  intro H hO hS hok hA hK;have DC:∀{b:Addr}{o:Obj},s₁.heap.get? b=some o->H b=none->(jb s₁.heap H).get? b=some o:=λe n=>wv e n;have KR:∀{b:Addr}{o:Obj}{es:Array DictEntry}{ep:Nat},s₁.heap.get? b=some o->o.data=.dict es ep->H b=none:=λ{b o es ep} e d=>by
   cases q:H b with
   |none=>rfl
   |some u=>
    have e':b=a:=hA b (by rw[q];simp);subst e';rw[ha]at e;cases e;have d':zP vs.toArray _=Data.dict es ep:=d;cases d'
  have NC:∀{b:Addr}{m:Str->Option aB},s₁.heap.Ns b m->(jb s₁.heap H).Ns b m:=λ{b m} zF=>(by obtain⟨o,es,ep,e,d,r⟩:=zF;exact⟨o,es,ep,DC e (KR e d),d,r⟩);have TM:K.In (jb s₁.heap H):=λb o e=>DC (KX b o e) (by
    cases q:H b with
    |none=>rfl
    |some u=>
      have e':b=a:=hA b (by rw[q];simp);subst e';rw[hK (by rw[q];simp)]at e;cases e)
  have hM:Mod K mg (jb s₁.heap H):=⟨TM,NC NB,⟨mb,NC hb,hbb⟩,let ⟨mc,h1,h2⟩:=hlim;⟨mc,NC h1,h2⟩⟩;have e0:Env0 P w K mg (jb s₁.heap H) vM [] s₁ H:=⟨rfl,hM,λb o e=>Ah e,Nat.le_of_eq (Kr _ _),trivial,λb hb=>absurd (show b∈([]:List Addr)from hb) (by simp),hok,.of_eq hg⟩;refine nJ ((F _ TM (NC NB)).run vM [] s₁ H ⟨[.ref a],[]⟩ [.ref a] [.ref a] _ _ hr e0 (hbind s₁ (.ref a)) (.cons rfl .nil) (zU H hO hS)) λr s' h=>?_;cases r with
  |error e=>exact(OQ H e s' h).elim
  |ok fl=>
   cases fl with
   |next=>exact iO h
   |brk=>exact iO h
   |cont=>exact iO h
   |ret u=>
    obtain⟨v,H',os,bare,un,hok',r',q⟩:=h;have q':v=.bl true:=q;subst q';obtain rfl:u=vH true:=r';refine⟨rfl,OldK.of_keep λb o e=>?_,os,bare⟩;cases q:H b with
    |none=>exact un.keep b o e q (by intro z;exact absurd (show b∈([]:List Addr)from z) (by simp)) (by simp)
    |some u=>
     rcases hO b with z | ⟨ob,xs,z⟩
     ·rw[q]at z;cases z
     ·have z2:=un.frzs b ob _ z;obtain⟨e1,_⟩:=hok b _ z;obtain⟨e2,_⟩:=hok' b _ z2;rw[e]at e1;cases e1;exact e2
 cases hk:K.lookup a with
 |some o=>
  have e:=KX a o hk;rw[ha]at e;cases e;refine KW (λ_=>none) (λ_=>.inl rfl) (.inr ⟨_,vs.toArray,_,hk,rfl,rfl,rfl,by rw[aS,lenV];exact hl,by simpa using rv⟩) (λb u z=>by have z':(none:Option HO)=some u:=z;cases z') (λb z=>absurd rfl z) λz=>absurd rfl z
 |none=>
  refine KW (λb=>if b=a then some (.frz { cls:=.type "list",data:=.seq vs.toArray } (.lst (ns.map V.int)))else none) (λb=>?_) (.inl (.inr ⟨{ cls:=.type "list",data:=.seq vs.toArray },if_pos rfl⟩)) (λb u z=>?_) (λb z=>?_) λ_=>hk
  ·by_cases hb:b=a
   ·exact .inr ⟨_,_,if_pos hb⟩
   ·exact .inl (if_neg hb)
  ·by_cases hb:b=a
   ·have z':=(if_pos hb).symm.trans z;cases z';subst hb;exact⟨ha,by rw[aI];exact hl,vs,_,rv,ha⟩
   ·have z':=(if_neg hb).symm.trans z;cases z'
  ·by_cases hb:b=a
   ·exact hb
   ·exact absurd (if_neg hb) z
abbrev KOf {K:aC}{h:Heap}(_:K.In h):aC:=K
theorem walk_of {l:sF}{n k:Nat}{q:aP}{BJ:List Str}{XP:(Str->Option aB)->Heap->Prop}{YP:aW->Heap->Prop}{d:DefRec}{K:Params->aC}{CX:aW->CXT}{sp:aW->Sp}{x:Str}
  (hn:l.most=some n) (DU:n<=sizeLine) (KU:d.params.defaults=[]) (hr:Room k vM)
  (hY:∀(w:aW)(h:Heap),YP w h->(K w.params).In h)
  (F:∀(w:aW)(mg:Str->Option aB) (fa:Addr) (h:Heap),(K w.params).In h->h.Ns aQ mg->mg d.name=some (.ref fa)->∃fd:bX,(∀(s:aG)(u:aB),wR s fd ⟨[u],[]⟩ [(x,u)])/\∀base:Heap,(K w.params).In base->base.Ns aQ mg->FnOk l.prog w (K w.params) mg base (CX w) k fa fd [x] (sp w))
  (zU:∀(w:aW)(H:Hp) (a:Addr) (ns:List Int),ns.length<=n->N9 H->SqL (K w.params) H a (ns.map V.int)->sp w [.ref a] H (λv _=>v=.bl true) λ_ _ _=>False)
  (OQ:∀(w:aW)(H:Hp) (s:aG) (e:aB) (s':aG),CX w [] H s (λ_ _ _=>False) e s'->False) :
  PySem.W.WalkO q BJ XP YP l.row.toRowW d [] (λf vs=>yU f vs):=by
 refine Att.attach_call hn KU λw s₀ s₁ mg mb fa o pm cd AR a vs ns G Y ho hd DH OP II DY zJ hg=>?_;have KX:=hY w _ Y;obtain⟨fd,hb,hF⟩:=F w mg fa _ KX G.T.g OP;exact Oa KX G.T.g G.T.b G.T.builtins G.T.nolimit hg II DY (bQ zJ DU) hr hF hb (λH hO hS=>zU w H a ns zJ hO hS) λH e s'=>OQ w H s₁ e s'
end L2
namespace L2
open PySem PySem.Spec PyProof.Rows
def i7 (s:Stmt)(j:Nat):Stmt:=match s with
 | .ClassDef _ _ _ body _ _ _ _ _ _ _=>body.getD j (.Pass ⟨0,0,0,0⟩)
 |_=>.Pass ⟨0,0,0,0⟩
def d4 (s:Stmt):Arguments:=match s with
 | .FunctionDef _ a _ _ _ _ _ _ _ _=>a
 |_=>{ posonlyargs:=[],args:=[],vararg:=none,kwonlyargs:=[],kw_defaults:=[],kwarg:=none,defaults:=[] }
def dl (s:Stmt):List Stmt:=match s with
 | .FunctionDef _ _ b _ _ _ _ _ _ _=>b
 |_=>[]
def aj (s:Stmt):gM:=match s with
 | .FunctionDef _ _ _ _ _ _ sc _ _ _=>sc
 |_=>{ kind:=.function,names:=[],isGenerator:=false,isCoroutine:=false }
abbrev CX0:CXT:=λ_ _ _ _ _ _=>False
abbrev E0:XK:=λ_ _ _=>False
theorem aw {X:Cx}:lh CX0 X E0:=λ_ _ _ _ _ _ _ h=>h.elim
structure Fun (K:aC)(x zK:Str)(st:Stmt)(f:Addr)(fd:bX):Prop where
 ex:∃(oc:aB)(od:Option Addr) (kV AR pm:aB) (an:Option Addr) (zH ct:aB) (EL:Array (Option aB)),
  fd=gT x zK (d4 st) (dl st) (aj st) .none kV AR pm an zH ct/\K.lookup f=some ⟨oc,od,.func fd,EL⟩/\kX K zH zK=true
 kp:aV K (.ref f)=true
section
variable {P:aP}{w:aW}{K:aC}{mg:Str->Option aB}{base:Heap}
theorem Fun.ok {x zK:Str}{st:Stmt}{f:Addr}{fd:bX}{N ps:List Str}{k:Nat}{sp:Sp}(F:Fun K x zK st f fd)(S:au N ps (aj st))(len:∀vs H Q E,sp vs H Q E->vs.length=ps.length)
  (BV:∀(zH:aB)(A:cQ) (outer:List Env) (s:aG) (H:Hp) (vs:List V) (Q:VK) (E:XK),Room k (A.deeper (rZ zK (aj st) s.heap.objs.size f zH))->sp vs H Q E->∃t,PSs (bb CX0 P w K mg base N zK (aj st) f zH A outer s H E).nox (dl st) t/\t { nx:=λ_ H'=>Q .non H',rt:=Q } (start N vs) H):FnOk P w K mg base CX0 (k+1) f fd ps sp:=by
 obtain⟨oc,od,kV,AR,pm,an,zH,ct,EL,rfl,lk,DH⟩:=F.ex;refine Qp lk DH S len λA outer s H vs Q E hr zU=>?_;obtain⟨t,h,q⟩:=BV zH A outer s H vs Q E hr zU;exact⟨t,h.nox,q⟩
theorem Fun.binds {x zK:Str}{st:Stmt}{f:Addr}{fd:bX}{ps:List Str}(F:Fun K x zK st f fd)
  (h:∀(kV AR pm:aB)(an:Option Addr) (zH ct:aB) (us:List aB),us.length=ps.length->vQ (gT x zK (d4 st) (dl st) (aj st) .none kV AR pm an zH ct) ⟨us,[]⟩=pure (ps.zip us)):Binds K fd ps []:=by
 obtain⟨oc,od,kV,AR,pm,an,zH,ct,EL,rfl,lk,DH⟩:=F.ex;exact .all (h kV AR pm an zH ct)
theorem pq {x zK:Str}{st:Stmt}{f:Addr}{oc:aB}{od an:Option Addr}{EL:Array (Option aB)}{kV AR pm zH ct:aB}(l:K.lookup f=some ⟨oc,od,.func (gT x zK (d4 st) (dl st) (aj st) .none kV AR pm an zH ct),EL⟩)
  (c:kX K zH zK=true) (k:aV K (.ref f)=true):Fun K x zK st f (gT x zK (d4 st) (dl st) (aj st) .none kV AR pm an zH ct):=⟨⟨oc,od,kV,AR,pm,an,zH,ct,EL,rfl,l,c⟩,k⟩
end
theorem Ii {A:cQ}{k:Nat}(hr:Room k A):A.units+1 < iK:=jY (Nat.add_le_add_left (by decide:1<=64) _) hr.units
theorem be {n:Nat}(h:n<=1000):n < sizeLine:=jY h (by decide)
section
variable {X:Cx}
theorem pv (i:Nat){x:Str}{pos:Pos}(hN:X.N[i]?=some x:=by rfl)(hv:Vis X.env.scope x:=by first | exact cD rfl | exact mZ (cD rfl) | exact mZ (mZ rfl))(hd:(x == ("__debug__":Str))=false:=by decide)
  (DH:(x == ("__classdict__":Str))=false:=by decide):PE X (.Name x pos) (ii i):=Ud hN hv hd DH
end
theorem de {A B:Prop}(h:B):if false=true then A else B:=by
 rw[if_neg bZ];exact h
theorem jj {A B:Prop}(h:A):if true=true then A else B:=by
 rw[if_pos rfl];exact h
theorem cz {c A B:Prop}[Decidable c](h1:c->A)(h2:¬c->B):if c then A else B:=by
 by_cases h:c
 ·rw[if_pos h];exact h1 h
 ·rw[if_neg h];exact h2 h
def Same (H H':Hp):Prop:=∀b o,H b=some o->H' b=some o
theorem Same.refl (H:Hp):Same H H:=λ_ _ h=>h
theorem Same.trans {H H1 H2:Hp}(a:Same H H1)(b:Same H1 H2):Same H H2:=λc o h=>b c o (a c o h)
theorem Same.free {H H':Hp}(e:Same H H'){l:Addr}(h:H' l=Option.none):H l=Option.none:=by
 cases q:H l with
 |none=>rfl
 |some o=>
  rw[e l o q]at h;cases h
theorem Same.seq {K:aC}{H H':Hp}{a:Addr}{xs:List V}(e:Same H H')(h:SqL K H a xs):SqL K H' a xs:=by
 rcases h with(h | ⟨o,h⟩) | h
 ·exact .inl (.inl (e _ _ h))
 ·exact .inl (.inr ⟨o,e _ _ h⟩)
 ·exact .inr h
end L2
set_option maxHeartbeats 4000000
namespace L2
open PySem PySem.Spec PyProof.Rows
section
variable {prog:aP}{w:aW}{A:cQ}{R:xL->aG->Prop}{s:aG}
theorem K9 {DK tg iter:Expr}{CL:List Expr}{sc:gM}{pos:Pos}{it zN:aB}{env:Env}(J:Nat->aG->Prop)
  (BL:∀n s,J n s->aM (aX prog w) A (lE it) (λr s1=>match r with
    |none=>R (.ok .next) s1
    |some v=>aM (aX prog w) A (tI tg it v) (λ_ s2=>aM (aX prog w) A (uQ tg env v) (λ_ s3=>
        aM (aX prog w) A (forIn CL true λc r=>if r=true then do let ok <-wQ c env (eval c env);pure (tM ok)else pure (tM r)) (λok s4=>
          if ok=true then aM (aX prog w) A (eval DK env) (λy s5=>aM (aX prog w) A (call (.builtin "list.append") [zN,y]) (λ_ s6=>∃m,m < n/\J m s6) (λ_ _=>False) s5) (λ_ _=>False) s4
          else ∃m,m < n/\J m s4) (λ_ _=>False) s3) (λ_ _=>False) s2) (λ_ _=>False) s1) (λ_ _=>False) s)
  (n:Nat) (h:J n s):oQ (aX prog w) A (.compLoop (.ListComp DK [⟨tg,iter,CL,0⟩] sc pos) 0 it zN env) R s:=by
 refine codeAny_loop rfl J (λn s hJ=>?_) n h;show aM _ A ((compTurn (.ListComp DK [⟨tg,iter,CL,0⟩] sc pos) 0 it zN env).onRaise (λx=>do noteFrame x env;theTreesLotGoes x)) _ _ s
 refine wpAny_noted ?_;rw[compTurn_list];refine aA (nU (aA (iD (BL n s hJ) (λr s1 h1=>?_) λ_ _ f=>f.elim)));cases r with
 |none=>exact wpAny_pure h1
 |some v=>
  refine aA (iD h1 (λ_ s2 h2=>?_) λ_ _ f=>f.elim);refine aA (iD h2 (λ_ s3 h3=>aA (iD h3 (λok s4 h4=>?_) λ_ _ f=>f.elim)) λ_ _ f=>f.elim);cases ok with
  |false=>exact wpAny_pure ⟨rfl,h4⟩
  |true=>
   exact aA (aA (iD h4 (λy s5 h5=>aA (iD h5 (λ_ s6 h6=>wpAny_pure (wpAny_pure ⟨rfl,h6⟩)) λ_ _ f=>f.elim)) λ_ _ f=>f.elim))
end
def cxC (X:Cx)(N:List Str)(sc:gM)(cl:List (Str×Addr))(C:Addr)(s:aG)(H:Hp)(fp:List Addr):Cx where
 prog:=X.prog
 w:=X.w
 K:=X.K
 mg:=X.mg
 base:=X.base
 A:=X.A
 N:=N
 s₀:=s
 H₀:=H
 env:=compEnvC sc cl C X.env
 outer:=X.stack
 stack:=X.stack
 ex:=fp
 fn:=λ_=>false
 calm:=X.calm
 pn:=[]
 xe:=λ_ _=>False
def pick (σ:St)(fr:List Nat):St:=fr.map λi=>(σ[i]?).getD none
structure bv (X:Cx)(ns ys:List Str)(fr:List Nat)(sc:gM)(cl:List (Str×Addr)):Prop where
 clos:yV sc X.env=pure cl
 kind:sc.kind=.function
 nocell:∀y∈sc.names,y.2≠.cell
 locs:∀y∈sc.names,y.2=.local->sc.names.lookup y.1=some .local
 sub:∀p∈cl,X.env.cells.lookup p.1=some p.2
 has:∀y,((pK sc X.env).names.lookup y=some .cell\/(pK sc X.env).names.lookup y=some .free)->∃c,cl.lookup y=some c
 len:fr.length=ys.length
 outs:∀(j:Nat)(y:Str),ys[j]?=some y->∃i:Nat,fr[j]?=some i/\X.N[i]?=some y/\(X.env.kindOf y=some .cell\/X.env.kindOf y=some .free)/\
  ((pK sc X.env).names.lookup y=some .cell\/(pK sc X.env).names.lookup y=some .free)
theorem dt {α:Type}:∀{l:List (Str×α)}{x:Str}{c:α},l.lookup x=some c->(x,c)∈l
 | [],_,_,h=>by cases h
 | (y,d)::r,x,c,h=>by
  rw[List.lookup_cons]at h;cases q:x == y with
  |true=>
   rw[q]at h;have e1:x=y:=eq_of_beq q;have e2:d=c:=eA h;rw[e1,e2];exact cJ
  |false=>
   rw[q]at h;exact cC _ (dt h)
def PTs (X:Cx)(CL:List Expr)(t:TT):Prop:=
 ∀(f':List (Addr×Obj))(s:aG) (σ:St) (H:Hp) (Q:Bool->Hp->Prop),Inv X f' σ H s->t σ H Q->
  aM (aX X.prog X.w) X.A (forIn CL true λc r=>if r=true then do let ok <-wQ c X.env (eval c X.env);pure (tM ok)else pure (tM r)) (TP X f' σ Q) X.xe s
def tYes:TT:=λ_ H Q=>Q true H
theorem cx {X:Cx}:PTs X [] tYes:=λ_ _ _ H _ I h=>wpAny_tests_nil ⟨H,I,h⟩
theorem pw {X:Cx}{c:Expr}{t:TT}(h:PT X c t):PTs X [c] t:=λf' s σ H Q I q=>wpAny_tests_one (h f' s σ H Q I q)
def ve (k:Nat)(fr:List Nat)(g:TG)(tt:TT)(te:TE)(σ:St)(D:Addr)(ys:List V)(N:List V->Hp->Prop)(x:V)(H:Hp):Prop:=
 g x (dQ k none++pick σ fr) H λσ4 H4=>(∃ts,σ4=ts++pick σ fr/\ts.length=k)/\tt σ4 H4 λb H5=>if b=true then te σ4 H5 λy H6=>H6 D=some (.lst ys)/\N (ys++[y]) (upd H6 D (.lst (ys++[y])))else N ys H5
def vf (k:Nat)(fr:List Nat)(g:TG)(tt:TT)(te:TE)(σ:St)(Q:VK)(J:It)(H:Hp)(D:Addr):Prop:=∃W:Nat->Nat->List V->Hp->Prop,(∃m,W 0 m [] (upd H D (.lst [])))/\
 ∀i m ys H2,W i m ys H2->H2 D=some (.lst ys)/\((J.stop i H2/\Q (.ref D) H2)\/(J.go i H2/\ys.length < sizeLine/\∃N:List V->Hp->Prop,(∀FC H',N FC H'->∃m',m' < m/\W (i+1) m' FC H')/\∀x H3,J.yld i H2 x H3->ve k fr g tt te σ D ys N x H3))
def Qq (k:Nat)(fr:List Nat)(wi:TI)(g:TG)(tt:TT)(te:TE):TE:=λσ H Q=>wi σ H λJ H1=>∀D,H1 D=none->vf k fr g tt te σ Q J H1 D
section
variable {X:Cx}{f':List (Addr×Obj)}{σ:St}{H H':Hp}{s s':aG}{ns ys:List Str}{fr:List Nat}{sc:gM}{cl:List (Str×Addr)}{C:Addr}{fp:List Addr}
theorem Uu (I:Inv X f' σ H s)(S:bv X ns ys fr sc cl)(hf:∀b∈fp,ij X f' H b)(hl:∀b∈fp,b < s.heap.objs.size)(hC:s.heap.objs.size<=C):(cxC X (ns++ys) sc cl C s H fp).Ok where
 mod:=I.ok.mod
 kind:=S.kind
 glob:=I.ok.glob
 blt:=I.ok.blt
 above:=hC
 inj:=λx y c e1 e2=>I.ok.inj x y c (S.sub _ (dt e1)) (S.sub _ (dt e2))
 has:=λx h=>S.has x h
 cab:=λx c h=>nomatch h
 hd:=λh=>I.ok.hd h
 frames:=I.ok.frames
 stk:=.inl rfl
 exf:=λb hb=>⟨cK (eG (hl b hb) hC),λx c e=>(hf b hb).2.2.2.2.1 x c (S.sub _ (dt e))⟩
 bs:=I.bs
 bsz:=bQ I.ok.bsz I.sz
 noex:=λb o e hb=>by
  rcases(hf b hb).2.2.2.1 with z | z
  ·exact I.ok.noex b o e z
  ·exact absurd (eG (aZ e) (bQ I.ok.bsz z)) (jH _)
 exfs:=λb hb hs=>by
  rcases aU.mp (I.stkSub b hs)with z | z
  ·exact(hf b hb).2.1 z
  ·exact(hf b hb).2.2.1 z
 funs:=I.stack
 frf:=I.stkFree
theorem Bn {h':Heap}{t':Nat}{n:Nat}{m:Str->Option aB}(I:Inv X f' σ H s)(S:bv X ns ys fr sc cl)(hf:∀b∈fp,ij X f' H b)(hl:∀b∈fp,b < s.heap.objs.size)(hC:s.heap.objs.size < C)
  (k:∀b o,s.heap.get? b=some o->h'.get? b=some o) (hD:h'.get? s.heap.objs.size=some { cls:=.type "list",data:=.seq ([]:List aB).toArray n }) (hn:h'.Ns C m) :
  Inv (cxC X (ns++ys) sc cl C s H fp) [] (dQ ns.length none++pick σ fr) (upd H s.heap.objs.size (.lst [])) { s with heap:=h',toks:=t' }:=by
 have fD:H s.heap.objs.size=none:=I.hok.fresh (aN _);have fC:H C=none:=I.hok.fresh (lD hC);have cLt:∀x c,cl.lookup x=some c->c < s.heap.objs.size:=λx c e=>by
  obtain⟨v,q⟩:=I.cell x c (S.sub _ (dt e));exact q.lt
 refine⟨Uu I S hf hl (lD hC),rfl,I.bare,Un.laid k (aN _) fD,⟨m,hn,λi y v e1 e2 e3=>?_⟩,λx c e=>?_,?_,λx c e=>?_,λp hp=>(nomatch hp),?_,?_⟩
 ·have e1:(ns++ys)[i]?=some y:=e1;by_cases hi:i < ns.length
  ·rw[eB (by simpa using hi),mK,if_pos hi]at e2;cases e2
  ·have DZ:ns.length<=i:=sL hi;rw[fZ DZ]at e1;rw[fZ (by simpa using DZ),gO]at e2;obtain⟨i',f1,f2,f3,f4⟩:=S.outs _ y e1;unfold pick at e2;rw[cY,f1]at e2;have ND:(σ[i']?).getD none=some v:=eA e2;have e4:σ[i']?=some (some v):=by
    cases q:σ[i']? with
    |none=>rw[q]at ND;cases ND
    |some o=>
     rw[q]at ND;have e5:o=some v:=ND;rw[e5]
   obtain⟨m0,hn0,CM⟩:=I.loc;obtain⟨u,r,lk⟩:=CM i' y v f2 e4 (f3.elim (λz=>.inr (.inl z)) λz=>.inr (.inr z));refine⟨u,r,.inr ⟨f4,?_⟩⟩;rcases lk with⟨z,_⟩ | ⟨_,c,ec,hc⟩
   ·rcases f3 with z' | z'<;>(rw[z]at z';cases z')
   ·obtain⟨c',TN⟩:=S.has y f4;have ee:=S.sub _ (dt TN);rw[ec]at ee;have ecc:c=c':=eA ee;subst ecc;exact⟨c,TN,hc.keeps k⟩
 ·obtain⟨v,q⟩:=I.cell x c (S.sub _ (dt e));exact⟨v,q.keeps k⟩
 ·show upd H s.heap.objs.size (.lst []) C=none;rw[ai (gN hC)];exact fC
 ·rw[ai (cK (cLt x c e))];exact I.freeC x c (S.sub _ (dt e))
 ·exact I.hok.laid k (aN _) ⟨eV _,[],n,.nil,hD⟩
 ·show(dQ ns.length none++pick σ fr).length=(ns++ys).length;rw[aO,aO,gO];unfold pick;rw[aI,S.len]
theorem C2 {σ':St}{h':Heap}(I:Inv X f' σ H s)(hf:∀b∈fp,ij X f' H b)(hC:s.heap.objs.size<=C)(I':Inv (cxC X (ns++ys) sc cl C s H fp) [] σ' H' s')(hs:gG C s'.heap h') :
  Inv X f' σ H' { s' with heap:=h' }:=by
 have U:Un (frs X.stack) fp H H' s.heap s'.heap:=I'.base;have ne:∀b o,s.heap.get? b=some o->b≠C:=λb o e=>cK (eG (aZ e) hC);refine I.call' (s':={ s' with heap:=h' }) (ch:=fp) I'.os ⟨λb o e n hb hx=>?_,λb o e n hb hx=>?_,U.free,λb o e hx=>?_,U.tups,U.frzs,U.tbls⟩ (λb u e=>?_) I'.bare λb hb=>?_
 ·exact(hs.2 b (ne b o e)).trans (U.keep b o e n hb hx)
 ·obtain⟨sl,q⟩:=U.slot b o e n hb hx;exact⟨sl,(hs.2 b (ne b o e)).trans q⟩
 ·obtain⟨o',q⟩:=U.there b o e hx;exact⟨o',(hs.2 b (ne b o e)).trans q⟩
 ·have TQ:H' C=none:=I'.free;refine(I'.hok b u e).stay (λc v hc q=>(hs.2 c ?_).trans q) (λ_ q=>q) λ_ _ q=>q;intro z;rcases hc with z' | z'
  ·rw[<-z',z,TQ]at e;cases e
  ·rw[z,TQ]at z';cases z'
 ·obtain⟨f0,f1,f2,f3,f4,f5⟩:=hf b hb;exact⟨f3,f1,f4,f5⟩
end
theorem dy {X:Cx}{DK iter tg:Expr}{CL:List Expr}{sc:gM}{pos:Pos}{ns ys:List Str}{fr:List Nat}{cl:List (Str×Addr)}{wi:TI}{g:TG}{tt:TT}{te:TE}(S:bv X ns ys fr sc cl)(hc:X.calm=true)
  (hi:PI X tg iter wi) (hg:∀C s H fp,PG (cxC X (ns++ys) sc cl C s H fp) tg g) (ht:∀C s H fp,PTs (cxC X (ns++ys) sc cl C s H fp) CL tt) (he:∀C s H fp,PE (cxC X (ns++ys) sc cl C s H fp) DK te)
  (hs:∀x,vA iter X.env x=pure x:=by intro _;rfl):PE X (.ListComp DK [⟨tg,iter,CL,0⟩] sc pos) (Qq ns.length fr wi g tt te):=by
 intro f' s σ H Q I h;rw[eval_ListComp];refine wpAny_comprehension_free (use:=none) rfl hs S.clos S.kind S.locs (thn (hi f' s σ H _ I h) λv s1 h1=>thn h1 λMZ s2 h2=>?_);obtain⟨it,fp,tn,J,H2,e,I2,T,DJ,f2,rest⟩:=h2;subst e;obtain⟨W,⟨m0,w0⟩,BL⟩:=rest s2.heap.objs.size (I2.hok.fresh (aN _));refine gJ (wpAny_newFunctionEnv S.nocell (by intro y hy;simp at hy) (λh3 GX DL=>?_) S.kind);dsimp only at GX DL ⊢;generalize hG:s2.heap.push { cls:=.type "list",dict:=none,data:=.seq ([]:List aB).toArray }=G at GX DL ⊢;have zG:G.objs.size=s2.heap.objs.size+1:=(by rw[<-hG,gK]);have BX:s2.heap.objs.size < G.objs.size:=(by rw[zG];exact oH _);have old:∀b o,s2.heap.get? b=some o->h3.get? b=some o:=λb o e=>
  DL.extBut b o (cK (jK (aZ e) BX)) (aJ _ (hG ▸ aJ _ e))
 have hD:=DL.extBut _ _ (cK BX) (aJ _ (hG ▸ bV _ rfl));have below:∀b∈fp,b < s2.heap.objs.size:=λb hb=>by
  obtain⟨o,eo,_⟩:=T.obj _ _ DJ b hb;exact aZ eo
 have I3:=Bn (ns:=ns) (ys:=ys) (fr:=fr) (t':=s2.toks+([]:List (Str×aB)).length) I2 S f2 below BX old hD GX;have AZ:∀{H':Hp},(∀b∈fp,H' b=none)->∀b∈fp,ij (cxC X (ns++ys) sc cl G.objs.size s2 H2 fp) [] H' b:=λhn b hb=>
  ⟨hn b hb,cK (jK (below b hb) BX),I3.ok.exfs b hb,.inl hb,λx c e=>(I3.ok.exf b hb).2 x c e,λp hp=>nomatch hp⟩
 have DT:tn 0 h3:=T.keep _ _ _ DJ λb _ o e=>old b o e;have JP:∀b∈fp,upd H2 s2.heap.objs.size (.lst []) b=none:=λb hb=>by
  rw[ai (cK (below b hb))];exact(f2 b hb).1
 have D':∀s3:aG,s3={ s2 with heap:=h3,toks:=s2.toks+([]:List (Str×aB)).length }->
   oQ (aX X.prog X.w) X.A (.compLoop (.ListComp DK [⟨tg,iter,CL,0⟩] sc pos) 0 (.ref it) (.ref s2.heap.objs.size) (compEnvC sc cl G.objs.size X.env))
    (compPost (aX X.prog X.w) X.A X.xe none (EP X f' σ Q) (.ref s2.heap.objs.size) G.objs.size) s3:=by
  intro s3 zE;subst zE;refine K9 (λn s'=>∃i zs H',Inv (cxC X (ns++ys) sc cl G.objs.size s2 H2 fp) [] (dQ ns.length none++pick σ fr) H' s'/\tn i s'.heap/\(∀b∈fp,H' b=none)/\W i n zs H') ?_ m0 ⟨0,[],_,I3,DT,JP,w0⟩;intro n s5 zE;obtain⟨i,zs,H5,I5,FA,IB,w5⟩:=zE;obtain⟨d5,OR⟩:=BL i n zs H5 w5;rcases OR with⟨stop,q⟩ | ⟨go,hz,N,hN,step⟩
  ·refine thn (T.done (cxC X (ns++ys) sc cl G.objs.size s2 H2 fp) rfl rfl rfl hc i [] s5 _ H5 _ I5 (AZ IB) FA stop) λr s6 zF=>?_;obtain⟨hr,I6⟩:=zF;subst hr;obtain⟨m6,OS,_⟩:=I6.loc;exact⟨m6,OS,λh7 hs7=>⟨.ref s2.heap.objs.size,H5,C2 I2 f2 (lD BX) I6 hs7,rfl,q⟩⟩
  ·refine thn (T.item (cxC X (ns++ys) sc cl G.objs.size s2 H2 fp) rfl rfl rfl hc i [] s5 _ H5 _ I5 (AZ IB) FA go) λr s6 zF=>?_;obtain⟨u,hr,h6⟩:=zF;subst hr;refine thn h6 λ_ s7 zF=>?_;obtain⟨x,H7,I7,r7,y7,IJ,OT⟩:=zF;have OU:=I7.pinned (AZ OT) (T.obj _ _ IJ);refine thn (hg _ _ _ _ _ s7 _ H7 x u _ OU r7 (step x H7 y7)) λ_ s8 zF=>?_;obtain⟨σ8,H8,I8,⟨ts,eσ,IK⟩,q8⟩:=zF;have again:∀{H9:Hp}{s9:aG}{IL:List V}{m':Nat},m' < n->Inv (cxC X (ns++ys) sc cl G.objs.size s2 H2 fp) ([]++pf fp s7.heap) σ8 H9 s9->W (i+1) m' IL H9->
     ∃m,m < n/\∃i zs H',Inv (cxC X (ns++ys) sc cl G.objs.size s2 H2 fp) [] (dQ ns.length none++pick σ fr) H' s9/\tn i s9.heap/\(∀b∈fp,H' b=none)/\W i m zs H':=λ{H9 s9 IL m'} hm I9 w9=>by
    refine⟨m',hm,i+1,IL,H9,I9.unpinned.weak ?_ ?_,T.keep _ _ _ IJ λb hb o e=>(I9.pin (b,o) (fK _ (fK _ (i6 hb e)))).1,λb hb=>?_,w9⟩
    ·rw[eσ,aO,aO,gO,IK]
    ·intro j v e;rw[eσ];by_cases hj:j < ns.length
     ·rw[eB (by simpa using hj),mK,if_pos hj]at e;cases e
     ·have EM:ns.length<=j:=sL hj;rw[fZ (by simpa using EM),gO]at e;rw[fZ (by rw[IK];exact EM),IK];exact e
    ·obtain⟨o,e,d⟩:=T.obj _ _ IJ b hb;exact(I9.pin (b,o) (fK _ (fK _ (i6 hb e)))).2.1
   refine thn (ht _ _ _ _ _ s8 σ8 H8 _ I8 q8) λok s9 zF=>?_;obtain⟨H9,I9,q9⟩:=zF;cases ok with
   |false=>
    rw[if_neg bZ]at q9 ⊢;obtain⟨m',hm,w9⟩:=hN _ _ q9;exact again hm I9 w9
   |true=>
    rw[if_pos rfl]at q9 ⊢;refine thn (he _ _ _ _ _ s9 σ8 H9 _ I9 q9) λyv GZ zF=>?_;obtain⟨y,OV,OW,OX,OY,KY⟩:=zF;refine thn (ir _ GZ σ8 OV (.ref s2.heap.objs.size) [y] (.ref s2.heap.objs.size) [yv] (λ_ KZ=>N (zs++[y]) KZ) OW rfl (.cons OX .nil) ⟨_,zs,y,rfl,rfl,OY,hz,KY⟩) λ_ s11 zF=>?_;obtain⟨_,KZ,OZ,_,PB⟩:=zF;obtain⟨m',hm,PD⟩:=hN _ _ PB;exact again hm OZ PD
 exact codeAny_compStart_list (D' _ rfl) (T.self X.A 0 _ _ _ DT (D' _ rfl))
section
variable {k:Nat}{fr:List Nat}{g:TG}{tt:TT}{te:TE}{σ:St}{Q:VK}{D:Addr}{H:Hp}
theorem qj {lo:Int}{n:Nat}(Pv:Nat->List V->Hp->Prop)(h0:Pv 0 [] (upd H D (.lst [])))(hd:∀i ys H,Pv i ys H->H D=some (.lst ys))
  (hs:∀i ys H,i < n->Pv i ys H->ys.length < sizeLine/\ve k fr g tt te σ D ys (Pv (i+1)) (.int (lo+i)) H) (he:∀ys H,Pv n ys H->Q (.ref D) H):vf k fr g tt te σ Q (Itr lo n) H D:=by
 refine⟨λi m ys H=>i+m=n/\Pv i ys H,⟨n,by lia,h0⟩,?_⟩;intro i m ys H2 zE;obtain⟨e,p⟩:=zE;refine⟨hd i ys H2 p,?_⟩;by_cases hi:i < n
 ·obtain⟨z,q⟩:=hs i ys H2 hi p;refine .inr ⟨hi,z,Pv (i+1),λFC H' p'=>⟨m - 1,by lia,by lia,p'⟩,?_⟩;intro x H3 zE;obtain⟨rfl,rfl⟩:=zE;exact q
 ·have e':i=n:=(by lia);subst e';exact .inl ⟨aN _,he ys H2 p⟩
theorem di {K:aC}{a:Addr}{xs:List V}(Pv:Nat->List V->Hp->Prop)(h0:Pv 0 [] (upd H D (.lst [])))(hd:∀i ys H,Pv i ys H->H D=some (.lst ys))(hl:∀i ys H,i<=xs.length->Pv i ys H->SqL K H a xs)
  (hs:∀i x ys H,xs[i]?=some x->Pv i ys H->ys.length < sizeLine/\ve k fr g tt te σ D ys (Pv (i+1)) x H) (he:∀ys H,Pv xs.length ys H->Q (.ref D) H):vf k fr g tt te σ Q (Itl K a) H D:=by
 refine⟨λi m ys H=>i+m=xs.length/\Pv i ys H,⟨xs.length,by lia,h0⟩,?_⟩;intro i m ys H2 zE;obtain⟨e,p⟩:=zE;have sq:=hl i ys H2 (by lia) p;refine⟨hd i ys H2 p,?_⟩;by_cases hi:i < xs.length
 ·have hx:xs[i]?=some xs[i]:=aK hi;obtain⟨z,q⟩:=hs i _ ys H2 hx p;refine .inr ⟨⟨xs,_,sq,hx⟩,z,Pv (i+1),λFC H' p'=>⟨m - 1,by lia,by lia,p'⟩,?_⟩;intro x H3 zE;obtain⟨rfl,hy⟩:=zE;have e2:=hy xs sq;rw[hx]at e2;cases e2;exact q
 ·have e':i=xs.length:=(by lia);subst e';exact .inl ⟨⟨xs,sq,aN _⟩,he ys H2 p⟩
theorem xc {K:aC}{a:Addr}{xs:List V}(Pv:Nat->List V->Hp->Prop)(h0:Pv 0 [] (upd H D (.lst [])))(hd:∀i ys H,Pv i ys H->H D=some (.lst ys))(hl:∀i ys H,i<=xs.length->Pv i ys H->SqT K H a xs)
  (hs:∀i x ys H,xs[i]?=some x->Pv i ys H->ys.length < sizeLine/\ve k fr g tt te σ D ys (Pv (i+1)) x H) (he:∀ys H,Pv xs.length ys H->Q (.ref D) H):vf k fr g tt te σ Q (Itt K a) H D:=by
 refine⟨λi m ys H=>i+m=xs.length/\Pv i ys H,⟨xs.length,by lia,h0⟩,?_⟩;intro i m ys H2 zE;obtain⟨e,p⟩:=zE;have sq:=hl i ys H2 (by lia) p;refine⟨hd i ys H2 p,?_⟩;by_cases hi:i < xs.length
 ·have hx:xs[i]?=some xs[i]:=aK hi;obtain⟨z,q⟩:=hs i _ ys H2 hx p;refine .inr ⟨⟨xs,_,sq,hx⟩,z,Pv (i+1),λFC H' p'=>⟨m - 1,by lia,by lia,p'⟩,?_⟩;intro x H3 zE;obtain⟨rfl,hy⟩:=zE;have e2:=hy xs sq;rw[hx]at e2;cases e2;exact q
 ·have e':i=xs.length:=(by lia);subst e';exact .inl ⟨⟨xs,sq,aN _⟩,he ys H2 p⟩
end
section
variable {X:Cx}{f':List (Addr×Obj)}{σ:St}{H:Hp}{s:aG}{h':Heap}
theorem Inv.track {a:Addr}{o:HO}(I:Inv X f' σ H s)(f:ij X f' H a)(h1:X.s₀.heap.objs.size<=a)(new:ObjOk X.prog X.w (upd H a o) s.heap a o):Inv X f' σ (upd H a o) s:=by
 obtain⟨f0,f1,f2,f3,f4,f5⟩:=f;have old:∀b u,H b=some u->upd H a o b=some u:=λb u e=>by
  rw[ai (am e f0)];exact e
 refine⟨I.ok,I.os,I.bare,⟨I.base.keep,I.base.slot,λb ob e n hx=>?_,I.base.there,λb xs e=>old _ _ (I.base.tups b xs e),λb ob u e=>old _ _ (I.base.frzs b ob u e),λb ps e=>?_⟩,I.loc,I.cell,?_,λx c e=>?_,λp hp=>?_,λb u e=>?_,I.len⟩
 ·rw[ai (cK (eG (aZ e) h1))];exact I.base.free b ob e n hx
 ·obtain⟨more,q⟩:=I.base.tbls b ps e;exact⟨more,old _ _ q⟩
 ·rw[ai (Ne.symm f1)];exact I.free
 ·rw[ai (f4 x c e)];exact I.freeC x c e
 ·obtain⟨p1,p2,p3⟩:=I.pin p hp;refine⟨p1,?_,p3⟩;rw[ai (f5 p hp)];exact p2
 ·by_cases q:b=a
  ·subst q;rw[ac]at e;cases e;exact new
  ·rw[ai q]at e;exact(I.hok b u e).stay (λ_ _ _ z=>z) (λc z=>old _ _ z) λc xs z=>old _ _ z
theorem Inv.turnedAll {t':Nat}{ch:List Addr}(I:Inv X f' σ H s)(hf:∀b∈ch,ij X f' H b)(k:∀b o,b ∉ ch->s.heap.get? b=some o->h'.get? b=some o):Inv X f' σ H { s with heap:=h',toks:=t' }:=by
 have nc:∀b u,H b=some u->b ∉ ch:=λb u e z=>by
  rw[(hf b z).1]at e;cases e
 refine I.step (g':=s.gens) (d':=s.drawn) (ch:=ch) (λb hb=>?_) (λb o _ _ hc e _=>k b o hc e) (λb o _ _ hc e _=>⟨o.slots,k b o hc e⟩) (λ_ _ _ _ n=>n) (λb o hc e=>⟨o,k b o hc e⟩)
  (λ_ _ e=>e) (λ_ _ _ e=>e) (λb ps e=>⟨#[],by rw[e];simp⟩) (λm hm=>?_) (λb u e=>?_) I.bare
 ·obtain⟨f0,f1,f2,f3,f4,f5⟩:=hf b hb;exact⟨f3,f1,f4,f5⟩
 ·obtain⟨o,es,ep,ho,r⟩:=hm;exact⟨o,es,ep,k _ o (λz=>(hf _ z).2.1 rfl) ho,r⟩
 ·refine(I.hok b u e).stay (λc v hc q=>k c v ?_ q) (λ_ q=>q) λ_ _ q=>q;rcases hc with z | z
  ·rw[z];exact nc b u e
  ·exact nc c _ z
end
section
variable {X:Cx}
def fz (K:aC):R2:=λx y H Q=>∃a b ys,x=.ref a/\y=.ref b/\SqT K H a []/\SqT K H b ys/\Q (.ref b) H
theorem Ob:OpR X (kZ .Add) (fz X.K):=by
 intro f' s σ H x y v u Q I rx ry h;obtain⟨a,b,ys,rfl,rfl,ha,hb,q⟩:=h;cases rx;cases ry;obtain⟨its,r1,p1,_⟩:=I.tuple ha;obtain⟨zM,r2,p2,_⟩:=I.tuple hb;cases r1;obtain⟨⟨c1,d1,t1,l1⟩,g1,k1,n1,z1⟩:=id p1;obtain⟨⟨c2,d2,t2,l2⟩,g2,k2,n2,z2⟩:=id p2;simp only at k1 z1 k2 z2;subst k1 z1 k2 z2;exact xP ⟨_,g1,rfl⟩ ⟨_,g2,rfl⟩ vT xB sC rO (qS _ _)
  (tuple_addW0 a b #[] zM.toArray n1 n2 d1 d2 l1 l2 rfl) ⟨g1,g2,⟨.ref b,H,I,rfl,q⟩⟩
theorem j3:OpR X (kZ .Add) (λx y H Q=>io X.K x y H Q\/fz X.K x y H Q):=Rv.or Ob
def rSlS:V->Option Int->Option Int->Hp->VK->Prop:=λx lo hi H Q=>∃z,x=.str z/\z.length<=sizeLine/\Q (.str (oY z lo hi)) H
theorem Uv:SlR X rSlS:=by
 intro f' s σ H x v vl vu lo hi sl Q I rx hs pl pu h;obtain⟨z,rfl,hz,q⟩:=h;obtain⟨t,rfl⟩:=rx;obtain⟨o,ho,hc,hd⟩:=hs;refine⟨"str",_,F.slot_str_getitem.lookup,yQ _ _ _,?_⟩;have zL:∀t' k,EP X f' σ Q (.str (oY z lo hi) t') { s with toks:=k }:=λt' k=>⟨.str (oY z lo hi),H,I.tok k,⟨t',rfl⟩,q⟩;cases pl with
 |none=>
  cases pu with
  |none=>exact oP (l:=none) (u:=none) (st:=none) ⟨o,ho,hc,hd⟩ rfl (tO ⟨bQ (vW z _ _) hz,zL⟩)
  |int j uj=>exact oP (l:=none) (u:=some (j,uj)) (st:=none) ⟨o,ho,hc,hd⟩ rfl (tO ⟨bQ (vW z _ _) hz,zL⟩)
 |int i ui=>
  cases pu with
  |none=>exact oP (l:=some (i,ui)) (u:=none) (st:=none) ⟨o,ho,hc,hd⟩ rfl (tO ⟨bQ (vW z _ _) hz,zL⟩)
  |int j uj=>exact oP (l:=some (i,ui)) (u:=some (j,uj)) (st:=none) ⟨o,ho,hc,hd⟩ rfl (tO ⟨bQ (vW z _ _) hz,zL⟩)
end
end L2
namespace HT
open PySem PyProof.Rows
section
open PySem.SeqAt
open PySem.AutoSeq1 (wpAny_loadPart')
open PySem.MeetsSeq PySem.MeetsSeq2 PySem.MeetsSeq3
end
end HT
namespace L2
open PySem PySem.Spec PyProof.Rows
section
variable {X:Cx}
end
inductive Da where
 |flat (v:V)
 |tup (xs:List Da)
 |lst (xs:List Da)
mutual
inductive Hold (K:aC)(H:Hp):V->Da->Prop where
 |flat {v:V}:jt v=true->Hold K H v (.flat v)
 |tup {a:Addr}{xs:List V}{ds:List Da}:SqT K H a xs->Holds K H xs ds->Hold K H (.ref a) (.tup ds)
 |lst {a:Addr}{xs:List V}{ds:List Da}:SqL K H a xs->Holds K H xs ds->Hold K H (.ref a) (.lst ds)
inductive Holds (K:aC)(H:Hp):List V->List Da->Prop where
 |nil:Holds K H [] []
 |cons {x:V}{xs:List V}{d:Da}{ds:List Da}:Hold K H x d->Holds K H xs ds->Holds K H (x::xs) (d::ds)
end
mutual
def Da.dep:Da->Nat
 | .flat _=>0
 | .tup xs=>depL xs+1
 | .lst xs=>depL xs+1
def depL:List Da->Nat
 | []=>0
 |d::r=>max d.dep (depL r)
end
theorem px:∀{ds:List Da}{d:Da},d∈ds->d.dep<=depL ds
 |e::r,d,h=>by
  rw[depL];rcases aU.mp h with rfl | h
  ·exact Nat.le_max_left _ _
  ·exact bQ (px h) (Nat.le_max_right _ _)
theorem Holds.length {K:aC}{H:Hp}:∀{xs:List V}{ds:List Da},Holds K H xs ds->xs.length=ds.length
 | [],_,h=>by cases h;rfl
 |_::_,_,h=>by
  cases h with
  |cons _ r=>rw[cX,cX,r.length]
theorem Holds.get {K:aC}{H:Hp}:∀{xs:List V}{ds:List Da}{j:Nat}{x:V},Holds K H xs ds->xs[j]?=some x->∃d,ds[j]?=some d/\Hold K H x d
 | [],_,_,_,_,e=>by cases e
 |z::zs,_,0,x,h,e=>by
  cases h with
  |cons hx _=>
   have e':z=x:=(by simpa using e);subst e';exact⟨_,rfl,hx⟩
 |z::zs,_,j+1,x,h,e=>by
  cases h with
  |cons _ r=>
   obtain⟨d,h1,h2⟩:=r.get (j:=j) (x:=x) (by simpa using e);exact⟨d,by simpa using h1,h2⟩
theorem Oc {v:V}(h:jt v=true):eqV v v=true:=by
 cases v with
 |non=>rfl
 |bl b=>exact beq_self_eq_true b
 |int i=>exact beq_self_eq_true i
 |str z=>exact beq_self_eq_true z
 |byt _=>cases h
 |flt _=>cases h
 |ref _=>cases h
 |ty _=>cases h
section
open PySem.SeqAt
variable {X:Cx}{f':List (Addr×Obj)}{σ:St}{H:Hp}{s:aG}{A:cQ}
theorem qk {xs ys:List V}{ds:List Da}{its zM:List aB}(h1:Holds X.K H xs ds)(h2:Holds X.K H ys ds)(r1:Vals xs its)(r2:Vals ys zM)
  (el:∀d∈ds,∀(x y:V)(u v:aB),Hold X.K H x d->Hold X.K H y d->RelV x u->RelV y v->EqAt A s u v true) :
  ∀j (q1:j < its.toArray.size) (q2:j < zM.toArray.size),EqAt A s its.toArray[j] zM.toArray[j] true:=by
 intro j q1 q2;have l1:=r1.length;have l2:=r2.length;have j1:j < xs.length:=(by rw[l1];simpa using q1);have j2:j < ys.length:=(by rw[l2];simpa using q2);obtain⟨d,e1,k1⟩:=h1.get (aK j1);obtain⟨d',e2,k2⟩:=h2.get (aK j2);rw[e1]at e2;cases e2;obtain⟨u,f1,ru⟩:=r1.get (aK j1);obtain⟨v,f2,rv⟩:=r2.get (aK j2);have g1:its.toArray[j]=u:=by
  have z:its[j]?=some its.toArray[j]:=(by simp[aK (by simpa using q1:j < its.length)]);rw[f1]at z;exact(eA z).symm
 have g2:zM.toArray[j]=v:=by
  have z:zM[j]?=some zM.toArray[j]:=(by simp[aK (by simpa using q2:j < zM.length)]);rw[f2]at z;exact(eA z).symm
 rw[g1,g2];exact el d (bK e1) _ _ _ _ k1 k2 ru rv
theorem R1 (I:Inv X f' σ H s){a b:Addr}{xs ys:List V}{ds:List Da}(ha:SqT X.K H a xs)(hb:SqT X.K H b ys)(h1:Holds X.K H xs ds)(h2:Holds X.K H ys ds)(hu:A.units < iK)
  (el:∀d∈ds,∀(x y:V)(u v:aB),Hold X.K H x d->Hold X.K H y d->RelV x u->RelV y v->EqAt A.in1 s u v true):RcAt A s (.ref a) (.ref b) true:=by
 obtain⟨its,r1,p1,_⟩:=I.tuple ha;obtain⟨zM,r2,p2,_⟩:=I.tuple hb;have q:=RcAt.tuples (s:=s) (e:=λ_=>true) (show s.heap.IsTuple a its.toArray from p1) (show s.heap.IsTuple b zM.toArray from p2) hu (qk h1 h2 r1 r2 el);have e:its.toArray.size=zM.toArray.size:=by
  rw[aS,aS,<-r1.length,<-r2.length,h1.length,h2.length]
 rw[e,oK.mpr (λ_ _=>rfl)]at q;simpa using q
theorem Fw (I:Inv X f' σ H s){a b:Addr}{xs ys:List V}{ds:List Da}(ha:SqL X.K H a xs)(hb:SqL X.K H b ys)(h1:Holds X.K H xs ds)(h2:Holds X.K H ys ds)(hu:A.units < iK)
  (el:∀d∈ds,∀(x y:V)(u v:aB),Hold X.K H x d->Hold X.K H y d->RelV x u->RelV y v->EqAt A.in1 s u v true):RcAt A s (.ref a) (.ref b) true:=by
 obtain⟨its,r1,p1,_⟩:=I.list ha;obtain⟨zM,r2,p2,_⟩:=I.list hb;have e:its.toArray.size=zM.toArray.size:=by
  rw[aS,aS,<-r1.length,<-r2.length,h1.length,h2.length]
 have q:=RcAt.lists (s:=s) (e:=λ_=>true) p1.isList p2.isList e hu (qk h1 h2 r1 r2 el);rw[oK.mpr (λ_ _=>rfl)]at q;exact q
theorem vg (I:Inv X f' σ H s):∀(n:Nat) {d:Da}{x y:V}{u v:aB}{A:cQ},d.dep<=n->A.units+n < iK->Hold X.K H x d->Hold X.K H y d->RelV x u->RelV y v->EqAt A s u v true
 |n,.flat w,x,y,u,v,A,_,_,hx,hy,rx,ry=>by
  cases hx with
  |flat f=>
   cases hy;have q:=K4 (A:=A) (s:=s) rx ry f f;rw[Oc f]at q;exact q
 |0,.tup ds,_,_,_,_,_,h,_,_,_,_,_=>by rw[Da.dep]at h;lia
 |0,.lst ds,_,_,_,_,_,h,_,_,_,_,_=>by rw[Da.dep]at h;lia
 |n+1,.tup ds,x,y,u,v,A,h,hu,hx,hy,rx,ry=>by
  rw[Da.dep]at h;cases hx with
  |@tup a xs _ ha h1=>
   cases hy with
   |@tup b ys _ hb h2=>
    cases(show u=cE a from rx);cases(show v=cE b from ry);by_cases BG:a=b
    ·rw[BG];exact EqAt.same _
    ·refine EqAt.of_refs BG (R1 I ha hb h1 h2 (by lia) λd hd x y u v kx ky qx qy=>?_);exact vg I n (bQ (px hd) (by lia)) (by rw[pG];lia) kx ky qx qy
 |n+1,.lst ds,x,y,u,v,A,h,hu,hx,hy,rx,ry=>by
  rw[Da.dep]at h;cases hx with
  |@lst a xs _ ha h1=>
   cases hy with
   |@lst b ys _ hb h2=>
    cases(show u=cE a from rx);cases(show v=cE b from ry);by_cases BG:a=b
    ·rw[BG];exact EqAt.same _
    ·refine EqAt.of_refs BG (Fw I ha hb h1 h2 (by lia) λd hd x y u v kx ky qx qy=>?_);exact vg I n (bQ (px hd) (by lia)) (by rw[pG];lia) kx ky qx qy
end
section
variable {K:aC}{H H':Hp}
theorem SqT.same {a:Addr}{xs:List V}(h:SqT K H a xs)(e:Same H H'):SqT K H' a xs:=by
 rcases h with(h | ⟨o,h⟩) | h
 ·exact .inl (.inl (e _ _ h))
 ·exact .inl (.inr ⟨o,e _ _ h⟩)
 ·exact .inr h
mutual
theorem Hold.mono (e:Same H H'):∀{x:V}{d:Da},Hold K H x d->Hold K H' x d
 |_,_,.flat f=>.flat f
 |_,_,.tup h r=>.tup (h.same e) (Holds.mono e r)
 |_,_,.lst h r=>.lst (e.seq h) (Holds.mono e r)
theorem Holds.mono (e:Same H H'):∀{xs:List V}{ds:List Da},Holds K H xs ds->Holds K H' xs ds
 |_,_,.nil=>.nil
 |_,_,.cons h r=>.cons (Hold.mono e h) (Holds.mono e r)
end
theorem Holds.append:∀{xs ys:List V}{ds es:List Da},Holds K H xs ds->Holds K H ys es->Holds K H (xs++ys) (ds++es)
 | [],_,_,_,h,k=>by cases h;exact k
 |_::_,_,_,_,h,k=>by
  cases h with
  |cons a r=>exact .cons a (r.append k)
theorem Holds.one {x:V}{d:Da}(h:Hold K H x d):Holds K H [x] [d]:=.cons h .nil
theorem Hold.tupI {x:V}{ds:List Da}(h:Hold K H x (.tup ds)):∃a xs,x=.ref a/\SqT K H a xs/\Holds K H xs ds:=by
 cases h with
 |tup a r=>exact⟨_,_,rfl,a,r⟩
theorem Hold.lstI {x:V}{ds:List Da}(h:Hold K H x (.lst ds)):∃a xs,x=.ref a/\SqL K H a xs/\Holds K H xs ds:=by
 cases h with
 |lst a r=>exact⟨_,_,rfl,a,r⟩
theorem Hold.flatI {x v:V}(h:Hold K H x (.flat v)):x=v:=by
 cases h;rfl
theorem Holds.getm {α:Type}{f:α->Da}{vs:List V}{ls:List α}{i:Nat}{x:V}(h:Holds K H vs (ls.map f))(e:vs[i]?=some x):∃l,ls[i]?=some l/\Hold K H x (f l):=by
 obtain⟨d,e1,k⟩:=h.get e;rw[cY]at e1;cases q:ls[i]? with
 |none=>rw[q]at e1;cases e1
 |some l=>
  rw[q]at e1;have e2:f l=d:=eA e1;rw[<-e2]at k;exact⟨l,rfl,k⟩
theorem Holds.ints:∀{xs:List V}{ns:List Int},Holds K H xs (ns.map λv=>.flat (.int v))->xs=ns.map V.int
 | [],[],_=>rfl
 | [],_::_,h=>by cases h
 |_::_,[],h=>by cases h
 |_::_,_::_,h=>by
  cases h with
  |cons a r=>rw[a.flatI,r.ints];rfl
theorem d0:∀(ns:List Int),Holds K H (ns.map V.int) (ns.map λv=>.flat (.int v))
 | []=>.nil
 |_::r=>.cons (.flat rfl) (d0 r)
end
section
variable {X:Cx}
inductive TyQ (K:aC)(H:Hp):V->aB->Prop where
 |of {x:V}{t:aB}:jz K H x t->TyQ K H x t
 |sqt {a:Addr}{xs:List V}:SqT K H a xs->TyQ K H (.ref a) (.type "tuple")
 |sql {a:Addr}{xs:List V}:SqL K H a xs->TyQ K H (.ref a) (.type "list")
def rIsq (K:aC):List V->Hp->VK->Prop:=λxs H Q=>∃x t n b,xs=[x,.ty n]/\TyQ K H x t/\uB K t (.type n)=some b/\Q (.bl b) H
theorem C3:jr X (.builtin "isinstance") (rIsq X.K):=by
 intro f' s σ H xs us Q I r h;obtain⟨x,t,n,b,rfl,ty,e,q⟩:=h;obtain⟨u,c,rfl,ru,rc⟩:=yj r;cases(show c=rC n from rc);have zL:∀tk,EP X f' σ Q (.bool b) { s with toks:=tk }:=λtk=>⟨.bl b,H,I.tok tk,rfl,q⟩;cases ty with
 |of ty=>exact K2 I ru ty e zL
 |@sqt a xs h=>
  cases(show u=cE a from ru);obtain⟨its,_,⟨o,h1,h2,_⟩,_⟩:=I.tuple h;exact iJ PySem.W.kitx_tuple I.kIn ⟨o,h1,h2⟩ e (λz=>nomatch z) zL
 |@sql a xs h=>
  cases(show u=cE a from ru);obtain⟨its,_,pl,_⟩:=I.list h;obtain⟨o,h1,h2,_⟩:=pl.isList;exact iJ vC I.kIn ⟨o,h1,h2⟩ e (λz=>nomatch z) zL
end
mutual
def Da.fix:Da->Bool
 | .flat _=>true
 | .tup xs=>fixL xs
 | .lst _=>false
def fixL:List Da->Bool
 | []=>true
 |d::r=>d.fix && fixL r
end
theorem df {α:Type}{f:α->Da}(h:∀a,(f a).fix=true):∀l:List α,fixL (l.map f)=true
 | []=>by rw[vV,fixL]
 |a::r=>by rw[eO,fixL,h a,df h r];rfl
def Tups (H H':Hp):Prop:=(∀b xs,H b=some (.tup xs)->H' b=some (.tup xs))/\∀b o u,H b=some (.frz o u)->H' b=some (.frz o u)
theorem Tups.of {H H':Hp}(e:Same H H'):Tups H H':=⟨λ_ _ h=>e _ _ h,λ_ _ _ h=>e _ _ h⟩
theorem Tups.trans {H H1 H2:Hp}(a:Tups H H1)(b:Tups H1 H2):Tups H H2:=⟨λc xs h=>b.1 c xs (a.1 c xs h),λc o u h=>b.2 c o u (a.2 c o u h)⟩
theorem Tups.put {H:Hp}{u:Addr}{xs:List V}(h:H u=some (.lst xs))(o:HO):Tups H (upd H u o):=
 ⟨λb ys e=>by
   rw[ai (im e h (by intro z;cases z))];exact e,λb ob v e=>by
   rw[ai (im e h (by intro z;cases z))];exact e⟩
theorem Tups.but {H H':Hp}{u:Addr}{xs:List V}(h:H u=some (.lst xs))(k:∀b o,b≠u->H b=some o->H' b=some o):Tups H H':=
 ⟨λb ys e=>k b _ (im e h (by intro z;cases z)) e,λb ob v e=>k b _ (im e h (by intro z;cases z)) e⟩
section
variable {K:aC}{H H':Hp}
theorem SqT.tups {a:Addr}{xs:List V}(h:SqT K H a xs)(e:Tups H H'):SqT K H' a xs:=by
 rcases h with(h | ⟨o,h⟩) | h
 ·exact .inl (.inl (e.1 _ _ h))
 ·exact .inl (.inr ⟨o,e.2 _ _ _ h⟩)
 ·exact .inr h
mutual
theorem Hold.stay (e:Tups H H'):∀{x:V}{d:Da},d.fix=true->Hold K H x d->Hold K H' x d
 |_,_,_,.flat f=>.flat f
 |_,_,q,.tup h r=>.tup (h.tups e) (Holds.stay e (by rw[Da.fix]at q;exact q) r)
 |_,_,q,.lst h r=>by rw[Da.fix]at q;cases q
theorem Holds.stay (e:Tups H H'):∀{xs:List V}{ds:List Da},fixL ds=true->Holds K H xs ds->Holds K H' xs ds
 |_,_,_,.nil=>.nil
 |_,_,q,.cons h r=>by
  rw[fixL,hZ]at q;exact .cons (Hold.stay e q.1 h) (Holds.stay e q.2 r)
end
end
open Sem (wp)
section
variable {prog:aP}{w:aW}{A:cQ}{E:aB->aG->Prop}{s:aG}
theorem Wp {it t:Addr}{k:Nat}{its:Array aB}{y:aB}{Q:aB->aG->Prop}(hi:s.heap.IsTupleIter it t k)(ht:s.heap.IsTuple t its)(hy:its[k]?=some y)
  (hQ:∀h',h'.IsTupleIter it t (k+1)->gG it s.heap h'->Q y { s with heap:=h' }):aM (aX prog w) A (iG (.ref it)) Q E s:=by
 obtain⟨ob,g1,g2,g3⟩:=id hi;obtain⟨ot,t1,_,nt,t3⟩:=ht;unfold iG;refine aA (gC (name:=iC "__next__") hi.typeIs F.slot_tuple_iterator_next (fV F.slot_tuple_iterator_next hi.typeIs F.entry_tuple_iterator_next ?_ (F.args_tuple_iterator_next_1 _)));show aM _ _ (field (.ref it) 0 >>= _) _ _ s;refine aA (eI g1 g3 (x:=.ref t) rfl ?_);show aM _ _ (if (cE t == gP)=true then _ else _) _ _ s
 rw[if_neg (show ¬((cE t == gP)=true)from bZ)];show aM _ _ (field (.ref it) 1 >>= _) _ _ s;refine aA (eI g1 g3 (x:=.int k 0) rfl ?_);show aM _ _ (seqItems? (.ref t) >>= _) _ _ s;refine aA (jC t1 t3 ?_);simp only[gE,hy];refine aA (nB g1 g3 (by simp) (wpAny_pure ⟨y,rfl,wpAny_pure (hQ _ ?_ (iY ..))⟩));exact⟨_,gY _ g1 (nN (iH g3 _)),(rT ..).trans g2,by rw[iH g3];simp[jF]⟩
theorem La {it t:Addr}{k:Nat}{its:Array aB}{Q:aB->aG->Prop}(hh:A.handled=none)(hi:s.heap.IsTupleIter it t k)(ht:s.heap.IsTuple t its)(hy:its[k]?=none)
  (hE:∀h' e,uK it s.heap h'->(∃o,h'.get? e=some o/\o.cls=.type "StopIteration")->E (.ref e) { s with heap:=h' }):aM (aX prog w) A (iG (.ref it)) Q E s:=by
 obtain⟨ob,g1,g2,g3⟩:=id hi;obtain⟨ot,t1,_,nt,t3⟩:=ht;unfold iG;refine aA (gC (name:=iC "__next__") hi.typeIs F.slot_tuple_iterator_next (fV F.slot_tuple_iterator_next hi.typeIs F.entry_tuple_iterator_next ?_ (F.args_tuple_iterator_next_1 _)));show aM _ _ (field (.ref it) 0 >>= _) _ _ s;refine aA (eI g1 g3 (x:=.ref t) rfl ?_);show aM _ _ (if (cE t == gP)=true then _ else _) _ _ s
 rw[if_neg (show ¬((cE t == gP)=true)from bZ)];show aM _ _ (field (.ref it) 1 >>= _) _ _ s;refine aA (eI g1 g3 (x:=.int k 0) rfl ?_);show aM _ _ (seqItems? (.ref t) >>= _) _ _ s;refine aA (jC t1 t3 ?_);simp only[gE,hy];refine aA (rJ (aA (nB g1 g3 (by simp) ?_)));show aM _ _ (newExc (.type "StopIteration") [] >>= _) _ _ _;refine aA ?_;simp only[newExc,yK];refine aA (gJ ?_ (by size_fits));refine aA (m:=uE _ _) (yG (a:=gP) (by first | rfl | (simp only[uE];rfl)) ?_)
 refine gJ ?_ (by size_fits);simp only[raiseNew];refine aA (wpAny_handled ?_)
 first | rw[show A.in1.handled=none from hh] | rw[hh]
 refine aA (wpAny_pure (wpAny_throw ?_));exact hE _ _ (((iY ..).extBut.push _).push _) ⟨_,bV _ rfl,rfl⟩
end
section
variable {X:Cx}
end
open Sem (wp)
section
variable {prog:aP}{w:aW}{A:cQ}{E:aB->aG->Prop}
theorem Qr {it l:Addr}{its:Array aB}(ne:l≠it):∀(n k:Nat)(s:aG) (Q:List aB->aG->Prop),s.heap.IsListIter it l k->s.heap.IsList l its->k+n<=its.size->
  (∀h',h'.IsListIter it l (k+n)->gG it s.heap h'->Q ((its.toList.drop k).take n) { s with heap:=h' })->aM (aX prog w) A (draw (.ref it) n) Q E s
 |0,k,s,Q,hi,_,_,q=>by
  show aM _ _ (pure []) Q E s;exact wpAny_pure (by simpa using q s.heap hi (vD ..))
 |n+1,k,s,Q,hi,hl,le,q=>by
  have lt:k < its.size:=(by lia);show aM _ _ (lE (.ref it) >>= _) Q E s;refine aA (wpAny_pyNext_list_item hi hl (x:=its[k]) (by simp[lt]) λh1 i1 s1=>?_);refine aA (gH (Qr ne n (k+1) _ _ i1 (hl.extBut s1.extBut ne) (by lia) λh2 i2 s2=>wpAny_pure ?_));have e:its.toList.drop k=its[k]::its.toList.drop (k+1):=(by simp[jS,lt]);have z:=q h2 (by rw[show k+(n+1)=k+1+n by lia];exact i2) (s1.trans s2);rw[e,List.take_succ_cons]at z;exact z
theorem R6 {s:aG}{l:Addr}{its:Array aB}{Q:List aB->aG->Prop}(hh:A.handled=none)(hl:s.heap.IsList l its)
  (q:∀h',uK s.heap.objs.size s.heap h'->Q its.toList { s with heap:=h' }):aM (aX prog w) A (unpackItems (.ref l) its.size none) Q E s:=by
 have ne:l≠s.heap.objs.size:=(by obtain⟨o,ho,_⟩:=hl;exact cK (aZ ho));unfold unpackItems;refine aA ?_
 ·unfold notIterableAtAll;refine aA (lT hl.typeIs slot_list_iter.lookup ?_);refine wpAny_pure ?_;simp only[cZ,if_false];refine aA (gH (iM hl ?_));refine aA (gH (Qr ne its.size 0 _ _ ⟨_,bV _ rfl,rfl,rfl⟩ (pV hl _) (by lia) λh1 i1 s1=>?_));have e:List.take its.size (List.drop 0 its.toList)=its.toList:=by
   rw[uF];exact lF (by simp)
  rw[e];rw[if_neg (by simp)];have CF:h1.IsList l its:=(pV hl _).extBut s1.extBut ne;refine aA (gH (wpAny_pyNext_list_end hh i1 CF (by simp) λh2 e2=>?_));simp only[Option.isSome_none,cZ,if_false];refine wpAny_pure (q h2 λb o hb z=>e2 b o hb (s1.extBut b o hb (aJ _ z)))
end
section
variable {X:Cx}{pos:Pos}
def gLst (K:aC)(n:Nat)(t:TGs):TG:=λv σ H Q=>∃a xs,v=.ref a/\SqL K H a xs/\xs.length=n/\t xs σ H Q
theorem Uw {es:List Expr}{k:Nat}{t:TGs}{n:Nat}(hc:X.calm=true)(h:PGs X es t)
  (hn:(pQ es X.env).length=n:=by rfl) (DI:(pQ es X.env).findIdx? (·.1)=none:=by rfl):PG X (.Tuple es k pos) (gLst X.K n t):=by
 intro f' s σ H v u Q I r hw;obtain⟨a,xs,rfl,hq,hl,hw⟩:=hw;cases r;obtain⟨its,rv,ht,hz⟩:=I.list hq;have hsz:its.toArray.size=n:=(by rw[aS,<-rv.length,hl]);rw[arm_assign_Tuple];refine aA (nU ?_);unfold unpack;rw[hn,DI,<-hsz];refine aA (gH (R6 (I.ok.hd hc) ht.isList λh' hx=>?_));have I1:Inv X f' σ H { s with heap:=h' }:=I.kept (t':=s.toks) λb o e=>hx b o (cK (aZ e)) e;exact h f' _ σ H xs _ Q I1 (by simpa using rv) hw
theorem Bo {val:Nat->Int}{n:Nat}(h:∀j,j < n->-1000000<=val j/\val j<=1000000):∀j,j<=n->-(1000000 * (j:Int))<=vX val j/\vX val j<=1000000 * (j:Int)
 |0,_=>⟨by show _<=(0:Int);lia,by show(0:Int)<=_;lia⟩
 |j+1,hj=>by
  have z:=Bo h j (by lia);have y:=h j (by lia);show _<=vX val j+val j/\vX val j+val j<=_;lia
def Wq (K:aC):List V->Hp->VK->Prop:=λxs H Q=>∃(a:Addr)(bs:List Bool),xs=[.ref a]/\SqL K H a (bs.map V.bl)/\Q (.bl (bs.all id)) H
theorem Lb (hc:X.calm=true):jr X (.builtin "all") (Wq X.K):=by
 intro f' s σ H xs us Q I r h;obtain⟨a,bs,rfl,hq,q⟩:=h;obtain⟨u,rfl,ru⟩:=jf r;cases ru;obtain⟨its,rv,pl,hz⟩:=I.list hq;have hl:=pl.isList;have lt:a < s.heap.objs.size:=(by obtain⟨o,ho,_⟩:=hl;exact aZ ho);have I1:Inv X f' σ H { s with heap:=s.heap.push { cls:=.type "list_iterator",data:=.fields #[.ref a,.int 0 0] } }:=I.kept (t':=s.toks) λb o e=>aJ _ e;have fI:ij X f' H s.heap.objs.size:=I.fpOk (aN _) (I.hok.fresh (aN _));have len:its.length=bs.length:=(by rw[<-rv.length,aI]);have tr:TruthOf X.prog X.w X.A.in1 (λi v=>its.toArray[i]?=some v) (λi=>bs.getD i true):=λi v s' Q' E' e hQ=>by
  have e':its[i]?=some v:=(by simpa using e);have hi:i < bs.length:=(by rw[<-len];exact(aL.mp e').1);obtain⟨u,f1,ru⟩:=rv.get (i:=i) (x:=.bl bs[i]) (by rw[cY,aK hi];rfl);rw[e']at f1;cases f1;cases(show v=vH bs[i]from ru);refine lY ?_;have z:bs.getD i true=bs[i]:=(by rw[gI,aK hi];rfl);have TR:Q' (bs.getD i true) s':=hQ;rw[z]at TR;exact TR
 refine call_all_walk (iM hl ⟨s.heap.objs.size,[s.heap.objs.size,a],[s.heap.objs.size],its.toArray.size,_,_,λi=>bs.getD i true,rfl,yW (show X.A.in1.handled=none from I.ok.hd hc) s.heap.objs.size a (cK lt) its.toArray,⟨⟨_,bV _ rfl,rfl,rfl⟩,pV hl _⟩,tr,λh' tk kk=>?_⟩);have ea:(eE its.toArray.size).all (λi=>bs.getD i true)=bs.all id:=by
  rw[aS,len,oV,List.all_eq_true,List.all_eq_true];constructor
  ·intro z b hb;obtain⟨i,hi,rfl⟩:=List.mem_iff_getElem.mp hb;have y:=z i (iI.mpr hi);rw[gI,aK hi]at y;exact y
  ·intro z i hi;have DZ:=iI.mp hi;rw[gI,aK DZ];exact z _ (pW DZ)
 rw[ea];refine⟨.bl _,H,I1.turnedAll (t':=tk) (ch:=[s.heap.objs.size]) (λb hb=>?_) (λb o hb e=>kk b o hb e),rfl,q⟩;cases aY.mp hb;exact⟨fI.1,fI.2.1,fI.2.2.1,fI.2.2.2.1,fI.2.2.2.2.1,fI.2.2.2.2.2⟩
end
end L2
namespace HT
open PySem PyProof.Rows
section
variable {prog:aP}{w:aW}{A:cQ}{E:aB->aG->Prop}{s:aG}
theorem xf {sl:Addr}{t:Tok}{n:Nat}{Q:Int×Int×Nat->aG->Prop}(hs:s.heap.IsSliceOf sl .none .none (.int (-1) t))
  (h:Q ((n:Int) - 1,-1,n) s):aM (aX prog w) A (nW (.ref sl) (pure (n:Int))) Q E s:=by
 obtain⟨os,g1,g2,g3⟩:=id hs;unfold nW Builtin.Slice.sliceFields;refine aA (aA (eI g1 g3 (x:=.none) rfl (aA (eI g1 g3 (x:=.none) rfl (aA (eI g1 g3 (x:=.int (-1) t) rfl (wpAny_pure ?_)))))));refine aA (slicePart_int ?_);show aM _ _ (if ((-1:Int) == 0)=true then _ else _) _ _ s
 rw[if_neg (by decide)];refine aA (uC (aA (uC (aA (wpAny_pure ?_)))));show aM _ _ (match jR none none (-1) (n:Int)with | (lo,hi)=>pure (lo,(-1:Int),iE lo hi (-1))) _ _ s
 have e:jR none none (-1) (n:Int)=((n:Int) - 1,-1):=by
  unfold jR;have h1:(-1:Int) < 0:=(by lia);simp only[h1,if_true]
 rw[e];show aM _ _ (pure ((n:Int) - 1,(-1:Int),iE ((n:Int) - 1) (-1) (-1))) _ _ s;have e2:iE ((n:Int) - 1) (-1) (-1)=n:=by
  unfold iE;have h1:¬((-1:Int) > 0):=(by lia);simp only[h1,if_false,Int.neg_neg,Int.ediv_one]
  split<;>lia
 rw[e2];exact wpAny_pure h
theorem Od (xs:List aB):((eE xs.length).filterMap λ(m:Nat)=>xs.toArray[(((xs.length:Nat):Int) - 1+(m:Int) * (-1)).toNat]?)=xs.reverse:=by
 have e:∀(l:List Nat),(∀m∈l,m < xs.length)->(l.filterMap λ(m:Nat)=>xs.toArray[(((xs.length:Nat):Int) - 1+(m:Int) * (-1)).toNat]?)=l.filterMap λm=>xs.reverse[m]?:=by
  intro l
  induction l with
  |nil=>intro _;rfl
  |cons m r ih=>
   intro hm;have h1:m < xs.length:=hm m cJ;have q:(((xs.length:Nat):Int) - 1+(m:Int) * (-1)).toNat=xs.length - 1 - m:=(by lia);rw[gZ,gZ,ih λk hk=>hm k (cC _ hk),q];have z:xs.toArray[xs.length - 1 - m]?=xs.reverse[m]?:=by
    rw[sS h1];simp
   rw[z]
 rw[e _ λm hm=>iI.mp hm];have f:∀(ys:List aB)(k:Nat),k<=ys.length->(eE k).filterMap (λm=>ys[m]?)=ys.take k:=by
  intro ys k
  induction k with
  |zero=>intro _;rfl
  |succ k ih=>
   intro hk;rw[lU,pL,ih (by lia),eJ,aK (by lia:k < ys.length)];simp[aK (by lia:k < ys.length)]
 have g:=f xs.reverse xs.length (by rw[gL];exact aN _);rw[g,lF (by rw[gL];exact aN _)]
theorem getItem_tuple_rev {p sl:Addr}{its:List aB}{t:Tok}{Q:aB->aG->Prop}(ht:yL s.heap p its.toArray)(hs:s.heap.IsSliceOf sl .none .none (.int (-1) t))
  (h:Q (.ref s.heap.objs.size) { s with heap:=s.heap.push { cls:=.type "tuple",data:=.seq its.reverse.toArray } }) (hz:its.length<=sizeLine):aM (aX prog w) A (rG (.ref p) (.ref sl)) Q E s:=by
 have ok:sizeOk (.seq its.reverse.toArray):=by
  show its.reverse.toArray.size<=sizeLine;rw[aS,gL];exact hz
 obtain⟨os,g1,g2,g3⟩:=id hs;have hT:s.TypeIs (.ref sl) "slice":=⟨os,g1,g2⟩;unfold rG
 try with_reducible refine gH ?_
 first | refine aA (wpAny_pure ?_) | skip
 refine aA (wpAny_sequenceKey ht.typeIs (by decide) ?_);refine aA (gC (name:=iC "__getitem__") ht.typeIs lQ (fV lQ ht.typeIs entry_tuple_getitem ?_ (args_tuple_getitem _ _)));show aM _ _ (qC (.ref p) >>= _) _ _ s;refine aA (tupleItemsOf_ ht ?_);refine aA (tK hT ?_);rw[if_pos (by decide)];refine aA (xf hs ?_);have no:¬(((((its.toArray.size:Nat):Int) - 1) == 0 && (-1:Int) == 1 && its.toArray.size == its.toArray.size)=true):=by
  intro q;rw[hZ,hZ]at q;exact absurd q.1.2 (by decide)
 show aM _ _ (if ((((its.toArray.size:Nat):Int) - 1) == 0 && (-1:Int) == 1 && its.toArray.size == its.toArray.size)=true then _ else _) _ _ s
 rw[if_neg no];have pk:((eE its.toArray.size).filterMap λ(m:Nat)=>its.toArray[(((its.toArray.size:Nat):Int) - 1+(m:Int) * (-1)).toNat]?)=its.reverse:=by
  rw[aS];exact Od its
 rw[pk]
 first
  |exact aA (m:=jA _) (gJ (wpAny_pure ⟨_,rfl,wpAny_pure h⟩) ok)
  |exact aA (aA (m:=jA _) (gJ (wpAny_pure ⟨_,rfl,wpAny_pure h⟩) ok))
  |exact aA (aA (m:=jA _) (gJ (wpAny_pure (wpAny_pure ⟨_,rfl,wpAny_pure h⟩)) ok))
end
end HT
namespace L2
open PySem PySem.Spec PyProof.Rows
section
variable {X:Cx}{e st:Expr}{te ts:TE}{pos p2:Pos}
def tRev (K:aC)(te ts:TE):TE:=λσ H Q=>te σ H λx H1=>ts σ H1 λy H2=>y=.int (-1)/\∃a xs,x=.ref a/\SqT K H2 a xs/\∀p,H2 p=none->Q (.ref p) (upd H2 p (.tup xs.reverse))
theorem Fx (he:PE X e te)(hs:PE X st ts):PE X (.Subscript e (.Slice none none (some st) p2) pos) (tRev X.K te ts):=by
 intro f' s σ H Q I h;refine Subscript_ (thn (he f' s σ H _ I h) λv s1 zF=>?_);obtain⟨x,H1,I1,r1,q1⟩:=zF;refine wpAny_Slice ?_;rw[xC];refine wpAny_pure (wpAny_pure ?_);rw[evalPart_some];refine thn (hs f' s1 σ H1 _ I1 q1) λvs s3 zF=>?_;obtain⟨y,H3,I3,r3,q3⟩:=zF;obtain⟨rfl,a,xs,rfl,hx,q⟩:=q3;obtain⟨t,rfl⟩:=r3;cases(show v=cE a from r1);have I4:Inv X f' σ H3 { s3 with heap:=s3.heap.push { cls:=.type "slice",data:=.fields #[.none,.none,.int (-1) t] } }:=I3.kept (t':=s3.toks) λb ob q=>aJ _ q;obtain⟨its,r4,ht,hz⟩:=I4.tuple hx;have lz:its.length<=sizeLine:=(by rw[<-r4.length];exact hz);show aM (aX X.prog X.w) X.A (uV e (.Slice none none (some st) p2) (.ref a) (.ref s3.heap.objs.size)) (EP X f' σ Q) X.xe { s3 with heap:=s3.heap.push { cls:=.type "slice",data:=.fields #[.none,.none,.int (-1) t] } };refine tail_any (ops:=[.ref a,.ref s3.heap.objs.size]) ht.typeIs PyProof.Rows.slot_tuple_getitem.lookup (HT.getItem_tuple_rev ht (Heap.IsSliceOf.new ..) ?_ lz) (by with_unfolding_all rfl)
 refine⟨.ref _,_,I4.laid (t':=s3.toks) (o:=.tup xs.reverse) (λb ob q=>aJ _ q) (aN _) ?_,rfl,q _ (I4.hok.fresh (aN _))⟩;exact⟨by rw[gL];exact hz,_,r4.reverse,xQ _ _⟩
theorem R7 (l b:Addr)(xs ys:Array aB)(n k:Nat)(dd:Option Addr)(sl:Array (Option aB))(TU:¬(!xs.isEmpty && jX (xs.size+ys.size))=true)(JS:xs.size<=sizeLine)(BM:xs.size+ys.size<=sizeLine+1) :
  Meets (iW.«list.extend» ⟨[.ref l,.ref b],[]⟩) (λ_ R s=>s.heap.get? l=some { cls:=.type "list",dict:=none,data:=.seq xs n,slots:=#[] }/\s.heap.get? b=some { cls:=.type "tuple",dict:=dd,data:=.seq ys k,slots:=sl }/\R (.ok (.ret gP)) { s with heap:=s.heap.update l (iR λx=>x++ys),toks:=s.toks }):=
 .of_wp λprog w A R s h=>by
  obtain⟨hp,gs,dr,tk,os⟩:=s;obtain⟨hl,hb,h⟩:=h;have f1:=AutoSeq1.idx_int;have f2:=AutoSeq1.sub_tuple_tuple;have f3:=AutoSeq1.sub_list_list;have f4:=AutoSeq1.sub_tuple_list;have f5:=AutoSeq1.sub_list_tuple;have hz':(xs++ys).size<=sizeLine+1:=by rw[Array.size_append];exact BM
  wp_walk using(wpAny_updateSeq hl rfl (hz:=JS) (_hz':=hz')),AutoSeq1.wpAny_loadPart' hl,AutoSeq1.wpAny_loadPart' hb
  exact⟨_,rfl,h⟩
def Ws (K:aC):V->List V->Hp->VK->Prop:=λx vs H Q=>∃l b xs zs,x=.ref l/\vs=[.ref b]/\H l=some (.lst xs)/\SqT K H b zs/\xs.length+zs.length<=sizeLine/\Q .non (upd H l (.lst (xs++zs)))
theorem R8:MtM X "list.extend" (Ws X.K):=by
 intro f' s σ H x vs v us Q I rx rv h;obtain⟨l,b,xs,zs,rfl,rfl,hH,hB,hz,q⟩:=h;cases rx;obtain⟨u,rfl,ru⟩:=rv.one;cases ru;obtain⟨z,its,n,r,hl,e⟩:=I.lstM hH;obtain⟨zM,r2,p2,_⟩:=I.tuple hB;have zW:=r2.length;obtain⟨⟨c2,d2,t2,l2⟩,g2,k2,n2,z2⟩:=id p2;simp only at k2 z2;subst k2 z2;have hsz:its.toArray.size+zM.toArray.size<=sizeLine:=(by rw[aS,aS];lia);have BW:¬(!its.toArray.isEmpty && jX (its.toArray.size+zM.toArray.size))=true:=by
  rw[xb hsz,rH];exact bZ
 refine pU F.slot_list_extend ⟨_,e,rfl⟩ F.entry_list_extend (F.args_list_extend_2 _ _) (R7 l b its.toArray zM.toArray n n2 d2 l2 BW (by rw[aS];lia) (by lia)) ⟨e,g2,?_⟩;refine⟨.non,_,I.lset (its':=its++zM) hH e (by simp) (r.append r2) ?_,rfl,q⟩;rw[aO];lia
end
theorem Ap {K:aC}{H:Hp}{a:Addr}{o:Obj}{its:Array aB}{n:Nat}{xs:List V}(l:K.lookup a=some o)(c:o.cls=.type "tuple")(d:o.data=.seq its n)(z:its.size<=sizeLine)(r:Vals xs its.toList):SqT K H a xs:=
 .inr ⟨o,its,n,l,c,d,z,r⟩
section
variable {X:Cx}{es:List Expr}{te:TE}{t:TA}
theorem bz {c:Const}{k:Nat}{p:Pos}(ha:PE X (.Constant c k p) te)(hr:PA X es t):PA X (.Constant c k p::es) (Cf te t):=aa ha hr
end
end L2
namespace Fly
open PySem
open Sem (wp)
def Tb (B h:Heap)(e:Addr)(vs:Array aB):Option aB->Prop
 |none=>vs[1]?=some .none
 |some f=>∃T oT ts,vs[1]?=some (.ref T)/\B.get? T=none/\T≠e/\h.get? T=some oT/\oT.data=.fields ts/\ts[3]?=some f
structure XAt (B:Heap)(l:List Env)(e:Addr)(cls:aB)(AC:Option Addr)(fl:Option aB)(h:Heap):Prop where
 stays:B.StaysIn h
 new:B.get? e=none
 frames:h.FunFrames B l
 obj:∃oe vs,h.get? e=some oe/\oe.cls=cls/\oe.dict=AC/\oe.data=.fields vs/\1 < vs.size/\Tb B h e vs fl
theorem XAt.drop {B:Heap}{env:Env}{l:List Env}{e:Addr}{cls:aB}{AC:Option Addr}{fl:Option aB}{h:Heap}(x:XAt B (env::l) e cls AC fl h):XAt B l e cls AC fl h:=
 ⟨x.stays,x.new,x.frames.2.2,x.obj⟩
theorem R9 (o:Obj)(f):(o.mapFields f).dict=o.dict:=by
 unfold oS;split<;>rfl
section
variable {M:sY}{A:cQ}{E:aB->aG->Prop}{s:aG}
theorem entry {B:Heap}{env:Env}{outer:List Env}{L e:Addr}{oe:Obj}{vs:Array aB}{head:aB}{more:Bool}{Q:Unit->aG->Prop}
  (HA:A.frames=some (env::outer)) (hl:s.heap.FunFrames B (env::outer)) (hf:env.frame=some L) (he:s.heap.get? e=some oe) (hkb:B.StaysIn s.heap) (TV:B.get? e=none) (hd:oe.data=.fields vs) (hsz:1 < vs.size)
  (h:∀h',XAt B (env::outer) e oe.cls oe.dict (some (jF L)) h'->s.heap.UpToSlots h'->Q () { s with heap:=h' }) :
  aM M A (do let a <-frameOf env;let pl <-entryPlaceOf L more;let b <-EntryCells.newEntry head a .none (jF L) .none pl;wZ (.ref e) 1 b) Q E s:=by
 have nf:e ∉ (env::outer).filterMap (·.frame):=by
  intro hm;obtain⟨_,o,ho,z⟩:=hl.mem hm;rw[he]at ho;cases ho;exact z vs hd
 refine aA (wpAny_frameOf_fun HA hl hf λh1 JS=>?_);refine aA (wpAny_entryPlaceOf λpl AL=>?_);unfold EntryCells.newEntry newFields;refine aA (gJ ?_ (AL.sizeOk5 _ _ _ _ _));have TW:(([head,.ref L,.none,jF L,.none]++(if pl.isEmpty then dQ 6 gP else pl)).toArray:Array aB)[3]?=some (jF L):=by
  first | (simp;done) | (rcases AL with rfl | ⟨_,_,_,_,_,_,_,rfl⟩<;>simp)
 generalize ([head,.ref L,.none,jF L,.none]++(if pl.isEmpty then dQ 6 gP else pl)).toArray=ts at TW ⊢
 have e1:h1.get? e=some oe:=(JS.2.1 e nf).trans he;have k1:B.StaysIn h1:=λb o q=>(JS.2.1 b λhm=>by rw[(hl.mem hm).1]at q;cases q).trans (hkb b o q);have e2:=aJ (h:=h1) { cls:=.type "traceback",dict:=none,data:=.fields ts } e1;refine nB e2 hd hsz ?_;have ne:h1.objs.size≠e:=gN (aZ e1);have d3:=iH hd (·.setIfInBounds 1 (cE h1.objs.size));have e3:=gY (oS (·.setIfInBounds 1 (cE h1.objs.size))) e2 (nN d3);have t3:=(jM (h1.push { cls:=.type "traceback",dict:=none,data:=.fields ts }) (oS (·.setIfInBounds 1 (cE h1.objs.size))) (Ne.symm ne)).trans (bV h1 rfl);have kp:∀b o,b≠e->h1.get? b=some o->((h1.push { cls:=.type "traceback",dict:=none,data:=.fields ts }).update e (oS (·.setIfInBounds 1 (cE h1.objs.size)))).get? b=some o:=by
  intro b o hb q;rw[jM _ _ (Ne.symm hb)];exact aJ _ q
 have nr:∀b o,s.heap.get? b=some o->(∀vs,o.data≠.fields vs)->b≠e:=by
  intro b o q z w;subst w;rw[he]at q;cases q;exact z vs hd
 refine h _ ⟨λb o q=>kp b o (λw=>by rw[w,TV]at q;cases q) (k1 b o q),TV,hl.of_keeps λb o q z=>?_,?_⟩ λb o q z=>?_
 ·obtain⟨sl,hs⟩:=JS.2.2 b o q;exact⟨_,kp b _ (nr b o q z) hs,rfl⟩
 ·exact⟨_,_,e3,rT _ _,R9 _ _,d3,by simpa using hsz,h1.objs.size,_,_,by simp[hsz],k1.fresh,ne,t3,rfl,TW⟩
 ·obtain⟨sl,hs⟩:=JS.2.2 b o q;exact⟨sl,kp b _ (nr b o q z) hs⟩
theorem note {B:Heap}{env:Env}{outer:List Env}{L e:Addr}{cls:aB}{AC:Option Addr}{fl:Option aB}{Q:Unit->aG->Prop}
  (HA:A.frames=some (env::outer)) (hf:env.frame=some L) (x:XAt B (env::outer) e cls AC fl s.heap) (PF:fl=none\/fl=some .none)
  (h:∀h',XAt B (env::outer) e cls AC (some (jF L)) h'->s.heap.UpToSlots h'->Q () { s with heap:=h' }):aM M A (noteFrame (.ref e) env) Q E s:=by
 obtain⟨k,en,l,oe,vs,he,rfl,rfl,hd,hsz,tb⟩:=x;unfold noteFrame;simp only[hf];rcases PF with rfl | rfl
 ·refine aA (eI he hd (show vs[1]?=some .none from tb) ?_);rw[if_neg (by decide)];exact entry HA l hf he k en hd hsz h
 ·obtain⟨T,oT,ts,h1,nT,ne,hT,dT,h3⟩:=(show ∃T oT ts,vs[1]?=some (.ref T)/\B.get? T=none/\T≠e/\s.heap.get? T=some oT/\oT.data=.fields ts/\ts[3]?=some .none from tb);refine aA (eI he hd h1 ?_);rw[if_pos (show(cE T != gP)=true from by simp)];refine aA (eI hT dT h3 ?_);rw[if_neg (show ¬((gP == jF L)=true)from by simp[jF])];refine aA (nB hT dT (iA.mp h3).1 ?_);have ot:∀b,b≠T->(s.heap.update T (oS (·.setIfInBounds 3 gP))).get? b=s.heap.get? b:=λb hb=>jM _ _ (Ne.symm hb);have nr:∀b o,s.heap.get? b=some o->(∀vs,o.data≠.fields vs)->b≠T:=by
   intro b o q z w;subst w;rw[hT]at q;cases q;exact z ts dT
  refine entry HA (l.of_keeps λb o q z=>⟨o,(ot b (nr b o q z)).trans q,rfl⟩) hf ((ot e (Ne.symm ne)).trans he) (λb o q=>(ot b λw=>by rw[w,nT]at q;cases q).trans (k b o q)) en hd hsz λh' y u=>?_;exact h h' y λb o q z=>u b o ((ot b (nr b o q z)).trans q) z
theorem land {B:Heap}{l:List Env}{e:Addr}{cls f:aB}{AC:Option Addr}{Q:Unit->aG->Prop}(x:XAt B l e cls AC (some f) s.heap)
  (h:∀h',XAt B l e cls AC (some .none) h'->s.heap.UpToSlots h'->Q () { s with heap:=h' }):aM M A (setFlight (.ref e) none) Q E s:=by
 obtain⟨k,en,hl,oe,vs,he,rfl,rfl,hd,hsz,tb⟩:=x;obtain⟨T,oT,ts,h1,nT,ne,hT,dT,h3⟩:=(show ∃T oT ts,vs[1]?=some (.ref T)/\B.get? T=none/\T≠e/\s.heap.get? T=some oT/\oT.data=.fields ts/\ts[3]?=some f from tb);have z3:3 < ts.size:=(iA.mp h3).1;have ot:∀b,b≠T->(s.heap.update T (oS (·.setIfInBounds 3 ((none:Option Addr).elim gP λf=>jF f)))).get? b=s.heap.get? b:=λb hb=>jM _ _ (Ne.symm hb);have nr:∀b o,s.heap.get? b=some o->(∀vs,o.data≠.fields vs)->b≠T:=by
  intro b o q z w;subst w;rw[hT]at q;cases q;exact z ts dT
 unfold setFlight;refine aA (eI he hd h1 ?_);rw[if_pos (show(cE T != gP)=true from by simp)];refine nB hT dT z3 (h _ ⟨λb o q=>(ot b λw=>by rw[w,nT]at q;cases q).trans (k b o q),en,hl.of_keeps λb o q z=>⟨o,(ot b (nr b o q z)).trans q,rfl⟩,?_⟩ λb o q z=>⟨o.slots,(ot b (nr b o q z)).trans q⟩);exact⟨oe,vs,(ot e (Ne.symm ne)).trans he,rfl,rfl,hd,hsz,T,_,_,h1,nT,ne,gY _ hT (nN (iH dT _)),iH dT _,by simp[z3]⟩
theorem leave {B:Heap}{env:Env}{outer:List Env}{L e:Addr}{cls:aB}{AC:Option Addr}{fl:Option aB}{Q:Unit->aG->Prop}
  (HA:A.frames=some (env::outer)) (hf:env.frame=some L) (x:XAt B (env::outer) e cls AC fl s.heap) (PF:fl=none\/fl=some .none)
  (h:∀h',XAt B outer e cls AC (some .none) h'->s.heap.UpToSlots h'->Q () { s with heap:=h' }):aM M A (leaving env (.ref e)) Q E s:=by
 unfold leaving;refine aA (note HA hf x PF λh1 x1 u1=>land x1 λh2 x2 u2=>?_);exact h h2 x2.drop (u1.trans u2)
end
open Sem (wp)
abbrev C4 {α:Type}(M:sY)(h:Heap)(t:Sem α)(r:α):Prop:=
 ∀(A:cQ)(Q:α->aG->Prop) (E:aB->aG->Prop) (s:aG),(∀b o,h.get? b=some o->s.heap.get? b=some o)->Q r s->aM M A t Q E s
section
variable {prog:aP}{w:aW}{A:cQ}{E:aB->aG->Prop}{h:Heap}{g:Array pP}{d:yN}{t:Nat}{os:zB}
variable {nm q:Str}{C N:Addr}{bs bm EN:List aB}{hdct:Bool}{sn:List Str}{sub:List aB}{ab:Bool}{col:Option Bool}{dd:Option Addr}{k0 k1 k2 k3 k5:Option aB}{B newId AD:String}
theorem Sa (F:qW B newId AD EN)(cB:bm.contains (.type B)=true){M:sY}{rest:List aB}{Q:Unit->aG->Prop}
  (hC:h.get? C=some (iS nm q C N bs bm hdct sn sub ab col dd k0 k1 k2 k3 k5 newId)) (hq:Q () ⟨h,g,d,t,os⟩):aM M A (nC newId ⟨.ref C::rest,[]⟩) Q E ⟨h,g,d,t,os⟩:=by
 have c1:(cE C::bm).contains (.type B)=true:=(by rw[gU,cB,nK]);have c2:=F.noStar;simp only[nC,F.newKind,F.newSplit,F.newRow]
 repeat (first
   |refine gQ hC ?_
   | (refine nA hC ?_;rw[c1])
   |refine wpAny_staticBase_exc hC ?_
   |refine wpAny_madeBy_exc hC ?_
   |simp only[bne_self_eq_false,cZ,if_false]
   |wp_step)
 exact hq
theorem Sb {R:xL->aG->Prop}(F:qW B newId AD EN)(cB:bm.contains (.type B)=true)(cA:bm.contains (.type "AttributeError")=false)(cN:bm.contains (.type "NameError")=false){rest:List aB}
  (hC:h.get? C=some (iS nm q C N bs bm hdct sn sub ab col dd k0 k1 k2 k3 k5 newId))
  (hq:R (.ok (.ret (.ref (h.objs.size+1)))) ⟨(h.push { cls:=.type "tuple",data:=.seq rest.toArray }).push { cls:=.ref C,data:=.fields #[.ref h.objs.size,.none,.none,.none,.bool false,.none] },g,d,t,os⟩) (hrest:rest.length<=sizeLine) :
  oQ (aX prog w) A (.builtin newId ⟨.ref C::rest,[]⟩) R ⟨h,g,d,t,os⟩:=by
 have f1:=F.ends;have c1:(cE C::bm).contains (.type B)=true:=(by rw[gU,cB,nK]);have c2:(cE C::bm).contains (.type "AttributeError")=false:=(by rw[gU,cA];rfl);have c3:(cE C::bm).contains (.type "NameError")=false:=(by rw[gU,cN];rfl);refine codeAny_builtinAt F.entry ?_;unfold iW.«BaseException.__new__»;refine wpAt_bind ?_;show wpAt _ _ _ (stack >>= _) _ _ _;refine wpAt_bind (wpAt_stack λp below=>wpAt_of_wpAny ?_)
 wp_walk
 refine wpAt_of_wpAny ?_;rw[F.owner]
 repeat (first
   |with_reducible refine wpAny_madeHere_exc F.canon hC ?_
   |with_reducible refine gQ hC ?_
   | (with_reducible refine nA hC ?_;first | rw[c1] | rw[c2] | rw[c3])
   |wp_step)
 show R _ _;rw[gK];exact hq
theorem Ij (F:qW B newId AD EN)(cB:bm.contains (.type B)=true)(cA:bm.contains (.type "AttributeError")=false)(cN:bm.contains (.type "NameError")=false){rest:List aB}{fI:Addr}{oI:Obj}{Q:Fin->aG->Prop}
  (hC:h.get? C=some (iS nm q C N bs bm hdct sn sub ab col dd k0 k1 k2 k3 k5 newId)) (hi:C4 (aX prog w) h (pT (.ref C) "__init__") (some (.ref fI)))
  (PH:h.get? fI=some oI) (PK:oI.cls=.type "function")
  (hq:∀h' e,h.objs.size<=e->Heap.MadeExcOf h h' e (.ref C) rest->aM (aX prog w) A (call (.ref fI) (.ref e::rest)) (λr s'=>r=.none/\Q (.done (.ret (.ref e))) s') E ⟨h',g,d,t,os⟩) (hrest:rest.length<=sizeLine) :
  aM (aX prog w) A (iW.«type.__call__» ⟨.ref C::rest,[]⟩) Q E ⟨h,g,d,t,os⟩:=by
 repeat (first
   |with_reducible refine gQ hC ?_
   |with_reducible refine wpAny_madeBy_exc hC ?_
   |wp_step)
 refine codeAny_call_builtin_code (qX _ F.quiet) (Sa F cB hC ?_);refine Sb F cB cA cN hC ?_ hrest;show aM _ _ _ _ _ _;have kp:∀b o,h.get? b=some o->((h.push { cls:=.type "tuple",data:=.seq rest.toArray }).push { cls:=.ref C,data:=.fields #[.ref h.objs.size,.none,.none,.none,.bool false,.none] }).get? b=some o:=
  λb o z=>aJ _ (aJ _ z)
 have hC1:=kp _ _ hC;have hfI1:=kp _ _ PH;have he:((h.push { cls:=.type "tuple",data:=.seq rest.toArray }).push { cls:=.ref C,data:=.fields #[.ref h.objs.size,.none,.none,.none,.bool false,.none] }).get? (h.objs.size+1)
   = some { cls:=.ref C,data:=.fields #[.ref h.objs.size,.none,.none,.none,.bool false,.none] }:=by heap_get
 have c3:(cE C::bm).contains (.ref C)=true:=(by simp);unfold vJ
 repeat (first
   |with_reducible refine gQ he ?_
   | (with_reducible refine nA hC1 ?_;rw[c3])
   |wp_step)
 show aM _ _ (pT (.ref C) _) _ _ _;refine hi _ _ _ _ kp ?_;refine gH (aA ?_);unfold bindSpecial;refine aA (tK (T:="function") ⟨_,hfI1,PK⟩ ?_);rw[if_pos (by decide)];refine wpAny_pure (aA (iD (hq _ (h.objs.size+1) (uJ _) ⟨kp,pO (uJ _),h.objs.size,he,pO (aN _),?_⟩) (λr s' hr=>?_) λ_ _ x=>x))
 ·exact aJ _ (Heap.get?_push_at rfl rfl)
 ·obtain⟨rfl,hQ⟩:=hr
  wp_walk
  exact hQ
theorem Lc (F:qW B newId AD EN)(cB:bm.contains (.type B)=true)(cA:bm.contains (.type "AttributeError")=false)(cN:bm.contains (.type "NameError")=false){rest:List aB}{fI:Addr}{oI:Obj}{Q:aB->aG->Prop}
  (hC:h.get? C=some (iS nm q C N bs bm hdct sn sub ab col dd k0 k1 k2 k3 k5 newId)) (hi:C4 (aX prog w) h (pT (.ref C) "__init__") (some (.ref fI)))
  (PH:h.get? fI=some oI) (PK:oI.cls=.type "function")
  (hq:∀h' e,h.objs.size<=e->Heap.MadeExcOf h h' e (.ref C) rest->aM (aX prog w) (A.under (.builtin "type.__call__" ⟨.ref C::rest,[]⟩)) (call (.ref fI) (.ref e::rest)) (λr s'=>r=.none/\Q (.ref e) s') E ⟨h',g,d,t,os⟩) (hrest:rest.length<=sizeLine) :
  aM (aX prog w) A (call (.ref C) rest) Q E ⟨h,g,d,t,os⟩:=by
 have f1:=tc_lookup;have f2:=tc_bind (.ref C);have hT:(⟨h,g,d,t,os⟩:aG).TypeIs (.ref C) "type":=⟨_,hC,rfl⟩;refine tJ (wH ?_);show aM _ _ (callAny (.ref C) _) _ _ _
 repeat (any_goals (first
   |assumption
   |with_reducible refine gQ hC ?_
   |wp_step))
 refine⟨rfl,?_⟩;refine codeAny_call_builtin_at (qX _ (by decide +kernel)) entry_typeCall (wpAny_check_type_call_sub hC (Ij (hrest:=hrest) F cB cA cN hC hi PH PK λh' e sz hm=>?_));exact hq h' e sz hm
theorem Oe (F:qW B newId AD EN)(cB:bm.contains (.type B)=true){M:sY}{e:Addr}{oe:Obj}{rest:List aB}{Q:Unit->aG->Prop}{PL:String}
  (hC:h.get? C=some (iS nm q C N bs bm hdct sn sub ab col dd k0 k1 k2 k3 k5 PL)) (he:h.get? e=some oe) (HY:oe.cls=.ref C) (hq:Q () ⟨h,g,d,t,os⟩) :
  aM M A (nC AD ⟨.ref e::rest,[]⟩) Q E ⟨h,g,d,t,os⟩:=by
 have c1:(cE C::bm).contains (.type B)=true:=(by rw[gU,cB,nK]);have c2:=F.noStar;simp only[nC,F.initKind,F.initSplit,F.initRow]
 repeat (first
   | (with_reducible refine gQ he ?_;rw[HY])
   |with_reducible refine gQ hC ?_
   | (with_reducible refine nA hC ?_;rw[c1])
   |wp_step)
 refine sJ ?_;rw[show ∀(a b:String)(n:Nat),Bind.check ⟨.positional,"*",B,.self,[⟨"args",.varPos,false⟩]⟩ a b n (List.map (λx=>x.fst) ({ pos:=.ref e::rest }:Args).kw)=pure ()from λa b n=>check_star_args _ _ _ _ _ _];exact wpAny_pure hq
theorem Ld (F:qW B newId AD EN)(cB:bm.contains (.type B)=true){e t0:Addr}{AC:Option Addr}{rest:List aB}{Q:aB->aG->Prop}{PL:String}
  (hC:h.get? C=some (iS nm q C N bs bm hdct sn sub ab col dd k0 k1 k2 k3 k5 PL)) (he:h.get? e=some { cls:=.ref C,dict:=AC,data:=.fields #[.ref t0,.none,.none,.none,.bool false,.none] }) (hrest:rest.length<=sizeLine)
  (hq:∀h' t1,(∀b o,b≠e->h.get? b=some o->h'.get? b=some o)->h'.get? e=some { cls:=.ref C,dict:=AC,data:=.fields #[.ref t1,.none,.none,.none,.bool false,.none] }->Q .none ⟨h',g,d,t,os⟩) :
  aM (aX prog w) A (call (.builtin AD) (.ref e::rest)) Q E ⟨h,g,d,t,os⟩:=by
 refine tJ (tP F.init.plain F.initEntry (Oe F cB hC he rfl ?_))
 wp_walk
 refine hq _ h.objs.size (λb o hb z=>?_) ?_
 ·rw[jM _ _ (Ne.symm hb)];exact aJ _ z
 ·rw[gY _ (aJ _ he) rfl];rfl
end
open Sem (wp)
open Builtin Builtin.ObjectAttr
section
variable {prog:aP}{w:aW}{A:cQ}{E:aB->aG->Prop}{h:Heap}{g:Array pP}{d:yN}{t:Nat}{os:zB}
variable {nm q:Str}{C N x:Addr}{bs bm EN:List aB}{sn:List Str}{sub:List aB}{ab:Bool}{col:Option Bool}{dd:Option Addr}{k0 k1 k2 k3 k5:Option aB}{B newId sa owner:String}{name:Str}{v:aB}
theorem Sc {o:Obj}{tk:Tok}{Q:Fin->aG->Prop}(pass:∀self:aB,yX self "__setattr__" bm=pure ())
  (hC:h.get? C=some (iS nm q C N bs bm true sn sub ab col dd k0 k1 k2 k3 k5 newId)) (PM:C4 (aX prog w) h (pT (.ref C) name) none)
  (hx:h.get? x=some o) (hc:o.cls=.ref C) (hnc:∀c,o.data≠.cls c) (K':o.dict=none)
  (hq:∀h' t' dx,h.get? dx=none->dx≠x->h.objs.size<=dx->h'.get? x=some { o with dict:=some dx }->h'.Ns1 dx (λy=>if y=name then some v else none)->(∀b u,b≠x->h.get? b=some u->h'.get? b=some u)->Q (.done (.ret .none)) ⟨h',g,d,t',os⟩) :
  aM (aX prog w) A (iW.«object.__setattr__» ⟨[.ref x,.str name tk,v],[]⟩) Q E ⟨h,g,d,t,os⟩:=by
 have ps:=pass (.ref x);have kk:∀b u,h.get? b=some u->h.get? b=some u:=λ_ _ z=>z;unfold iW.«object.__setattr__»
 repeat (first
   |rw[refuse_eq]
   | (rw[wS,ps])
   | (with_reducible refine gQ hx ?_;rw[hc])
   |with_reducible refine wpAny_mroOf_exc hC ?_
   |refine PM _ _ _ _ kk ?_
   |wp_step)
 rw[K',if_neg (by simp[typeHasDict])]
 split
 ·rename_i z
  cases z
 split
 ·rename_i c z
  exact absurd z (hnc c)
 ·have DD:(h.push { cls:=.type "dict",data:=.dict #[] }).get? x=some o:=aJ _ hx;have hs:x≠h.objs.size:=cK (aZ hx);refine aA (wpAny_alloc' (aA (wpAny_update' DD (wpAny_pure ?_))));have gd:((h.push { cls:=.type "dict",data:=.dict #[] }).update x λo=>{ cls:=o.cls,dict:=some h.objs.size,data:=o.data,slots:=o.slots }).get? h.objs.size=some { cls:=.type "dict",data:=.dict #[] }:=
   (tX _ _ _ _ hs.symm).trans (Heap.get?_push_at rfl rfl)
  have nd:((h.push { cls:=.type "dict",data:=.dict #[] }).update x λo=>{ cls:=o.cls,dict:=some h.objs.size,data:=o.data,slots:=o.slots }).Ns h.objs.size (λ_=>none):=⟨_,#[],_,gd,rfl,λe he=>absurd he (by simp),λ_=>rfl⟩;show aM _ _ (storeInDict h.objs.size (.str name tk) name v) _ _ _;unfold storeInDict newKeyGuard;refine aA (wpAny_pure (aA (xK (Heap.Ns1.of_empty nd) λh' HZ sz=>?_)));obtain⟨oD,TF,TH,KO,IC,KP⟩:=HZ.count (Within.cons name v Within.nil);refine aA (vO KO (by rw[IC];exact vP (bQ KP (by rw[cX,qL,gS];lia))) ?_)
  wp_walk
  refine hq h' _ h.objs.size (pO (aN _)) hs.symm (aN _) ?_ HZ λb u hb z=>?_
  ·refine(sz.2 x hs).trans (gY _ DD ?_);have fr:=(Heap.get?_some_iff.mp hx).2;obtain⟨oc,od,odt,EL⟩:=o;cases odt<;>first | rfl | exact fr
  ·exact(sz.2 b (cK (aZ z))).trans ((tX _ _ _ _ hb).trans (aJ _ z))
theorem Of {o:Obj}{tk:Tok}{dx:Addr}{mA:Str->Option aB}{ns:List Str}{Q:Fin->aG->Prop}(pass:∀self:aB,yX self "__setattr__" bm=pure ())
  (hC:h.get? C=some (iS nm q C N bs bm true sn sub ab col dd k0 k1 k2 k3 k5 newId)) (PM:C4 (aX prog w) h (pT (.ref C) name) none)
  (hx:h.get? x=some o) (hc:o.cls=.ref C) (hdx:o.dict=some dx) (NB:h.Ns1 dx mA) (hw:Within mA ns) (hsz:ns.length < sizeLine)
  (hq:∀h' t',h'.Ns1 dx (λy=>if y=name then some v else mA y)->(∀b u,b≠dx->h.get? b=some u->h'.get? b=some u)->Q (.done (.ret .none)) ⟨h',g,d,t',os⟩) :
  aM (aX prog w) A (iW.«object.__setattr__» ⟨[.ref x,.str name tk,v],[]⟩) Q E ⟨h,g,d,t,os⟩:=by
 have ps:=pass (.ref x);have kk:∀b u,h.get? b=some u->h.get? b=some u:=λ_ _ z=>z;unfold iW.«object.__setattr__»
 repeat (first
   |rw[refuse_eq]
   | (rw[wS,ps])
   | (with_reducible refine gQ hx ?_;rw[hc])
   |with_reducible refine wpAny_mroOf_exc hC ?_
   |refine PM _ _ _ _ kk ?_
   |wp_step)
 rw[hdx];refine wpAny_pure ?_;show aM _ _ (storeInDict dx (.str name tk) name v) _ _ _;unfold storeInDict newKeyGuard;refine aA (wpAny_pure (aA (xK NB λh' HZ sz=>?_)));obtain⟨oD,TF,TH,KO,IC,KP⟩:=HZ.count (Within.cons name v hw);refine aA (vO KO (by rw[IC];exact vP (bQ KP (by rw[cX];lia))) ?_)
 wp_walk
 exact hq h' _ HZ λb u hb z=>(sz.2 b hb).trans z
theorem Le {o:Obj}{Q:Unit->aG->Prop}(SF:StoreFacts B EN sa owner)(cO:bm.contains (.type owner)=true)
  (hC:h.get? C=some (iS nm q C N bs bm true sn sub ab col dd k0 k1 k2 k3 k5 newId)) (NE:C4 (aX prog w) h (pT (.ref C) "__setattr__") (some (.builtin sa)))
  (hx:h.get? x=some o) (hc:o.cls=.ref C)
  (hq:∀tk t',aM (aX prog w) A.in1 (iW.«object.__setattr__» ⟨[.ref x,.str name tk,v],[]⟩) (λzL s'=>∃r,zL=.done (.ret r)/\Q () s') (λ_ _=>False) ⟨h,g,d,t',os⟩) :
  aM (aX prog w) A (zA (.ref x) name v) Q E ⟨h,g,d,t,os⟩:=by
 have f3:=SF.slot.bind (.ref x);have c1:(cE C::bm).contains (.type owner)=true:=(by rw[gU,cO,nK]);have kk:∀b o,h.get? b=some o->h.get? b=some o:=λ_ _ z=>z;unfold zA callSpecial? specialOf
 repeat (any_goals (first
   |assumption
   | (with_reducible refine gQ hx ?_;rw[hc])
   |refine NE _ _ _ _ kk ?_
   |wp_step))
 refine tP SF.slot.plain SF.entry ?_;show aM _ _ (nC sa ⟨[.ref x,.str name t,v],[]⟩) _ _ _;have ha:=SF.args (.ref x) (.str name t) v;have go:aM (aX prog w) A.in1 (iW.«object.__setattr__» ⟨[.ref x,.str name t,v],[]⟩) (λzL s'=>match zL with
     | .done f=>(λr s'=>match r with | .ok (.ret v)=>aM (aX prog w) A (pure (some v)) (λa s'=>aM (aX prog w) A (match a with | some val=>pure PUnit.unit | x=>wN "internal:no-__setattr__") Q E s') E s' | .ok a=>False | .error e=>E e s') (Except.ok f) s'
     | .again c'=>c'.quiet=true/\oQ (aX prog w) A c' (λr s'=>match r with | .ok (.ret v)=>aM (aX prog w) A (pure (some v)) (λa s'=>aM (aX prog w) A (match a with | some val=>pure PUnit.unit | x=>wN "internal:no-__setattr__") Q E s') E s' | .ok a=>False | .error e=>E e s') s') (λe s'=>E e s') ⟨h,g,d,t+1,os⟩:=by
  refine iD (hq t (t+1)) (λzL s' z=>?_) λ_ _ z=>z.elim;obtain⟨r,rfl,z⟩:=z;exact wpAny_pure (wpAny_pure z)
 simp only[nC,SF.kind,SF.split];refine aA ?_;unfold vJ
 repeat (first
   | (with_reducible refine gQ hx ?_;rw[hc])
   | (with_reducible refine nA hC ?_;rw[c1])
   |wp_step)
 cases hsig:Manifest.signature? sa with
 |none=>exact wpAny_pure go
 |some TX=>
  simp only[xR,hsig]at ha;have h2:Bind.checkArgs sa TX ⟨[.ref x,.str name t,v],[]⟩=pure ():=ha;show aM _ _ (Bind.checkArgs sa TX ⟨[.ref x,.str name t,v],[]⟩) _ _ _;rw[h2];exact wpAny_pure go
end
open Sem (wp)
section
variable {prog:aP}{w:aW}{A:cQ}{E:aB->aG->Prop}{h:Heap}{g:Array pP}{d:yN}{t:Nat}{os:zB}
variable {nm q:Str}{C N x:Addr}{bs bm EN:List aB}{hdct:Bool}{sn:List Str}{sub:List aB}{ab:Bool}{col:Option Bool}{dd:Option Addr}{k0 k1 k2 k3 k5:Option aB}{B newId:String}{name:Str}{v:aB}
end
open Sem (wp)
section
variable {M:sY}{A:cQ}{E:aB->aG->Prop}{env:Env}{s:aG}
variable {nm q:Str}{C N:Addr}{bs bm:List aB}{hdct:Bool}{sn:List Str}{sub:List aB}{ab:Bool}{col:Option Bool}{dd:Option Addr}{k0 k1 k2 k3 k5:Option aB}{newId:String}
theorem Fy {x:Sem aB}{Q:Flow->aG->Prop}(cB:bm.contains (.type "BaseException")=true)(hh:A.handled=none)
  (h:aM M A x (λv s1=>∃e t0 AC,v=.ref e/\s1.heap.get? C=some (iS nm q C N bs bm hdct sn sub ab col dd k0 k1 k2 k3 k5 newId)/\s1.heap.get? e=some { cls:=.ref C,dict:=AC,data:=.fields #[.ref t0,.none,.none,.none,.bool false,.none] }/\E (.ref e) s1) E s) :
  aM M A (raiseStmt env (some x) none) Q E s:=by
 have c1:(cE C::bm).contains (.type "BaseException")=true:=(by rw[gU,cB,nK]);unfold raiseStmt;refine aA (iD h (λv s1 h1=>?_) λ_ _ z=>z);obtain⟨e,t0,AC,rfl,hC,he,hE⟩:=h1;obtain⟨hp,g,d,tk,os⟩:=s1
 repeat (first
   |with_reducible refine gQ he ?_
   |with_reducible refine gQ hC ?_
   | (with_reducible refine nA hC ?_;rw[c1])
   |wp_step)
 exact wpAny_raiseNew_none hh hE
theorem Ik {e:Expr}{pos:Pos}{Q:Flow->aG->Prop}(cB:bm.contains (.type "BaseException")=true)(hh:A.handled=none)
  (h:aM M A (eval e env) (λv s1=>∃x t0 AC,v=.ref x/\s1.heap.get? C=some (iS nm q C N bs bm hdct sn sub ab col dd k0 k1 k2 k3 k5 newId)/\s1.heap.get? x=some { cls:=.ref C,dict:=AC,data:=.fields #[.ref t0,.none,.none,.none,.bool false,.none] }/\E (.ref x) s1) E s) :
  aM M A (exec (.Raise (some e) none pos) env) Q E s:=by
 rw[arm_exec_Raise]
 first
  |exact aA (nU (Fy cB hh (aA (iD h (λv s3 h3=>aA (nU (wpAny_pure h3))) λ_ _ z=>z))))
  | (simp only[evalOpt,rK];exact aA (nU (Fy cB hh (aA (iD h (λv s3 h3=>aA (nU (wpAny_pure h3))) λ_ _ z=>z)))))
end
open Sem (wp)
section
variable {prog:aP}{w:aW}{A:cQ}{E:aB->aG->Prop}{s:aG}{env:Env}
end
end Fly
namespace L2
open PySem PySem.Spec PyProof.Rows Fly
def fh (e C:Addr)(AC:Option Addr):HO:=.ext λh=>∃t0,h.get? e=some { cls:=.ref C,dict:=AC,data:=.fields #[.ref t0,.none,.none,.none,.bool false,.none] }
section
variable {P:aP}{w:aW}{H H':Hp}{h h':Heap}{e C dx:Addr}{AC:Option Addr}
theorem Aq {t0:Addr}(q:h.get? e=some { cls:=.ref C,dict:=AC,data:=.fields #[.ref t0,.none,.none,.none,.bool false,.none] }):ObjOk P w H h e (fh e C AC):=
 ⟨⟨t0,q⟩,⟨_,q⟩,λ_ _ zF k=>by obtain⟨t,z⟩:=zF;exact⟨t,k _ z⟩⟩
theorem nj (x:HOk P w H h)(q:H e=some (fh e C AC)):∃t0,h.get? e=some { cls:=.ref C,dict:=AC,data:=.fields #[.ref t0,.none,.none,.none,.bool false,.none] }:=(x e _ q).1
end
def del (H:Hp)(e:Addr):Hp:=λb=>if b=e then none else H b
theorem C5 {H:Hp}{e:Addr}:del H e e=none:=if_pos rfl
theorem ju {H:Hp}{e b:Addr}(h:b≠e):del H e b=H b:=if_neg h
def Sub (H H':Hp):Prop:=∀b o,H b=some o->H' b=some o
def CXx (P:aP)(w:aW):CXT:=λouter H s E ev s'=>∃(e C:Addr)(dx:Option Addr) (H':Hp) (B:Heap),ev=.ref e/\s'.os=s.os/\rE s'.gens/\XAt B outer e (.ref C) dx (some .none) s'.heap/\HOk P w H' B/\H' e=none/\
 s.heap.get? e=none/\Un (frs outer) [] H H' s.heap s'.heap/\(∀b o,s.heap.get? b=some o->b ∉ frs outer->∃o',B.get? b=some o'/\(H b=none->o'=o))/\E (.ref C) dx H'
theorem no0 {b:Addr}:b ∉ ([]:List Addr):=by simp
theorem Sd {X:Cx}{f':List (Addr×Obj)}{σ:St}{H H':Hp}{s s':aG}{B h2:Heap}{e C:Addr}{dx:Option Addr}{l:List Env}(I:Inv X f' σ H s)(hex:X.ex=[])(DI:X.stack=X.env::X.outer)(HA:X.env.frame=some X.env.locals)
  (xa:XAt B X.stack e (.ref C) dx (some .none) s'.heap) (x2:XAt B l e (.ref C) dx (some .none) h2) (up:s'.heap.UpToSlots h2) (hn:s.heap.get? e=none)
  (un:Un (frs X.stack) [] H H' s.heap s'.heap) (old:∀b o,s.heap.get? b=some o->b ∉ frs X.stack->∃o',B.get? b=some o'/\(H b=none->o'=o)) :
  X.s₀.heap.get? e=none/\Un (frs X.outer) [] X.H₀ H' X.s₀.heap h2/\(∀b o,X.s₀.heap.get? b=some o->b ∉ frs X.outer->∃o',B.get? b=some o'/\(X.H₀ b=none->o'=o)):=by
 have nx:∀b:Addr,b ∉ X.ex:=λb=>(by rw[hex];exact no0);have JT:frs X.stack=X.env.locals::frs X.outer:=(by rw[DI];show List.filterMap _ (_::_)=_;rw[gZ,HA];rfl);have nl:∀b o,X.s₀.heap.get? b=some o->b≠X.env.locals:=λb o q=>cK (eG (aZ q) I.ok.above);have out:∀b o,X.s₀.heap.get? b=some o->b ∉ frs X.outer->b ∉ frs X.stack:=λb o q hb z=>by
  rw[JT]at z;rcases aU.mp z with z | z
  ·exact nl b o q z
  ·exact hb z
 have ins:∀b,b∈frs X.outer->b∈frs X.stack:=λb hb=>(by rw[JT];exact cC _ hb);have fr:∀b o,b∈frs X.outer->s'.heap.get? b=some o->∃sl,h2.get? b=some { o with slots:=sl }:=λb o hb q=>by
  obtain⟨_,o',q',nf⟩:=xa.frames.mem (ins b hb);rw[q]at q';cases q';exact up b o q nf
 have IM:∀b o,X.s₀.heap.get? b=some o->b ∉ frs X.outer->∃o',B.get? b=some o'/\(X.H₀ b=none->o'=o):=λb o q hb=>by
  obtain⟨o1,q1⟩:=I.base.there b o q (nx b);obtain⟨o2,q2,k2⟩:=old b o1 q1 (out b o q hb);refine⟨o2,q2,λn=>?_⟩;have q3:=I.base.keep b o q n hb (nx b);rw[q1]at q3;cases q3;exact k2 (I.base.free b o q n (nx b))
 refine⟨?_,⟨λb o q n hb _=>?_,λb o q n hb _=>?_,λb o q n _=>?_,λb o q _=>?_,λb xs q=>un.tups b xs (I.base.tups b xs q),λb o u q=>un.frzs b o u (I.base.frzs b o u q),λb ps q=>?_⟩,IM⟩
 ·cases q:X.s₀.heap.get? e with
  |none=>rfl
  |some o=>
   obtain⟨o1,q1⟩:=I.base.there e o q (nx e);rw[hn]at q1;cases q1
 ·obtain⟨o',q',k'⟩:=IM b o q hb;rw[k' n]at q';exact x2.stays b o q'
 ·obtain⟨sl1,q1⟩:=I.base.slot b o q n hb (nx b);obtain⟨JQ,q2⟩:=un.slot b _ q1 (I.base.free b o q n (nx b)) (ins b hb) no0;obtain⟨sl3,q3⟩:=fr b _ hb q2;exact⟨sl3,q3⟩
 ·obtain⟨o1,q1⟩:=I.base.there b o q (nx b);exact un.free b o1 q1 (I.base.free b o q n (nx b)) no0
 ·by_cases hb:b∈frs X.outer
  ·obtain⟨o1,q1⟩:=I.base.there b o q (nx b);obtain⟨o2,q2⟩:=un.there b o1 q1 no0;obtain⟨sl,q3⟩:=fr b o2 hb q2;exact⟨_,q3⟩
  ·obtain⟨o',q',_⟩:=IM b o q hb;exact⟨o',x2.stays b o' q'⟩
 ·obtain⟨m1,q1⟩:=I.base.tbls b ps q;obtain⟨m2,q2⟩:=un.tbls b _ q1;exact⟨m1++m2,by rw[q2,Array.append_assoc]⟩
section
variable {P:aP}{w:aW}{K:aC}{mg:Str->Option aB}{base:Heap}{N:List Str}{zK:Str}{scope:gM}{f:Addr}{cd:aB}{A:cQ}{outer:List Env}{s0:aG}{H0:Hp}{E:XK}
theorem jw:lh (CXx P w) (bb (CXx P w) P w K mg base N zK scope f cd A outer s0 H0 E) E:=by
 intro f' σ H s ev s' I hx;obtain⟨e,C,dx,H',B,rfl,os,bare,xa,hok,he,hn,un,old,hE⟩:=hx;refine Fly.leave (s:=s') I.ok.frames rfl xa (.inr rfl) λh2 x2 up=>?_;obtain⟨z1,z2,z3⟩:=Sd I rfl rfl rfl xa x2 up hn un old;exact⟨e,C,dx,H',B,rfl,os.trans I.os,bare,x2,hok,he,z1,z2,z3,hE⟩
theorem Bp {h b1 b2:Heap}:∀{l:List Env},h.FunFrames b1 l->(∀L∈frs l,b2.get? L=none)->h.FunFrames b2 l
 | [],_,_=>trivial
 |env::l,⟨k,⟨L,o,hf,_,ho,hd⟩,r⟩,n=>by
  have e:frs (env::l)=L::frs l:=(by show List.filterMap _ (_::_)=_;rw[gZ,hf];rfl);rw[e]at n;exact⟨k,⟨L,o,hf,n L (cJ ..),ho,hd⟩,Bp r λL' z=>n L' (cC _ z)⟩
theorem Ux {f':List (Addr×Obj)}{σ:St}{H:Hp}{s:aG}{e C:Addr}{dx:Option Addr}(I:Inv (bb (CXx P w) P w K mg base N zK scope f cd A outer s0 H0 E) f' σ H s)(he:H e=some (fh e C dx))(h0:H0 e=none)
  (hE:E (.ref C) dx (del H e)):(bb (CXx P w) P w K mg base N zK scope f cd A outer s0 H0 E).xe (.ref e) s:=by
 obtain⟨t0,q⟩:=nj I.hok he;have hs:∀o,s0.heap.get? e=some o->False:=λo z=>by
  have:=I.base.free e o z h0 no0;rw[he]at this;cases this
 have TU:s0.heap.get? e=none:=by
  cases z:s0.heap.get? e with
  |none=>rfl
  |some o=>exact(hs o z).elim
 let st:=rZ zK scope s0.heap.objs.size f cd::outer
 let M:Hp:=λb=>if b=e\/b∈frs st then some (.own 0)else none
 have Mn:∀{b},b≠e->b ∉ frs st->M b=none:=λh1 h2=>if_neg λz=>z.elim h1 h2;have Me:M e≠none:=by show(if e=e\/_ then _ else _)≠none;rw[if_pos (.inl rfl)];simp
 have Mf:∀b∈frs st,M b≠none:=λb hb=>by show(if b=e\/b∈frs st then _ else _)≠none;rw[if_pos (.inr hb)];simp
 have LA:∀b,M b≠none->(jb s.heap M).get? b=none:=λb n=>by
  cases z:(jb s.heap M).get? b with
  |none=>rfl
  |some o=>exact absurd (Ah z).2 n
 have stay:(jb s.heap M).StaysIn s.heap:=λb o z=>(Ah z).1;have fr:s.heap.FunFrames (jb s.heap M) st:=Bp I.stack λL hL=>LA L (Mf L hL);have xa:XAt (jb s.heap M) st e (.ref C) dx none s.heap:=⟨stay,LA e Me,fr,_,_,q,rfl,rfl,rfl,(by show 1 < 6;decide),rfl⟩;have trk:∀b o,H b=some o->b ∉ frs st:=λb o z hb=>by
  have:=I.stkFree b hb;rw[z]at this;cases this
 have hok:HOk P w (del H e) (jb s.heap M):=λb o z=>by
  by_cases hb:b=e
  ·subst hb;rw[C5]at z;cases z
  ·rw[ju hb]at z;refine(I.hok b o z).stay (λc u hc y=>wv y ?_) (λc y=>?_) λc xs y=>?_
   ·rcases hc with rfl | hc
    ·exact Mn hb (trk _ _ z)
    ·exact Mn (λw=>by rw[w,he]at hc;cases hc) (trk _ _ hc)
   ·rw[ju λw=>by rw[w,he]at y;cases y];exact y
   ·rw[ju λw=>by rw[w,he]at y;cases y];exact y
 have nb:∀b o,s0.heap.get? b=some o->b≠e:=λb o z w=>hs o (w ▸ z);have nl:∀b o,s0.heap.get? b=some o->b≠s0.heap.objs.size:=λb o z=>cK (aZ z);have JT:frs st=s0.heap.objs.size::frs outer:=rfl;have out:∀b o,s0.heap.get? b=some o->b ∉ frs outer->b ∉ frs st:=λb o z hb y=>by
  rw[JT]at y;rcases aU.mp y with y | y
  ·exact nl b o z y
  ·exact hb y
 have old:∀b o,s0.heap.get? b=some o->b ∉ frs outer->∃o',(jb s.heap M).get? b=some o'/\(H0 b=none->o'=o):=λb o z hb=>by
  obtain⟨o1,z1⟩:=I.base.there b o z no0;refine⟨o1,wv z1 (Mn (nb b o z) (out b o z hb)),λn=>?_⟩;have:=I.base.keep b o z n hb no0;rw[z1]at this;cases this;rfl
 refine Fly.leave (s:=s) I.ok.frames rfl xa (.inl rfl) λh2 x2 up=>?_;refine⟨e,C,dx,del H e,_,rfl,I.os,I.bare,x2,hok,C5,TU,⟨λb o z n hb _=>?_,λb o z n hb _=>?_,λb o z n _=>?_,λb o z _=>?_,λb xs z=>?_,λb o u z=>?_,λb ps z=>?_⟩,old,hE⟩
 ·obtain⟨o',z',k'⟩:=old b o z hb;rw[k' n]at z';exact x2.stays b o z'
 ·obtain⟨sl,z1⟩:=I.base.slot b o z n hb no0;obtain⟨_,o',z',nf⟩:=fr.mem (b:=b) (by show b∈frs st;rw[JT];exact cC _ hb);rw[z1]at z';cases z';obtain⟨JQ,z2⟩:=up b _ z1 nf;exact⟨JQ,z2⟩
 ·rw[ju (nb b o z)];exact I.base.free b o z n no0
 ·by_cases hb:b∈frs outer
  ·obtain⟨o1,z1⟩:=I.base.there b o z no0;obtain⟨_,o',z',nf⟩:=fr.mem (b:=b) (by show b∈frs st;rw[JT];exact cC _ hb);rw[z1]at z';cases z';obtain⟨JQ,z2⟩:=up b _ z1 nf;exact⟨_,z2⟩
  ·obtain⟨o',z',_⟩:=old b o z hb;exact⟨o',x2.stays b o' z'⟩
 ·have z1:=I.base.tups b xs z;rw[ju λw=>by rw[w,he]at z1;cases z1];exact z1
 ·have z1:=I.base.frzs b o u z;rw[ju λw=>by rw[w,he]at z1;cases z1];exact z1
 ·obtain⟨m,z1⟩:=I.base.tbls b ps z;exact⟨m,by rw[ju λw=>by rw[w,he]at z1;cases z1];exact z1⟩
end
theorem Uy {H:Hp}{a:Addr}{o:HO}(h:H a=some o):upd H a o=H:=by
 funext b;unfold upd;split
 ·rename_i q;rw[q,h]
 ·rfl
abbrev bmV:List aB:=[.type "ValueError",.type "Exception",.type "BaseException",.type "object"]
structure Il (bm:List aB):Prop where
 hV:bm.contains (.type "ValueError")=true
 hA:bm.contains (.type "AttributeError")=false
 hN:bm.contains (.type "NameError")=false
 hB:bm.contains (.type "BaseException")=true
 hO:bm.contains (.type "object")=true
 pass:∀self:aB,yX self "__setattr__" bm=pure ()
theorem p9:Il bmV:=⟨by decide,by decide,by decide,by decide,by decide,PySem.F.store_ValueError.passes⟩
theorem yr (c:Addr):Il (.ref c::bmV):=⟨by rw[gU,p9.hV,nK],by rw[gU,p9.hA];rfl,by rw[gU,p9.hN];rfl,by rw[gU,p9.hB,nK],by rw[gU,p9.hO,nK],λself=>by rw[wS];exact p9.pass self⟩
structure j4 (K:aC)(C:Addr):Prop where
 obj:∃nm q N bs bm sn sub ab col dd k0 k1 k2 k3 k5,K.lookup C=some (iS nm q C N bs bm true sn sub ab col dd k0 k1 k2 k3 k5 "ValueError.__new__")/\Il bm
 sa:cH K (.ref C) "__setattr__"=some (some (.builtin "object.__setattr__"))
 ga:cH K (.ref C) "__getattribute__"=some (some (.builtin "BaseException.__getattribute__"))
 gt:cH K (.ref C) "__getattr__"=some none
 kp:aV K (.ref C)=true
section
variable {X:Cx}{f':List (Addr×Obj)}{σ:St}{H:Hp}{s:aG}{e C:Addr}{AC:Option Addr}
theorem Inv.xsame {h':Heap}{t1:Addr}(I:Inv X f' σ H s)(he:H e=some (fh e C AC))(kp:∀b o,b≠e->s.heap.get? b=some o->h'.get? b=some o)
  (hq:h'.get? e=some { cls:=.ref C,dict:=AC,data:=.fields #[.ref t1,.none,.none,.none,.bool false,.none] }) {t':Nat}:Inv X f' σ H { s with heap:=h',toks:=t' }:=by
 have:=I.write (x:=e) (e:=e) (o:=fh e C AC) (t':=t') (h':=h') (by rw[he];exact kQ) (.inl rfl) kp ⟨_,hq⟩ (Aq hq)
 rwa [Uy he]at this
theorem ql {x:Str}{SW:Addr}{a:Expr}{es:List Expr}{t:TA}{p ap pos:Pos}{pl:Sem Bool}(hg:Gl X x)(hm:X.mg x=some (.ref SW))(hga:nY X.K (.ref SW) "__getattribute__"=some (some (.builtin "type.__getattribute__")))
  (hr:qM X.K SW (.type "type")=true) (hf:qN X.K (.ref SW) (.type "type") "__init__"=some (.val (.builtin "ValueError.__init__"))) (ha:PA X (a::es) t)
  (BU:(x == ("__debug__":Str))=false:=by decide) (he:cW (a::es) X.env=(false,eval a X.env)::cW es X.env:=by rfl) (AL:(jJ pos (cW es X.env)).any (·.1)=false:=by rfl)
  (ht:eval (.Call (.Attribute (.Name x p) "__init__" ap) (a::es) [] pos) X.env=(do
    let ov <-eval (.Name x p) X.env
    vK ap.atName
    let (f,first) <-rF [ov] (wC ov "__init__" pl)
    callWith pos f first (jJ pos (cW (a::es) X.env)) (vR pos (rY [] X.env))):=by rfl) :
  PE X (.Call (.Attribute (.Name x p) "__init__" ap) (a::es) [] pos) (λσ H Q=>t σ H λvs H1=>∃e C AC y,vs=[.ref e,y]/\H1 e=some (fh e C AC)/\j4 X.K C/\Q .non H1):=by
 intro f' s σ H Q I h;refine sR (pl:=pl) (m8 I hg hm ?_ BU) ht;refine PySem.W.method_cls I.kIn hga (PySem.W.cls_value I.kIn hr hf (by decide +kernel) ?_);refine callWith_builtin1 (thn (ha pos f' _ σ H _ (I.tok (s.toks+1)) h) λus s1 zF=>?_) he AL;obtain⟨vs,H1,I1,r1,e,C,AC,y,ev,q1,c,q2⟩:=zF;subst ev;obtain⟨u1,u2,rfl,r2,r3⟩:=yj r1;obtain rfl:u1=cE e:=r2;obtain⟨nm,q,N,bs,bm,sn,sub,ab,col,dd,k0,k1,k2,k3,k5,lk,T⟩:=c.obj;have hC:=I1.kIn _ _ lk;obtain⟨t0,hq⟩:=nj I1.hok q1;obtain⟨hh,g,d,tk,os⟩:=s1;refine Ld PySem.F.excBase_ValueError T.hV hC hq sz1 λh' t1 kp HB=>⟨.non,H1,I1.xsame q1 kp HB,rfl,q2⟩
theorem vh {o value:Expr}{f:Str}{pos AQ:Pos}{ta tv:TE}(ha:PE X o ta)(hv:PE X value tv)(hs:uP value (some (.Attribute o f AQ)) pos.line X.env=pure false) :
  PS X (.Assign [.Attribute o f AQ] value pos) (λD σ H=>tv σ H λy H1=>ta σ H1 λx H2=>∃e C,x=.ref e/\j4 X.K C/\NoAttr X.K C f/\((H2 e=some (fh e C none)/\∀dx,H2 dx=none->dx≠e->D.nx σ (upd (upd H2 dx (.xd [(f,y)])) e (fh e C (some dx))))\/(∃dx fs,H2 e=some (fh e C (some dx))/\H2 dx=some (.xd fs)/\fs.length < 1000/\D.nx σ (upd H2 dx (.xd (gz f y fs)))))):=by
 intro f' s σ H D I h;refine plainObj_wpAny_Assign_Attribute (thn (hv f' s σ H _ I h) λu s1 zF=>?_) hs;obtain⟨y,H1,I1,ry,q⟩:=zF;refine thn (ha f' s1 σ H1 _ I1 q) λov s2 zF=>?_;obtain⟨x,H2,I2,rx,e,C,ex,c,n,q2⟩:=zF;subst ex;obtain rfl:ov=cE e:=rx;obtain⟨nm,q,N,bs,bm,sn,sub,ab,col,dd,k0,k1,k2,k3,k5,lk,T⟩:=c.obj;have hC:=I2.kIn _ _ lk;have TY:=pS (M:=aX X.prog X.w) I2.kIn c.sa;have TZ:=pS (M:=aX X.prog X.w) I2.kIn n;rcases q2 with⟨h1,q2⟩ | ⟨dx,fs,h1,h2,hl,q2⟩
 ·obtain⟨t0,hq⟩:=nj I2.hok h1;obtain⟨hh,g,d,tk,os⟩:=s2;refine Le PySem.F.store_ValueError T.hO hC TY hq rfl λIN t'=>?_;refine Sc T.pass hC TZ hq rfl (λc z=>by cases z) rfl λh' t2 dx nd ne sz hx ns kp=>⟨_,rfl,σ,_,?_,q2 dx (I2.hok.fresh sz) ne⟩;have EA:H2 dx=none:=I2.hok.fresh sz;have une:∀b u,hh.get? b=some u->b≠dx:=λb u z w=>(by rw[w,nd]at z;cases z);have LB:∀b u,H2 b=some u->u≠fh e C none->b≠e:=λb u z w y=>(by rw[y,h1]at z;exact w (eA z).symm);have LC:∀b,b≠e->b≠dx->upd (upd H2 dx (.xd [(f,y)])) e (fh e C (some dx)) b=H2 b:=λb w z=>(by rw[ai w,ai z]);have zT:∀b u,H2 b=some u->u≠fh e C none->upd (upd H2 dx (.xd [(f,y)])) e (fh e C (some dx)) b=some u:=λb u z w=>by
   rw[LC b (LB b u z w) (am z EA)];exact z
  refine I2.un (t':=t2) (h':=h') ⟨λb u z m _ _=>kp b u (λw=>by rw[w,h1]at m;cases m) z,λb u z m _ _=>⟨u.slots,kp b u (λw=>by rw[w,h1]at m;cases m) z⟩,λb u z m _=>by rw[LC b (λw=>by rw[w,h1]at m;cases m) (une b u z)];exact m,λb u z _=>?_,λb xs z=>zT b _ z (by intro w;cases w),λb u v z=>zT b _ z (by intro w;cases w),λb ps z=>⟨#[],by rw[zT b _ z (by intro w;cases w)];simp⟩⟩ λb u z=>?_
  ·by_cases w:b=e
   ·rw[w];exact⟨_,hx⟩
   ·exact⟨u,kp b u w z⟩
  ·by_cases w:b=e
   ·subst w;rw[ac]at z;cases z;exact Aq hx
   ·rw[ai w]at z;by_cases w2:b=dx
    ·subst w2;rw[ac]at z;cases z;refine⟨_,ns,λy'=>?_⟩;show RelO (nG y' [(f,y)]) (if y'=f then some u else none)
     by_cases w3:y'=f
     ·rw[if_pos w3,w3];simp[nG];exact ry
     ·rw[if_neg w3];have:nG y' [(f,y)]=none:=by
       show(match y' == f with | true=>some y | false=>none)=none
       rw[beq_eq_false_iff_ne.mpr w3]
      rw[this];trivial
    ·rw[ai w2]at z;refine(I2.hok b u z).stay (λc v hc z2=>kp c v ?_ z2) (λc z2=>zT c _ z2 (by intro w;cases w)) λc xs z2=>zT c _ z2 (by intro w;cases w);rcases hc with rfl | hc
     ·exact w
     ·exact LB c _ hc (by intro w;cases w)
 ·obtain⟨t0,hq⟩:=nj I2.hok h1;obtain⟨mA,ns,BQ⟩:=(show ObjOk X.prog X.w H2 s2.heap dx (.xd fs)from I2.hok dx _ h2);obtain⟨hh,g,d,tk,os⟩:=s2;have wi:Within mA (fs.map (·.1)):=λy' hy=>by
   cases w:fs.lookup y' with
   |none=>
    have:=BQ y';rw[w]at this;cases w2:mA y' with
    |none=>exact absurd w2 hy
    |some v=>rw[w2]at this;exact this.elim
   |some v=>exact List.mem_map.mpr ⟨(y',v),mX w,rfl⟩
  refine Le PySem.F.store_ValueError T.hO hC TY hq rfl λIN t'=>?_;refine Of T.pass hC TZ hq rfl rfl ns wi (by rw[aI,gS];lia) λh' t2 T' kp=>⟨_,rfl,σ,_,?_,q2⟩;have hd:∃o,h'.get? dx=some o:=let ⟨o,_,_,z,_⟩:=T';⟨o,z⟩;have LB:∀b u,H2 b=some u->u≠HO.xd fs->b≠dx:=λb u z w y=>(by rw[y,h2]at z;exact w (eA z).symm);have zT:∀b u,H2 b=some u->u≠HO.xd fs->upd H2 dx (.xd (gz f y fs)) b=some u:=λb u z w=>(by rw[ai (LB b u z w)];exact z);have nd:∀b,H2 b=none->b≠dx:=λb m w=>(by rw[w,h2]at m;cases m);refine I2.un (t':=t2) (h':=h') ⟨λb u z m _ _=>kp b u (nd b m) z,λb u z m _ _=>⟨u.slots,kp b u (nd b m) z⟩,λb u z m _=>by rw[ai (nd b m)];exact m,λb u z _=>?_,λb xs z=>zT b _ z (by intro w;cases w),λb u v z=>zT b _ z (by intro w;cases w),λb ps z=>⟨#[],by rw[zT b _ z (by intro w;cases w)];simp⟩⟩ λb v z=>?_
  ·by_cases w:b=dx
   ·rw[w];exact hd
   ·exact⟨u,kp b u w z⟩
  ·by_cases w:b=dx
   ·subst w;rw[ac]at z;cases z;refine⟨_,T',λy'=>?_⟩;show RelO ((gz f y fs).lookup y') (if y'=f then some u else mA y')
    rw[oq];by_cases w:y'=f
    ·rw[if_pos w,if_pos w];exact ry
    ·rw[if_neg w,if_neg w];exact BQ y'
   ·rw[ai w]at z;refine(I2.hok b v z).stay (λc v' hc z2=>kp c v' ?_ z2) (λc z2=>zT c _ z2 (by intro w;cases w)) λc xs z2=>zT c _ z2 (by intro w;cases w);rcases hc with rfl | hc
    ·exact w
    ·exact LB c _ hc (by intro w;cases w)
end
section
variable {X:Cx}{x:Str}{C fI:Addr}{k:Nat}{fd:bX}{ps:List Str}{sp:Sp}{a:Expr}{es:List Expr}{t:TA}{p pos:Pos}
theorem qo (c:j4 X.K C)(hi:cH X.K (.ref C) "__init__"=some (some (.ref fI)))(lf:∃oI,X.K.lookup fI=some oI/\oI.cls=.type "function")(F:FnOk X.prog X.w X.K X.mg X.base CX0 k fI fd ps sp)(hr:Room (k+1) X.A)
  (hg:Gl X x) (hm:X.mg x=some (.ref C)) (hb:Binds X.K fd ps []) (ha:PA X (a::es) t) (BU:(x == ("__debug__":Str))=false:=by decide)
  (he:cW (a::es) X.env=(false,eval a X.env)::cW es X.env:=by rfl) (AL:(jJ pos (cW es X.env)).any (·.1)=false:=by rfl) :
  PE X (.Call (.Name x p) (a::es) [] pos) (λσ H Q=>t σ H λvs H1=>vs.length<=100/\∀e,H1 e=none->sp (.ref e::vs) (upd H1 e (fh e C none)) (λv H2=>v=.non/\Q (.ref e) H2) E0):=by
 intro f' s σ H Q I h;refine jW (m8 I hg hm ?_ BU);refine oW (h₀:=X.base) I.ok.mod.kin c.kp (thn (ha pos f' s σ H _ I h) λus s1 zF=>?_) he AL;obtain⟨vs,H1,I1,r,hl,q⟩:=zF;refine⟨I1.kIn,?_⟩;show aM _ _ (call (.ref C) us) _ _ _;obtain⟨nm,qn,N,bs,bm,sn,sub,ab,col,dd,k0,k1,k2,k3,k5,lk,T⟩:=c.obj;obtain⟨oI,lI,cI⟩:=lf;have hC:=I1.kIn _ _ lk;have hI:=I1.kIn _ _ lI;have li:=pS (M:=aX X.prog X.w) I1.kIn hi;have hz:us.length<=sizeLine:=(by rw[<-r.length,gS];lia);obtain⟨hh,g,d,tk,os⟩:=s1;refine Lc PySem.F.excBase_ValueError T.hV T.hA T.hN hC li hI cI (λh' e sz me=>?_) hz;obtain⟨t0,FD,_⟩:=me.there;have fr:H1 e=none:=I1.hok.fresh sz;have I2:Inv X f' σ (upd H1 e (fh e C none)) ⟨h',g,d,tk,os⟩:=I1.laid (t':=tk) (h':=h') me.keeps sz (Aq FD);have hq:=q e fr;have r2:Vals (V.ref e::vs) (cE e::us):=.cons rfl r;have zW:(cE e::us++[]).length=ps.length:=by
  have z:=r2.length;rw[F.len _ _ _ _ hq]at z;rw[lB];exact z.symm
 have bd:=hb _ (cE e::us) I2.kIn zW;rw[lB]at bd;refine tJ (nJ (F.run _ X.stack _ _ ⟨cE e::us,[]⟩ (cE e::us) _ _ E0 (hr.make C us []) (I2.env0.make C us []) bd r2 hq) λr s' CJ=>?_);cases r with
 |error e=>exact iO CJ
 |ok fl=>
  cases fl with
  |ret u=>
   obtain⟨v,H',I3,rv,ev,q3⟩:=I2.after CJ;subst ev;exact⟨rv,⟨V.ref e,H',I3,rfl,q3⟩⟩
  |next=>exact iO CJ
  |brk=>exact iO CJ
  |cont=>exact iO CJ
theorem yt {M:sY}{A:cQ}{E:aB->aG->Prop}{Q Q':Str->aG->Prop}(hQ:∀o s,Q o s->Q' o s):∀(parts:List (Sem aB))(zN:Str) (s:aG),Joins M A E parts zN Q s->Joins M A E parts zN Q' s
 | [],_,_,h=>hQ _ _ h
 |_::rest,_,_,h=>iD h (λ_ s1 ⟨y,t,e,l,r⟩=>⟨y,t,e,l,yt hQ rest _ s1 r⟩) λ_ _ z=>z
def qa:V->Prop
 | .int i=>i.natAbs.log2 < 1000
 | .str x=>(uG x).length<=2000
 |_=>False
def PJ (X:Cx)(es:List Expr)(t:St->Hp->(Hp->Prop)->Prop):Prop:=
 ∀(f':List (Addr×Obj))(s:aG) (σ:St) (H:Hp) (zN:Str) (R:Hp->Prop),Inv X f' σ H s->zN.length+3000 * es.length<=1000000->t σ H R->
  Joins (aX X.prog X.w) X.A X.xe (vY es X.env) zN (λout s1=>out.length<=sizeLine/\∃H',Inv X f' σ H' s1/\R H') s
theorem Lf:PJ X [] (λ_ H R=>R H):=λ_ s _ H zN R I hl h=>⟨by rw[gS];simp at hl;lia,H,I,h⟩
theorem C6 {z:Str}{j:Nat}{q:Pos}{t:St->Hp->(Hp->Prop)->Prop}(hz:z.length<=2000)(hr:PJ X es t)(hs:vY (.Constant (.str z) j q::es) X.env=eval (.Constant (.str z) j q) X.env::vY es X.env:=by rfl):PJ X (.Constant (.str z) j q::es) t:=by
 intro f' s σ H zN R I hl h;rw[hs];have KL:zN.length+3000 * (es.length+1)<=1000000:=hl;have e1:(zN++z).length=zN.length+z.length:=xE zN z;refine Calls.Constant_str ⟨z,_,rfl,by rw[e1,gS];lia,hr f' _ σ H (zN++z) R (I.tok _) (by rw[e1];lia) h⟩
theorem Fz {v:Expr}{tv:TE}{q:Pos}{t:St->Hp->(Hp->Prop)->Prop}(hv:PE X v tv)(hr:PJ X es t)(hs:vY (.FormattedValue v 114 none q::es) X.env=eval (.FormattedValue v 114 none q) X.env::vY es X.env:=by rfl) :
  PJ X (.FormattedValue v 114 none q::es) (λσ H R=>tv σ H λy H1=>qa y/\t σ H1 R):=by
 intro f' s σ H zN R I hl h;rw[hs];have KL:zN.length+3000 * (es.length+1)<=1000000:=hl;have zL:∀(z:Str)(H1:Hp) (s1:aG) (tk:Tok),Inv X f' σ H1 s1->z.length<=2000->t σ H1 R->
   aM (aX X.prog X.w) X.A (formatField (.str z tk) xM) (λw s2=>∃y t',w=.str y t'/\(zN++y).length<=sizeLine/\Joins (aX X.prog X.w) X.A X.xe (vY es X.env) (zN++y) (λout s1=>out.length<=sizeLine/\∃H',Inv X f' σ H' s1/\R H') s2) X.xe s1:=by
  intro z H1 s1 tk I1 hz h1;have e1:(zN++z).length=zN.length+z.length:=xE zN z;have UA:(zN++z).length<=sizeLine:=(by rw[e1,gS];lia);refine wpAny_formatField_str ⟨z,_,rfl,UA,hr f' _ σ H1 (zN++z) R I1 (by rw[e1];lia) h1⟩ ⟨z,_,rfl,UA,hr f' _ σ H1 (zN++z) R (I1.tok _) (by rw[e1];lia) h1⟩ (by rw[gS];lia)
 refine wpAny_FormattedValue_repr (thn (hv f' s σ H _ I h) λu s1 zF=>?_);obtain⟨y,H1,I1,ry,rk,h1⟩:=zF;cases y with
 |int i=>
  obtain⟨tk,rfl⟩:=(show ∃t,u=nI i t from ry);have rk:i.natAbs.log2 < 1000:=rk;have len:(iC (toString i)).length<=2000:=by
   rw[PySem.ofString_length];have:=int_text_length_le (k:=1000) (by decide) rk;lia
  refine wpAny_pyReprObj_gives (T:="int") (vI _ i tk) PySem.F.slot_int_repr PySem.F.entry_int_repr (by unfold xR;kernel_rfl) (gives_int_repr i tk (by lia)) ?_ rfl (by rw[gS];lia);exact zL _ H1 _ _ (I1.tok _) len h1
 |str z=>
  obtain⟨tk,rfl⟩:=(show ∃t,u=uO z t from ry);have rk:(uG z).length<=2000:=rk;exact wpAny_pyReprObj_str (zL _ H1 _ _ (I1.tok _) rk h1) (by rw[gS];lia)
 |_=>exact iO rk
theorem F0 {v1 v2:Expr}{rest:List Expr}{t:St->Hp->(Hp->Prop)->Prop}(h:PJ X (v1::v2::rest) t)(hl:rest.length<=100):PE X (.JoinedStr (v1::v2::rest) pos) (λσ H Q=>t σ H λH1=>∀z:Str,Q (.str z) H1):=by
 intro f' s σ H Q I q;refine wpAny_JoinedStr ?_;have e0:Str.empty.length=0:=rfl;have:=h f' s σ H xM _ I (by rw[e0];show 0+3000 * (rest.length+1+1)<=_;lia) q;exact yt (λout s1 zF=>by obtain⟨z,H',I',q'⟩:=zF;exact⟨z,.str out,H',I'.tok _,⟨_,rfl⟩,q' out⟩) _ _ _ this
end
section
variable {P:aP}{w:aW}{K:aC}{mg:Str->Option aB}{base:Heap}{N:List Str}{zK:Str}{scope:gM}{f:Addr}{cd:aB}{A:cQ}{outer:List Env}{s0:aG}{H0:Hp}{E:XK}{C:Addr}{ex:Expr}{te:TE}{pos:Pos}
theorem qp (c:j4 K C)(he:PE (bb (CXx P w) P w K mg base N zK scope f cd A outer s0 H0 E) ex te) :
  PS (bb (CXx P w) P w K mg base N zK scope f cd A outer s0 H0 E) (.Raise (some ex) none pos) (λ_ σ H=>te σ H λx H1=>∃e dx,x=.ref e/\H1 e=some (fh e C dx)/\H0 e=none/\E (.ref C) dx (del H1 e)):=by
 intro f' s σ H D I h;obtain⟨nm,qn,Nn,bs,bm,sn,sub,ab,col,dd,k0,k1,k2,k3,k5,lk,T⟩:=c.obj;refine Ik (C:=C) (nm:=nm) (q:=qn) (N:=Nn) (bs:=bs) (bm:=bm) (hdct:=true) (sn:=sn) (sub:=sub) (ab:=ab) (col:=col) (dd:=dd) (k0:=k0) (k1:=k1) (k2:=k2) (k3:=k3) (k5:=k5) (newId:="ValueError.__new__") T.hB (I.ok.hd rfl) (thn (he f' s σ H _ I h) λu s1 zF=>?_);obtain⟨x,H1,I1,rx,e,dx,ex,h1,h0,hE⟩:=zF;subst ex;obtain rfl:u=cE e:=rx;obtain⟨t0,q⟩:=nj I1.hok h1;exact⟨e,t0,_,rfl,I1.kIn _ _ lk,q,Ux I1 h1 h0 hE⟩
end
end L2
namespace Fly
open PySem
open Sem (wp)
section
variable {prog:aP}{w:aW}{A:cQ}{E:aB->aG->Prop}{h:Heap}{g:Array pP}{d:yN}{t:Nat}{os:zB}
variable {nm q:Str}{C N x:Addr}{bs bm EN:List aB}{hdct:Bool}{sn:List Str}{sub:List aB}{ab:Bool}{col:Option Bool}{dd:Option Addr}{k0 k1 k2 k3 k5:Option aB}{B newId:String}{o:Obj}
end
end Fly
namespace L2
open PySem PySem.Spec PyProof.Rows Fly
section
variable {X:Cx}{f':List (Addr×Obj)}{σ:St}{H H':Hp}{s s':aG}{e C:Addr}{dx:Option Addr}{B h2:Heap}
end
section
variable {X:Cx}{x c n y:Str}{f SW:Addr}{fd:bX}{k i j:Nat}{ps:List Str}{sp:Sp}{a:Expr}{es:List Expr}{t:TA}{p pos pe pc py pn pa ph tp:Pos}
end
section
variable {X:Cx}
end
open Sem (wp)
open AutoSeq1 (wpAny_loadPart')
theorem Fd (l:Addr)(items:Array aB) :
  Meets (iW.«enumerate.__new__» ⟨[.type "enumerate",.ref l],[]⟩) (λ_ R s=>s.heap.IsTuple l items/\R (.ok (.ret (.ref (s.heap.push { cls:=.type "tuple_iterator",data:=.fields #[.ref l,.int 0 0] }).objs.size))) { s with heap:=(s.heap.push { cls:=.type "tuple_iterator",data:=.fields #[.ref l,.int 0 0] }).push { cls:=.type "enumerate",data:=.fields #[.none,.bool false,.ref s.heap.objs.size,jF 0,.none,.none] } }):=
 .of_wp λprog w A R s h=>by
  obtain⟨hp,g,d,tk,os⟩:=s;obtain⟨hL,h⟩:=h;have BB:=sub_enumerate;have FE:Heap.IsTuple (wO ⟨hp,g,d,tk,os⟩) l items:=hL
  wp_walk using oU FE
  refine wpAny_stack_any λst=>wpAny_pure ?_
  split
  ·rename_i c _ _ _ _ _
   cases(c == rC "enumerate")
   ·wp_walk using oU FE
    exact⟨_,rfl,h⟩
   ·wp_walk using oU FE
    exact⟨_,rfl,h⟩
  ·wp_walk using oU FE
   exact⟨_,rfl,h⟩
section
variable {prog:aP}{w:aW}{A:cQ}{E:aB->aG->Prop}{s:aG}
theorem Im {l:Addr}{items:Array aB}{Q:aB->aG->Prop}(hL:s.heap.IsTuple l items)
  (h:∀h',lG h' (s.heap.objs.size+1) s.heap.objs.size 0 .none->h'.IsTupleIter s.heap.objs.size l 0->h'.objs.size=s.heap.objs.size+2->(∀b o,s.heap.get? b=some o->h'.get? b=some o)->Q (.ref (s.heap.objs.size+1)) { s with heap:=h' }) :
  aM (aX prog w) A (call (.type "enumerate") [.ref l]) Q E s:=by
 refine xS F.called_enumerate (by decide) (F.typeCall_enumerate_1 _) (F.newCall_enumerate_1 _) (λobj=>F.args_object_init_2 obj _) F.entry_enumerate_new (Fd l items) ⟨hL,?_⟩;have hz:(s.heap.push { cls:=.type "tuple_iterator",data:=.fields #[.ref l,.int 0 0] }).objs.size=s.heap.objs.size+1:=gK ..;show _/\_;rw[hz];have he:lG ((s.heap.push { cls:=.type "tuple_iterator",data:=.fields #[.ref l,.int 0 0] }).push { cls:=.type "enumerate",data:=.fields #[.none,.bool false,.ref s.heap.objs.size,jF 0,.none,.none] }) (s.heap.objs.size+1) s.heap.objs.size 0 .none:=by
  have z:=bV (s.heap.push { cls:=.type "tuple_iterator",data:=.fields #[.ref l,.int 0 0] }) (o:={ cls:=.type "enumerate",data:=.fields #[.none,.bool false,.ref s.heap.objs.size,jF 0,.none,.none] }) rfl;rw[hz]at z;exact z
 exact⟨⟨_,he,rfl⟩,h _ he ⟨_,aJ _ (bV _ rfl),rfl,rfl⟩ (by rw[gK,hz]) λb o x=>aJ _ (aJ _ x)⟩
theorem Io {e it l:Addr}{i:Nat}{items:Array aB}{x old:aB}{Q:aB->aG->Prop}(he:lG s.heap e it i old)(BY:s.heap.IsTupleIter it l i)(hl:s.heap.IsTuple l items)(hx:items[i]?=some x)(zO:e≠it)
  (hQ:∀h',qY h' e it ((i:Int)+1) x s.heap.objs.size->h'.IsTupleIter it l (i+1)->h'.get? s.heap.objs.size=some { cls:=.type "tuple",data:=.seq #[.int i s.toks,x] }->h'.objs.size=s.heap.objs.size+1->(∀b o,b≠e->b≠it->s.heap.get? b=some o->h'.get? b=some o)->Q (.ref s.heap.objs.size) { s with heap:=h',toks:=s.toks+1 }) :
  aM (aX prog w) A (iW.«enumerate.__next__» ⟨[.ref e],[]⟩) (λzL s'=>∃v,zL=.done (.ret v)/\Q v s') E s:=by
 obtain⟨hp,g,d,tk,os⟩:=s;show aM _ _ (field (.ref e) 2 >>= _) _ _ _;refine aA (eI he rfl (x:=.ref it) rfl ?_);refine aA (Wp BY hl hx λh1 i1 s1=>?_)
 replace s1:gG it hp h1:=s1
 have e1:lG h1 e it i old:=(s1.2 e zO).trans he;show aM _ _ (field (.ref e) 3 >>= _) _ _ ⟨h1,g,d,tk,os⟩;refine aA (eI e1 rfl (x:=jF i) rfl ?_);show aM _ _ (field (.ref e) 4 >>= _) _ _ ⟨h1,g,d,tk,os⟩;refine aA (eI e1 rfl (x:=.none) rfl ?_);show aM _ _ (mkInt i >>= _) _ _ ⟨h1,g,d,tk,os⟩;refine aA (wpAny_mkInt ?_);show aM _ _ (wZ (.ref e) 3 (jF ((i:Int)+1)) >>= _) _ _ ⟨h1,g,d,tk+1,os⟩;refine aA (fX e1 (by simp) λh2 e2 s2=>?_)
 replace s2:gG e h1 h2:=s2
 replace e2:lG h2 e it ((i:Int)+1) old:=e2
 show aM _ _ (wZ (.ref e) 4 .none >>= _) _ _ ⟨h2,g,d,tk+1,os⟩;refine aA (fX e2 (by simp) λh3 e3 s3=>?_)
 replace s3:gG e h2 h3:=s3
 replace e3:lG h3 e it ((i:Int)+1) old:=e3
 show aM _ _ (yK [.int i tk,x] >>= _) _ _ ⟨h3,g,d,tk+1,os⟩;refine aA (uH ?_);have e4:lG (h3.push { cls:=.type "tuple",data:=.seq #[.int i tk,x] }) e it ((i:Int)+1) old:=aJ _ e3;generalize EB:h3.push { cls:=.type "tuple",data:=.seq #[.int i tk,x] }=h4 at e4;have hsz:h3.objs.size=hp.objs.size:=(by rw[s3.1,s2.1,s1.1]);have IO:e < hp.objs.size:=aZ he;have t4:h4.get? hp.objs.size=some { cls:=.type "tuple",data:=.seq #[.int i tk,x] }:=(by rw[<-EB,<-hsz];exact bV _ rfl);have z4:h4.objs.size=hp.objs.size+1:=(by rw[<-EB,gK,hsz]);have k4:∀b o,b≠e->b≠it->hp.get? b=some o->h4.get? b=some o:=λb o AY HC hb=>by
  rw[<-EB];exact aJ _ (s3.extBut b o AY (s2.extBut b o AY (s1.extBut b o HC hb)))
 have i4:h4.IsTupleIter it l (i+1):=by
  rw[<-EB];obtain⟨o,ho,r⟩:=(i1.extBut s2.extBut (Ne.symm zO)).extBut s3.extBut (Ne.symm zO);exact⟨o,aJ _ ho,r⟩
 show aM _ _ (gB (.ref e) >>= _) _ _ ⟨h4,g,d,tk+1,os⟩;rw[hsz];clear EB e3 s3 e2 s2 e1 s1 i1 hsz h3 h2 h1;refine aA ?_;unfold gB;refine aA (eI e4 rfl (x:=.none) rfl (wpAny_pure ?_));simp only[if_true];refine aA (rJ ?_);refine aA (eI e4 rfl (x:=old) rfl ?_);refine aA (fX e4 (by simp) λh5 e5 s5=>?_)
 replace s5:gG e h4 h5:=s5
 replace e5:lG h5 e it ((i:Int)+1) x:=e5
 show aM _ _ (gX (.ref e) (.ref hp.objs.size) >>= _) _ _ ⟨h5,g,d,tk+1,os⟩;refine aA ?_;unfold gX;refine aA (fX e5 (by simp) λh6 e6 s6=>?_)
 replace s6:gG e h5 h6:=s6
 replace e6:qY h6 e it ((i:Int)+1) x hp.objs.size:=e6
 refine fX e6 (by simp) λh7 e7 s7=>?_
 replace s7:gG e h6 h7:=s7
 replace e7:qY h7 e it ((i:Int)+1) x hp.objs.size:=e7
 refine aA (uL (wpAny_pure ⟨_,rfl,hQ h7 e7 ?_ ?_ ?_ ?_⟩))
 ·exact((i4.extBut s5.extBut (Ne.symm zO)).extBut s6.extBut (Ne.symm zO)).extBut s7.extBut (Ne.symm zO)
 ·exact s7.extBut _ _ (gN IO) (s6.extBut _ _ (gN IO) (s5.extBut _ _ (gN IO) t4))
 ·rw[s7.1,s6.1,s5.1,z4]
 ·exact λb o AY HC hb=>s7.extBut b o AY (s6.extBut b o AY (s5.extBut b o AY (k4 b o AY HC hb)))
theorem Ip {e it l:Addr}{i:Nat}{items:Array aB}{x old:aB}{Q:Option aB->aG->Prop}(he:lG s.heap e it i old)(BY:s.heap.IsTupleIter it l i)(hl:s.heap.IsTuple l items)(hx:items[i]?=some x)(zO:e≠it)
  (hQ:∀h',qY h' e it ((i:Int)+1) x s.heap.objs.size->h'.IsTupleIter it l (i+1)->h'.get? s.heap.objs.size=some { cls:=.type "tuple",data:=.seq #[.int i s.toks,x] }->h'.objs.size=s.heap.objs.size+1->(∀b o,b≠e->b≠it->s.heap.get? b=some o->h'.get? b=some o)->Q (some (.ref s.heap.objs.size)) { s with heap:=h',toks:=s.toks+1 }):aM (aX prog w) A (lE (.ref e)) Q E s:=by
 have hT:s.TypeIs (.ref e) "enumerate":=⟨_,he,rfl⟩;unfold lE;exact aA (nX (gC (name:=iC "__next__") hT F.slot_enumerate_next (fV F.slot_enumerate_next hT F.entry_enumerate_next (Io he BY hl hx zO λh' a b c d k=>wpAny_pure (hQ h' a b c d k)) (F.args_enumerate_next_1 _))))
theorem Lg {e it l:Addr}{i:Nat}{items:Array aB}{old:aB}{Q:Option aB->aG->Prop}(hh:A.handled=none)(he:lG s.heap e it i old)(BY:s.heap.IsTupleIter it l i)(hl:s.heap.IsTuple l items)(hx:items[i]?=none)
  (hQ:∀h',uK it s.heap h'->Q none { s with heap:=h' }):aM (aX prog w) A (lE (.ref e)) Q E s:=by
 have hT:s.TypeIs (.ref e) "enumerate":=⟨_,he,rfl⟩;unfold lE;refine aA (nX (gC (name:=iC "__next__") hT F.slot_enumerate_next (fV F.slot_enumerate_next hT F.entry_enumerate_next ?_ (F.args_enumerate_next_1 _))));show aM _ _ (field (.ref e) 2 >>= _) _ _ _;refine aA (eI he rfl (x:=.ref it) rfl ?_);refine aA (La hh BY hl hx λh' x ex AX=>?_);obtain⟨o,ho,hc⟩:=AX;refine aA (lJ (T:="StopIteration") (b:=true) ⟨o,ho,hc⟩ uI ?_);exact wpAny_pure (hQ _ ex)
end
structure Wt (h:Heap)(e it l:Addr)(k:Nat):Prop where
 en:∃old,lG h e it k old
 one:h.IsTupleIter it l k
def Ite (K:aC)(a:Addr):It:=
 ⟨λi H=>∃xs x,SqT K H a xs/\xs[i]?=some x,λi H v H'=>∃p x,H p=none/\v=.ref p/\(∀xs,SqT K H a xs->xs[i]?=some x)/\H'=upd H p (.tup [.int (i:Int),x]),λi H=>∃xs,SqT K H a xs/\xs.length<=i⟩
theorem Lh {P:aP}{w:aW}{K:aC}{es:List Expr}{j:Nat}{pos:Pos}{e it a:Addr}(zO:e≠it)(hae:a≠e)(hai:a≠it) :
  tm P w K (.Tuple es j pos) (Ite K a) [e,it] e (λk h=>Wt h e it a k) where
 mem:=by simp
 obj:=λk h Z c hc=>by
  obtain⟨⟨old,u1⟩,⟨o4,u4,_,v4⟩⟩:=Z;simp only[aU,eY,or_false]at hc;rcases hc with q | q
  ·subst q;exact⟨_,u1,λv e=>by cases(show wL _=uR v from e)⟩
  ·subst q;exact⟨_,u4,λv e=>by rw[v4]at e;cases e⟩
 keep:=λk h h' Z kk=>by
  obtain⟨⟨old,u1⟩,⟨o4,u4,r4⟩⟩:=Z;exact⟨⟨old,kk e (by simp) _ u1⟩,⟨o4,kk it (by simp) _ u4,r4⟩⟩
 item:=by
  intro X hP hw hK hc k f' s σ H E I hf Z hg;subst hP hw hK;obtain⟨xs,x,hx,ex⟩:=hg;obtain⟨its,r1,p1,_⟩:=I.tuple hx;obtain⟨u,eu,ru⟩:=r1.get ex;obtain⟨⟨old,u1⟩,u2⟩:=Z;refine Ip u1 u2 (show s.heap.IsTuple a its.toArray from p1) (x:=u) (by simpa using eu) zO λh1 b1 b2 b3 b4 kk=>?_;refine⟨_,rfl,wpAny_letOwnedTupleGo_enum b1 λh2 c1 sb=>?_⟩;have ks:∀c o,c ∉ [e,it]->s.heap.get? c=some o->h2.get? c=some o:=λc o hc q=>by
   simp only[aU,eY,or_false,not_or]at hc;exact sb.extBut _ _ hc.1 (kk c o hc.1 hc.2 q)
  have ne:s.heap.objs.size≠e:=gN (aZ u1);have b5:=sb.extBut _ _ ne b3;have I2:Inv X f' σ H { s with heap:=h2,toks:=s.toks+1 }:=I.turnedAll (t':=s.toks+1) hf ks;have fT:ij X f' H s.heap.objs.size:=I.fpOk (aN _) (I.hok.fresh (aN _));have I3:Inv X f' σ (upd H s.heap.objs.size (.tup [.int (k:Int),x])) { s with heap:=h2,toks:=s.toks+1 }:=I2.track fT I.sz
   ⟨by show 2<=sizeLine;decide,[.int k s.toks,u],.cons ⟨_,rfl⟩ (.cons ru .nil),⟨_,b5,rfl,_,rfl⟩⟩
  refine⟨.ref s.heap.objs.size,_,I3,rfl,⟨_,x,fT.1,rfl,λus hu=>by rw[I.tuple_inj hu hx];exact ex,rfl⟩,?_,λc hc=>?_⟩
  ·obtain⟨w3,v3,q3⟩:=b2;exact⟨⟨_,c1⟩,⟨w3,sb.extBut _ _ (Ne.symm zO) v3,q3⟩⟩
  ·obtain⟨o,q⟩:∃o,s.heap.get? c=some o:=by
    obtain⟨o4,u4,_⟩:=u2;simp only[aU,eY,or_false]at hc;rcases hc with q | q
    ·subst q;exact⟨_,u1⟩
    ·subst q;exact⟨_,u4⟩
   rw[ai (cK (aZ q))];exact(hf c hc).1
 done:=by
  intro X hP hw hK hc k f' s σ H E I hf Z hg;subst hP hw hK;obtain⟨xs,hx,CN⟩:=hg;obtain⟨its,r1,p1,_⟩:=I.tuple hx;obtain⟨⟨old,u1⟩,u2⟩:=Z;have l1:=r1.length;refine Lg (I.ok.hd hc) u1 u2 (show s.heap.IsTuple a its.toArray from p1) (by simp;lia) λh1 kk=>⟨rfl,I.turnedAll (t':=s.toks) hf λc o hc q=>?_⟩;simp only[aU,eY,or_false,not_or]at hc;exact kk c o hc.2 q
 self:=λ_ _ _ _ _ Z h=>let ⟨_,u⟩:=Z.en;rV u h
section
variable {X:Cx}
def Wu (K:aC)(ta:TA):TI:=λσ H R=>ta σ H λvs H1=>∃a xs,vs=[.ref a]/\SqT K H1 a xs/\R (Ite K a) H1
theorem Se {e1:Expr}{ta:TA}{p pos CI:Pos}{es:List Expr}{j:Nat}(hg:Gl X "enumerate")(hm:X.mg "enumerate"=none)(ha:PA X [e1] ta)(hs:cW [e1] X.env=[(false,eval e1 X.env)]:=by rfl)
  (BM:cW [] X.env=[]:=by rfl):PI X (.Tuple es j CI) (.Call (.Name "enumerate" p) [e1] [] pos) (Wu X.K ta):=by
 intro f' s σ H R I h;refine Call_ (ip I hg hm (by kernel_rfl:jI (iC "enumerate")=some (.type "enumerate")) (iL (thn (ha pos f' s σ H _ I h) λus s1 ⟨vs,H1,I1,r1,q1⟩=>?_) (by rw[hs,BM]) (by rw[BM];rfl)));obtain⟨a,xs,e,hx,q⟩:=q1;subst e;obtain⟨u,rfl,ru⟩:=jf r1;cases(show u=cE a from ru);obtain⟨its,k1,p1,_⟩:=I1.tuple hx;have a1:a < s1.heap.objs.size:=(by obtain⟨_,e,_⟩:=p1;exact aZ e);refine Im (show s1.heap.IsTuple a its.toArray from p1) λh2 Z1 Z2 sz kk=>?_;have I2:Inv X f' σ H1 { s1 with heap:=h2 }:=I1.kept (t':=s1.toks) kk;refine rV Z1 ⟨_,_,_,_,H1,rfl,I2,Lh (e:=s1.heap.objs.size+1) (it:=s1.heap.objs.size) (a:=a) (Nat.succ_ne_self _) (cK (rW a1)) (cK a1),⟨⟨_,Z1⟩,Z2⟩,λc hc=>?_,q⟩;refine I1.fpOk ?_ (I1.hok.fresh ?_)
 all_goals
  simp only[aU,eY,or_false]at hc;rcases hc with q | q<;>subst q<;>lia
end
theorem Og {K:aC}{a:Addr}{xs:List V}{g:TG}{tb:TS}{D:d6}{σ:St}{H:Hp}(Pv:Nat->St->Hp->Prop)(h0:Pv 0 σ H)
  (hl:∀i σ H,i<=xs.length->Pv i σ H->SqT K H a xs)
  (hs:∀i x p σ H,xs[i]?=some x->Pv i σ H->H p=none->g (.ref p) σ (upd H p (.tup [.int (i:Int),x])) λσ2 H2=>tb { D with nx:=Pv (i+1),ct:=Pv (i+1),bk:=D.nx } σ2 H2) (hd:∀σ H,Pv xs.length σ H->D.nx σ H) :
  ∃W:Nat->Nat->St->Hp->Prop,(∃m,W 0 m σ H)/\∀i m σ H,W i m σ H->
   ((Ite K a).stop i H/\D.nx σ H)\/((Ite K a).go i H/\∃N:St->Hp->Prop,(∀σ' H',N σ' H'->∃m',m' < m/\W (i+1) m' σ' H')/\∀x H',(Ite K a).yld i H x H'->g x σ H' λσ2 H2=>tb { D with nx:=N,ct:=N,bk:=D.nx } σ2 H2):=by
 refine⟨λi m σ H=>i+m=xs.length/\Pv i σ H,⟨xs.length,by lia,h0⟩,?_⟩;intro i m σ H zE;obtain⟨e,p⟩:=zE;have q1:=hl i σ H (by lia) p;by_cases hi:i < xs.length
 ·have ex:xs[i]?=some xs[i]:=aK hi;refine .inr ⟨⟨xs,_,q1,ex⟩,Pv (i+1),λσ' H' p'=>⟨m - 1,by lia,by lia,p'⟩,?_⟩;intro x H' zE;obtain⟨pp,x',fp,rfl,eu,rfl⟩:=zE;exact hs i x' pp σ H (eu xs q1) p fp
 ·have e':i=xs.length:=(by lia);subst e';exact .inl ⟨⟨xs,q1,aN _⟩,hd σ H p⟩
end L2
namespace S23
open PySem L2
abbrev Fld:={ f:Str // (uG f).length<=2000 }
abbrev Num:={ v:Int // v.natAbs.log2 < 1000 }
inductive Say where
 |nought | every | note
 |is (f:Fld) (v:Num)
 |put (f:Fld) (v:Num)
 |no (s:Say)
 |again (s:Say)
 |either (a b:Say)
 |both (a b:Say)
def Say.sort:Say->Str
 | .nought=>"none" | .every=>"all" | .note=>"note" | .is _ _=>"is" | .put _ _=>"put" | .no _=>"not" | .again _=>"again" | .either _ _=>"either" | .both _ _=>"then"
def Say.kids:Say->List Say
 | .no s=>[s] | .again s=>[s] | .either a b=>[a,b] | .both a b=>[a,b] | _=>[]
def Say.parts:Say->List Say
 | .no s=>.no s::s.parts
 | .again s=>.again s::s.parts
 | .either a b=>.either a b::(a.parts++b.parts)
 | .both a b=>.both a b::(a.parts++b.parts)
 |s=>[s]
def Say.size:Say->Nat
 | .no s=>s.size+1
 | .again s=>s.size+1
 | .either a b=>a.size+b.size+1
 | .both a b=>a.size+b.size+1
 |_=>1
def Say.isT:Say->Bool
 | .no s=>s.isT
 | .either a b=>a.isT && b.isT
 | .both a b=>a.isT && b.isT
 | .nought=>true | .every=>true | .is _ _=>true
 |_=>false
def Say.nts:Say->Nat
 | .no s=>s.nts
 | .again s=>s.nts
 | .either a b=>a.nts+b.nts
 | .both a b=>a.nts+b.nts
 | .note=>1
 |_=>0
def Say.inT:Say->Bool
 | .nought=>true | .every=>true | .is _ _=>true | .no _=>true | .either _ _=>true | .both _ _=>true
 |_=>false
def Say.isN:Say->Bool
 | .note=>true
 |_=>false
def Say.hasK:Say->Bool
 | .no _=>true | .again _=>true | .either _ _=>true | .both _ _=>true
 |_=>false
theorem iu (s:Say):s.parts=s::s.kids.flatMap Say.parts:=by
 cases s<;>simp[Say.parts,Say.kids]
theorem size_eq (s:Say):s.size=(s.kids.map Say.size).sum+1:=by
 cases s<;>simp[Say.size,Say.kids]
theorem nk (s:Say):1<=s.size:=by rw[size_eq];lia
theorem gq (s:Say):s.parts.length=s.size:=by
 induction s with
 |no s ih=>simp[Say.parts,Say.size,ih]
 |again s ih=>simp[Say.parts,Say.size,ih]
 |either a b ia ib=>simp[Say.parts,Say.size,ia,ib]
 |both a b ia ib=>simp[Say.parts,Say.size,ia,ib]
 |_=>rfl
theorem Iq (s:Say):s.parts.all Say.inT=s.isT:=by
 induction s with
 |no s ih=>simp[Say.parts,Say.isT,<-ih,Say.inT]
 |again s ih=>simp[Say.parts,Say.isT,Say.inT]
 |either a b ia ib=>simp[Say.parts,Say.isT,<-ia,<-ib,Say.inT]
 |both a b ia ib=>simp[Say.parts,Say.isT,<-ia,<-ib,Say.inT]
 |_=>rfl
theorem vz (s:Say):(s.parts.filter Say.isN).length=s.nts:=by
 induction s with
 |no s ih=>simp[Say.parts,Say.nts,<-ih,Say.isN]
 |again s ih=>simp[Say.parts,Say.nts,<-ih,Say.isN]
 |either a b ia ib=>simp[Say.parts,Say.nts,<-ia,<-ib,Say.isN]
 |both a b ia ib=>simp[Say.parts,Say.nts,<-ia,<-ib,Say.isN]
 |_=>rfl
theorem Uz (s:Say):s.nts<=s.size:=by
 rw[<-vz,<-gq];exact jU _ _
theorem fv:∀s:Say,s.isT=true->s.nts=0
 | .nought,_=>rfl | .every,_=>rfl | .is _ _,_=>rfl
 | .note,h=>by cases h
 | .put _ _,h=>by cases h
 | .again _,h=>by cases h
 | .no s,h=>fv s h
 | .either a b,h=>by
  have z:(a.isT && b.isT)=true:=h;rw[hZ]at z;show a.nts+b.nts=0;rw[fv a z.1,fv b z.2]
 | .both a b,h=>by
  have z:(a.isT && b.isT)=true:=h;rw[hZ]at z;show a.nts+b.nts=0;rw[fv a z.1,fv b z.2]
def Say.da:Say->Da
 | .is f v=>.tup [.flat (.str "is"),.flat (.str f.1),.flat (.int v.1)]
 | .put f v=>.tup [.flat (.str "put"),.flat (.str f.1),.flat (.int v.1)]
 | .no s=>.tup [.flat (.str "not"),s.da]
 | .again s=>.tup [.flat (.str "again"),s.da]
 | .either a b=>.tup [.flat (.str "either"),a.da,b.da]
 | .both a b=>.tup [.flat (.str "then"),a.da,b.da]
 | .nought=>.tup [.flat (.str "none")]
 | .every=>.tup [.flat (.str "all")]
 | .note=>.tup [.flat (.str "note")]
theorem C7 (s:Say):s.da.fix=true:=by
 induction s with
 |no s ih=>simp[Say.da,Da.fix,fixL,ih]
 |again s ih=>simp[Say.da,Da.fix,fixL,ih]
 |either a b ia ib=>simp[Say.da,Da.fix,fixL,ia,ib]
 |both a b ia ib=>simp[Say.da,Da.fix,fixL,ia,ib]
 |_=>simp[Say.da,Da.fix,fixL]
theorem ng {K:aC}{H:Hp}{x:V}{s:Say}(h:Hold K H x s.da):∃a xs,x=.ref a/\SqT K H a (.str s.sort::xs)/\(s.hasK=true->Holds K H xs (s.kids.map Say.da)):=by
 cases s
 all_goals
  obtain⟨a,ys,e,ha,hd⟩:=Hold.tupI h;cases hd with
  |cons h1 r1=>
   cases h1.flatI;refine⟨a,_,e,ha,λq=>?_⟩
   first | exact r1 | (cases q)
theorem Sf {s:Say}(h:s.hasK=false):s.kids=[]:=by cases s<;>first | rfl | cases h
def HS:List V:=[.str "not",.str "either",.str "then",.str "again"]
def TS:List V:=[.str "none",.str "all",.str "is",.str "not",.str "either",.str "then"]
theorem Wv (s:Say):inV (.str s.sort) HS=s.hasK:=by cases s<;>kernel_rfl
theorem Ww (s:Say):inV (.str s.sort) S23.TS=s.inT:=by cases s<;>kernel_rfl
theorem is_N (s:Say):decide (V.str s.sort=V.str "note")=s.isN:=by cases s<;>kernel_rfl
end S23
namespace S1
def longer (zN:List (List Int))(c:Nat):List (List Int):=zN.flatMap λl=>(eE c).map λ(v:Nat)=>l++[(v:Int)]
def je (zN:List (List Int))(cs:List Nat):List (List Int):=cs.foldl longer zN
def mul (cs:List Nat):Nat:=cs.foldl (· * ·) 1
theorem wa (zN:List (List Int))(l:List Int)(c:Nat):longer (zN++[l]) c=longer zN c++(eE c).map λ(v:Nat)=>l++[(v:Int)]:=by
 simp[longer,oN]
theorem mf (zN:List (List Int))(c:Nat):(longer zN c).length=zN.length * c:=by
 induction zN with
 |nil=>simp[longer]
 |cons l r ih=>
  have e:longer (l::r) c=((eE c).map λ(v:Nat)=>l++[(v:Int)])++longer r c:=(by simp[longer,jP]);rw[e,aO,ih,aI,gR,cX,Nat.succ_mul,jB]
theorem wb:∀(cs:List Nat)(zN:List (List Int)),(je zN cs).length=cs.foldl (· * ·) zN.length
 | [],_=>rfl
 |c::r,zN=>by
  show(je (longer zN c) r).length=r.foldl (· * ·) (zN.length * c);rw[wb r,mf]
structure Good (cs:List Nat)(ls:List (List Int)):Prop where
 wide:∀l∈ls,l.length=cs.length
 rng:∀l∈ls,∀(i:Nat)(v:Int),l[i]?=some v->∃c,cs[i]?=some c/\0<=v/\v < (c:Int)
 ord:ls.Pairwise λa b=>HT.lexLt a b=true
theorem C8:∀(a:List Int)(x y:Int),x < y->HT.lexLt (a++[x]) (a++[y])=true
 | [],x,y,h=>by
  show HT.lexLt [x] [y]=true;rw[HT.lexLt_cons,if_neg (by lia)];exact decide_eq_true h
 |z::r,x,y,h=>by
  show HT.lexLt (z::(r++[x])) (z::(r++[y]))=true;rw[HT.lexLt_cons,if_pos rfl];exact C8 r x y h
theorem Ga:∀(a b:List Int)(x y:Int),a.length=b.length->HT.lexLt a b=true->HT.lexLt (a++[x]) (b++[y])=true
 | [],[],_,_,_,h=>by cases h
 | [],_::_,_,_,e,_=>by cases e
 |_::_,[],_,_,e,_=>by cases e
 |p::r,q::t,x,y,e,h=>by
  have e':r.length=t.length:=(by simpa using e);show HT.lexLt (p::(r++[x])) (q::(t++[y]))=true;rw[HT.lexLt_cons]at h ⊢;by_cases c:p=q
  ·rw[if_pos c]at h ⊢;exact Ga r t x y e' h
  ·rw[if_neg c]at h ⊢;exact h
theorem m3 {zN:List (List Int)}{c:Nat}{m:List Int}(h:m∈longer zN c):∃l∈zN,∃v:Nat,v < c/\m=l++[(v:Int)]:=by
 obtain⟨l,hl,h⟩:=List.mem_flatMap.mp h;obtain⟨v,hv,e⟩:=jD.mp h;exact⟨l,hl,v,iI.mp hv,e.symm⟩
theorem Good.longer {cs:List Nat}{ls:List (List Int)}(g:Good cs ls)(c:Nat):Good (cs++[c]) (longer ls c) where
 wide:=λm hm=>by
  obtain⟨l,hl,v,hv,rfl⟩:=m3 hm;rw[aO,aO,g.wide l hl];rfl
 rng:=λm hm i v hi=>by
  obtain⟨l,hl,w,hw,rfl⟩:=m3 hm;have wl:=g.wide l hl;rcases Nat.lt_trichotomy i l.length with q | q | q
  ·rw[eB q]at hi;obtain⟨c',hc,r⟩:=g.rng l hl i v hi;exact⟨c',by rw[eB (by lia)];exact hc,r⟩
  ·subst q;have e:v=(w:Int):=(by simpa using hi.symm);refine⟨c,by rw[wl];simp,by lia,by lia⟩
  ·rw[jV (by rw[aO,eX];lia)]at hi;cases hi
 ord:=by
  have w:=g.wide;have o:=g.ord;clear g
  induction ls with
  |nil=>exact oA
  |cons l r ih=>
   have e:S1.longer (l::r) c=((eE c).map λ(v:Nat)=>l++[(v:Int)])++S1.longer r c:=(by simp[S1.longer,jP]);obtain⟨o1,o2⟩:=lN.mp o;rw[e,List.pairwise_append];refine⟨?_,ih (λm hm=>w m (cC _ hm)) o2,?_⟩
   ·rw[List.pairwise_map];exact List.Pairwise.imp (R:=λ(a b:Nat)=>a < b) (λ{a b} h=>C8 l (a:Int) (b:Int) (by lia)) List.pairwise_lt_range
   ·intro a ha b hb;obtain⟨v,hv,rfl⟩:=jD.mp ha;obtain⟨m,hm,u,hu,rfl⟩:=m3 hb;exact Ga l m _ _ (by rw[w l cJ,w m (cC _ hm)]) (o1 m hm)
theorem Good.start:Good [] [[]] where
 wide:=λl hl=>by rw[aY.mp hl];rfl
 rng:=λl hl i v hi=>by rw[aY.mp hl]at hi;cases i<;>cases hi
 ord:=rP _ _
theorem Good.all:∀(r cs:List Nat) {ls:List (List Int)},Good cs ls->Good (cs++r) (je ls r)
 | [],cs,ls,g=>by rw[lB];exact g
 |c::r,cs,ls,g=>by
  have q:=Good.all r (cs++[c]) (g.longer c);rw[pJ]at q;exact q
def c7 (cs:List Nat):List (List Int):=je [[]] cs
theorem fk (cs:List Nat):Good cs (c7 cs):=Good.all cs [] Good.start
theorem i8 (cs:List Nat):(c7 cs).length=mul cs:=wb cs [[]]
theorem nn (cs:List Nat)(c:Nat):c7 (cs++[c])=longer (c7 cs) c:=by
 simp[c7,je,List.foldl_append]
theorem C9:∀(cs:List Nat)(k:Nat),(∀c∈cs,c<=6)->cs.foldl (· * ·) k<=k * 6 ^ cs.length
 | [],k,_=>by simp
 |c::r,k,h=>by
  have q:=C9 r (k * c) λd hd=>h d (cC _ hd);have hc:=h c cJ;show r.foldl (· * ·) (k * c)<=k * 6 ^ (r.length+1);refine bQ q ?_;rw[qZ,uW,qU (6 ^ r.length) 6];exact Nat.mul_le_mul_left _ (Nat.mul_le_mul_right _ hc)
theorem Db (cs:List Nat)(h:∀c∈cs,c<=6):mul cs<=6 ^ cs.length:=by
 have q:=C9 cs 1 h
 rwa [Nat.one_mul]at q
end S1
namespace S23
open PySem L2
def top (i:Nat):Stmt:=PySem.Challenge.pw_switchsay_k23_done_and_so.main.body.getD i (.Pass ⟨0,0,0,0⟩)
abbrev sNF:Stmt:=i7 (top 3) 0
abbrev sNV:Stmt:=i7 (top 4) 0
abbrev sNT:Stmt:=i7 (top 5) 0
abbrev sNP:Stmt:=i7 (top 6) 0
abbrev Dc:Stmt:=top 10
abbrev Ir:Stmt:=top 11
abbrev Dd:Stmt:=top 25
abbrev Is:Stmt:=top 26
abbrev Iu:Stmt:=top 27
abbrev De:Stmt:=top 28
abbrev Oh:Stmt:=top 29
abbrev Oi:Stmt:=top 30
abbrev Df:Stmt:=top 31
abbrev Ar:Stmt:=top 32
abbrev Iv:Stmt:=top 52
abbrev Dg:Stmt:=top 53
abbrev Iw:Stmt:=top 54
abbrev As:Stmt:=top 55
abbrev Cg:Stmt:=top 56
abbrev Ix:Stmt:=top 57
abbrev Dh:Stmt:=top 58
abbrev Au:Stmt:=top 59
abbrev Av:Stmt:=top 60
abbrev qr:Stmt:=top 67
abbrev Di:Stmt:=top 8
abbrev vi:Stmt:=top 9
abbrev sNo:Stmt:=top 13
abbrev Iy:Stmt:=top 14
abbrev Iz:Stmt:=top 15
abbrev I0:Stmt:=top 16
abbrev Dj:Stmt:=top 17
abbrev yw:Stmt:=top 18
abbrev Dk:Stmt:=top 19
abbrev yx:Stmt:=top 20
abbrev Dl:Stmt:=i7 (top 34) 0
abbrev Ja:Stmt:=i7 (top 34) 2
abbrev Dm:Stmt:=i7 (top 34) 4
abbrev yy:Stmt:=i7 (top 34) 6
abbrev Do:Stmt:=i7 (top 35) 0
abbrev Ch:Stmt:=top 36
abbrev Dp:Stmt:=top 37
abbrev Dq:Stmt:=top 38
abbrev Jb:Stmt:=top 39
abbrev yz:Stmt:=top 40
abbrev Dr:Stmt:=top 41
abbrev y8:Stmt:=top 42
abbrev y9:Stmt:=top 43
abbrev vj:Stmt:=top 44
abbrev Jc:Stmt:=top 45
abbrev vk:Stmt:=top 46
abbrev vm:Stmt:=top 47
abbrev Jd:Stmt:=top 49
abbrev Je:Stmt:=top 50
abbrev Ci:Stmt:=top 61
abbrev zc:Stmt:=top 62
abbrev Jf:Stmt:=top 63
abbrev Ds:Stmt:=top 64
abbrev Jg:Stmt:=top 65
abbrev Jh:Stmt:=top 66
theorem small {n:Nat}(h:n<=1000):n<=sizeLine:=lD (be h)
theorem ad {H:Hp}{p:Addr}(h:H p=none)(o:HO):Same H (upd H p o):=λb u q=>by rw[ai (am q h)];exact q
theorem Same.put {H G:Hp}{r:Addr}(e:Same H G)(h:H r=none)(o:HO):Same H (upd G r o):=λb u q=>by rw[ai (am q h)];exact e b u q
def Keep (r:Addr)(H H':Hp):Prop:=∀b o,b≠r->H b=some o->H' b=some o
theorem Same.keep {H G G':Hp}{r:Addr}(e:Same H G)(h:H r=none)(k:Keep r G G'):Same H G':=λb u q=>k b u (am q h) (e b u q)
theorem gf (a:Int){m:Int}(h:0 < m):0<=a % m/\a % m < m:=⟨Int.emod_nonneg _ (Int.ne_of_gt h),Int.emod_lt_of_pos _ h⟩
theorem Ji {ns:List Int}{v:Int}(h0:0<=v)(h1:v < (ns.length:Int)):∃x∈ns,atI (ns.map V.int) v=some (.int x):=by
 have hk:v.toNat < ns.length:=(by lia);have ek:v=((v.toNat:Nat):Int):=(by lia);have q:atI (ns.map V.int) ((v.toNat:Nat):Int)=some (.int ns[v.toNat]):=bf (by rw[cY,aK hk]<;>rfl);rw[<-ek]at q;exact⟨_,pW hk,q⟩
def Jj (w:Str×Nat):Da:=.tup [.flat (.str w.1),.flat (.int (w.2:Int))]
def cy (ws:List (Str×Nat)):Da:=.tup (ws.map Jj)
structure t9 (x:Str):Prop where
 len:x.length<=8
 cps:∀c∈x.cps.toList,97<=c/\c<=122
structure br (ws:List (Str×Nat)):Prop where
 lo:1<=ws.length
 hi:ws.length<=3
 cnt:∀w∈ws,1<=w.2/\w.2<=6
 word:∀w∈ws,t9 w.1
def Aw:Sp:=λvs H Q _=>∃n:Int,vs=[.int n]/\∀(r:Addr)(a b:Int),H r=none->0<=a->0<=b->Q (.ref r) (upd H r (.lst [.int a,.int b]))
def zh:Sp:=λvs H Q _=>∃(r:Addr)(a b m:Int),vs=[.ref r,.int m]/\H r=some (.lst [.int a,.int b])/\0<=a/\0<=b/\0 < m/\m < 1073741824/\
 ∀(v a' b':Int)(H':Hp),0<=v->v < m->0<=a'->0<=b'->H' r=some (.lst [.int a',.int b'])->Keep r H H'->Q (.int v) H'
section
variable {P:aP}{w:aW}{K:aC}{mg:Str->Option aB}{base:Heap}
theorem Ax:au ["_law_cell_here","_law_number","_law_found","_law_k"] ["_law_cell_here"] (aj Dg):=⟨rfl,rfl,rfl,by decide +kernel,rfl,by decide +kernel,by decide +kernel⟩
theorem Oj {f:Addr}{fd:bX}(F:Fun K "_law_purse" "_law_purse" Dg f fd)(mr:mg "range"=none)(ma:mg "abs"=none):FnOk P w K mg base CX0 1 f fd ["_law_cell_here"] Aw:=by
 refine F.ok Ax (λvs H Q E h=>?_) (λzH A outer s H vs Q E hr h=>?_)
 ·obtain⟨n,rfl,_⟩:=h;rfl
 obtain⟨n,rfl,q⟩:=h;refine⟨_,ag (av (i:=1) Ax.nd rfl (cD rfl) (ay jd (pv 0) af)) (ag (av (i:=2) Ax.nd rfl (cD rfl) af) (ag (dv eU rfl (jo rfl mr (aa af ae)) (ba (i:=3) Ax.nd rfl (cD rfl)) (ag (av (i:=1) Ax.nd rfl (cD rfl) (ay jd (ay ie (ay ie (ay ie (ay pi (pv 1) (pv 1)) (ay pi (ay pi af (pv 3)) (pv 3))) (pv 3)) af) af)) (ah (av (i:=2) Ax.nd rfl (cD rfl) (ay ie (ay pi (pv 2) af) (ay jd (ay pi (pv 1) (pv 1)) af)))))) (ag (cn (bc dh (ay jd (pv 0) af) af (bg _)) (ah (ax (az (aa (ay Al (bn Nz rfl ma (by kernel_rfl) (aa (pv 0) ae)) af) (aa (pv 2) ae))))) bo) (ah (ax (az (aa af (aa (pv 2) ae)))))))),?_⟩;have r0:=gf n (m:=2147483647) (by decide);refine⟨_,rfl,_,_,rfl,rfl,(by show(0:Int) < 2147483647;decide),16,rfl,by decide,by decide,tq (n:=16) (λi σ G=>∃(x y:Int)(v:Option V),σ=[some (.int n),some (.int x),some (.int y),v]/\G=H/\0<=x/\x < 2147483647/\0<=y) ⟨_,_,_,rfl,rfl,r0.1,r0.2,by decide⟩ ?_ ?_⟩
 ·intro i σ G hi zE;obtain⟨x,y,v,rfl,rfl,h1,h2,h3⟩:=zE;generalize zI:d6.mk _ _ _ _=zV;revert zI zV;refine id ?_;intro zV zI;refine⟨_,rfl,_,rfl,_,_,rfl,rfl,.inl ⟨by lia,by lia⟩,_,rfl,_,_,rfl,rfl,.inl ⟨by decide,by decide⟩,_,rfl,_,_,rfl,rfl,.inr ⟨by lia,by lia⟩,_,_,rfl,rfl,_,rfl,_,_,rfl,rfl,_,_,rfl,rfl,_,_,rfl,rfl,(by show(0:Int) < 2147483629;decide),?_⟩;have r1:=gf (x * x+48271 * (0+(i:Int)) * (0+(i:Int))+(0+(i:Int))+3) (m:=2147483629) (by decide);have r2:=gf ((x * x+48271 * (0+(i:Int)) * (0+(i:Int))+(0+(i:Int))+3) % 2147483629 * ((x * x+48271 * (0+(i:Int)) * (0+(i:Int))+(0+(i:Int))+3) % 2147483629)) (m:=2147483587) (by decide);refine⟨_,rfl,_,_,rfl,rfl,.inr ⟨by decide,by decide⟩,_,rfl,_,rfl,_,_,rfl,rfl,.inl ⟨Int.lt_of_lt_of_le (by decide) r1.1,Int.lt_trans r1.2 (by decide)⟩,_,_,rfl,rfl,(by show(0:Int) < 2147483587;decide),_,_,rfl,rfl,?_⟩;subst zI;refine⟨_,_,_,rfl,rfl,r1.1,Int.lt_trans r1.2 (by decide),?_⟩;exact Int.add_nonneg (Int.mul_nonneg h3 (by decide)) r2.1
 ·intro σ G zE;obtain⟨x,y,v,rfl,rfl,h1,h2,h3⟩:=zE;refine⟨_,rfl,_,_,rfl,rfl,(by show(0:Int) < 2;decide),rfl,_,rfl,?_⟩;refine cz (λ_=>?_) (λ_=>?_)
  ·refine⟨_,rfl,_,rfl,_,_,rfl,rfl,⟨by decide,by decide⟩,_,rfl,sz2,λr DM=>?_⟩;refine q r _ _ DM ?_ h3;have z:0<=(if n < 0 then -n else n):=by split<;>lia
   lia
  ·refine⟨_,rfl,sz2,λr DM=>?_⟩;exact q r _ _ DM (Int.le_refl 0) h3
theorem Ol:au ["_law_purse_here","_law_many","_law_at","_law_found"] ["_law_purse_here","_law_many"] (aj Iw):=⟨rfl,rfl,rfl,by decide +kernel,rfl,by decide +kernel,by decide +kernel⟩
theorem Sg {f:Addr}{fd:bX}(F:Fun K "_law_take" "_law_take" Iw f fd)(mi:mg "int"=none):FnOk P w K mg base CX0 1 f fd ["_law_purse_here","_law_many"] zh:=by
 refine F.ok Ol (λvs H Q E h=>?_) (λzH A outer s H vs Q E hr h=>?_)
 ·obtain⟨r,a,b,m,rfl,_⟩:=h;rfl
 obtain⟨r,a,b,m,rfl,hl,ha,hb,m0,m1,q⟩:=h;refine⟨_,ag (av (i:=2) Ol.nd rfl (cD rfl) (Bk Ky rfl mi (by kernel_rfl) (aa (na dh (aq ar (pv 0) af (λ_ _=>rfl)) af (bg _)) ae))) (ag (av (i:=3) Ol.nd rfl (cD rfl) (ay jd (aq ar (pv 0) (pv 2) (λ_ _=>rfl)) (pv 1))) (ag (fw (ay Al (aq ar (pv 0) (pv 2) (λ_ _=>rfl)) (pv 1)) (iq (pv 0) (pv 2) w8)) (ah (ax (pv 3))))),?_⟩;dsimp only[bb,Cx.nox];refine⟨_,rfl,r,_,_,_,rfl,rfl,SqL.of hl,rfl,rfl,.inr ⟨_,rfl,?_⟩⟩;have kp:∀o,Keep r H (upd H r o):=λo c u hc e=>(by rw[ai hc];exact e);generalize hk:decide (V.int a=V.int 0)=k;cases k with
 |true=>
  refine⟨_,rfl,_,rfl,r,_,_,_,rfl,rfl,SqL.of hl,rfl,_,rfl,_,_,rfl,rfl,m0,?_⟩;refine⟨_,rfl,_,rfl,r,_,_,_,rfl,rfl,SqL.of hl,rfl,_,rfl,_,_,rfl,rfl,⟨m0,m1⟩,_,rfl,_,rfl,r,_,_,_,rfl,rfl,hl,rfl,_,rfl,?_⟩;have r1:=gf b m0;exact q (b % m) a (b / m) _ r1.1 r1.2 ha (Int.ediv_nonneg hb (Int.le_of_lt m0)) ac (kp _)
 |false=>
  refine⟨_,rfl,_,rfl,r,_,_,_,rfl,rfl,SqL.of hl,rfl,_,rfl,_,_,rfl,rfl,m0,?_⟩;refine⟨_,rfl,_,rfl,r,_,_,_,rfl,rfl,SqL.of hl,rfl,_,rfl,_,_,rfl,rfl,⟨m0,m1⟩,_,rfl,_,rfl,r,_,_,_,rfl,rfl,hl,rfl,_,rfl,?_⟩;have r1:=gf a m0;exact q (a % m) (a / m) b _ r1.1 r1.2 (Int.ediv_nonneg ha (Int.le_of_lt m0)) hb ac (kp _)
end
end S23
namespace L2
open PySem PySem.Spec PyProof.Rows Fly
section
variable {P:aP}{w:aW}{K:aC}{mg:Str->Option aB}{base:Heap}
theorem Fun.okX {x zK:Str}{st:Stmt}{f:Addr}{fd:bX}{N ps:List Str}{k:Nat}{sp:Sp}(F:Fun K x zK st f fd)(S:au N ps (aj st))(len:∀vs H Q E,sp vs H Q E->vs.length=ps.length)
  (BV:∀(zH:aB)(A:cQ) (outer:List Env) (s:aG) (H:Hp) (vs:List V) (Q:VK) (E:XK),Room k (A.deeper (rZ zK (aj st) s.heap.objs.size f zH))->sp vs H Q E->∃t,PSs (bb (CXx P w) P w K mg base N zK (aj st) f zH A outer s H E) (dl st) t/\t { nx:=λ_ H'=>Q .non H',rt:=Q } (start N vs) H):FnOk P w K mg base (CXx P w) (k+1) f fd ps sp:=by
 obtain⟨oc,od,kV,AR,pm,an,zH,ct,EL,rfl,lk,DH⟩:=F.ex;exact Qp lk DH S len λA outer s H vs Q E hr zU=>BV zH A outer s H vs Q E hr zU
theorem n9 {H:Hp}{e dx:Addr}{o1 o2 o3:HO}(he:H e=none)(hd:upd H e o1 dx=none)(ne:dx≠e):Same H (del (upd (upd (upd H e o1) dx o2) e o3) e)/\del (upd (upd (upd H e o1) dx o2) e o3) e dx=some o2/\H dx=none:=by
 have EA:H dx=none:=(by rw[ai ne]at hd;exact hd);refine⟨λb o z=>?_,?_,EA⟩
 ·have h1:b≠e:=am z he;have h2:b≠dx:=am z EA;rw[ju h1,ai h1,ai h2,ai h1];exact z
 ·rw[ju ne,ai ne,ac]
end
end L2
namespace S23
open PySem L2 Fly
structure Sw (K:aC)(mg:Str->Option aB)(SW:Addr):Prop where
 mg:mg "SwitchError"=some (.ref SW)
 ga:nY K (.ref SW) "__getattribute__"=some (some (.builtin "type.__getattribute__"))
 rd:qM K SW (.type "type")=true
 fc:qN K (.ref SW) (.type "type") "__init__"=some (.val (.builtin "ValueError.__init__"))
def jx (K:aC)(C:Addr)(f:Str)(ok:V->Prop):Sp:=λvs H Q _=>∃(e:Addr)(y:V),vs=[.ref e,y]/\j4 K C/\NoAttr K C f/\ok y/\H e=some (fh e C none)/\
 ∀dx,H dx=none->dx≠e->Q .non (upd (upd H dx (.xd [(f,y)])) e (fh e C (some dx)))
section
variable {P:aP}{w:aW}{K:aC}{mg:Str->Option aB}{base:Heap}{SW C:Addr}
theorem scNF:au ["self","field"] ["self","field"] (aj sNF):=⟨rfl,rfl,rfl,by decide +kernel,rfl,by decide +kernel,by decide +kernel⟩
theorem Wx {f:Addr}{fd:bX}(F:Fun K "__init__" "NoField.__init__" sNF f fd)(W:Sw K mg SW):FnOk P w K mg base CX0 1 f fd ["self","field"] (jx K C "field" qa):=by
 refine F.ok scNF (λvs H Q E h=>?_) (λzH A outer s H vs Q E hr h=>?_)
 ·obtain⟨e,y,rfl,_⟩:=h;rfl
 obtain⟨e,y,rfl,c,n,ok,he,q⟩:=h;refine⟨_,ag (cw (ql rfl W.mg W.ga W.rd W.fc (aa (pv 0) (aa (F0 (C6 (by decide +kernel) (Fz (pv 1) Lf)) (by decide)) ae)))) (ah (vh (pv 0) (pv 1) rfl)),?_⟩;dsimp only[bb,Cx.nox];refine⟨_,rfl,_,rfl,ok,λz=>⟨e,C,none,.str z,rfl,he,c,?_⟩⟩;exact⟨_,rfl,_,rfl,e,C,rfl,c,n,.inl ⟨he,q⟩⟩
theorem scNV:au ["self","value"] ["self","value"] (aj sNV):=⟨rfl,rfl,rfl,by decide +kernel,rfl,by decide +kernel,by decide +kernel⟩
theorem Wy {f:Addr}{fd:bX}(F:Fun K "__init__" "NoValue.__init__" sNV f fd)(W:Sw K mg SW):FnOk P w K mg base CX0 1 f fd ["self","value"] (jx K C "value" qa):=by
 refine F.ok scNV (λvs H Q E h=>?_) (λzH A outer s H vs Q E hr h=>?_)
 ·obtain⟨e,y,rfl,_⟩:=h;rfl
 obtain⟨e,y,rfl,c,n,ok,he,q⟩:=h;refine⟨_,ag (cw (ql rfl W.mg W.ga W.rd W.fc (aa (pv 0) (aa (F0 (C6 (by decide +kernel) (Fz (pv 1) (C6 (by decide +kernel) Lf))) (by decide)) ae)))) (ah (vh (pv 0) (pv 1) rfl)),?_⟩;dsimp only[bb,Cx.nox];refine⟨_,rfl,_,rfl,ok,λz=>⟨e,C,none,.str z,rfl,he,c,?_⟩⟩;exact⟨_,rfl,_,rfl,e,C,rfl,c,n,.inl ⟨he,q⟩⟩
theorem scNT:au ["self","saying"] ["self","saying"] (aj sNT):=⟨rfl,rfl,rfl,by decide +kernel,rfl,by decide +kernel,by decide +kernel⟩
theorem Wz {f:Addr}{fd:bX}(F:Fun K "__init__" "NoTest.__init__" sNT f fd)(W:Sw K mg SW):FnOk P w K mg base CX0 1 f fd ["self","saying"] (jx K C "saying" λ_=>True):=by
 refine F.ok scNT (λvs H Q E h=>?_) (λzH A outer s H vs Q E hr h=>?_)
 ·obtain⟨e,y,rfl,_⟩:=h;rfl
 obtain⟨e,y,rfl,c,n,ok,he,q⟩:=h;refine⟨_,ag (cw (ql rfl W.mg W.ga W.rd W.fc (aa (pv 0) (aa bh ae)))) (ah (vh (pv 0) (pv 1) rfl)),?_⟩;dsimp only[bb,Cx.nox];refine⟨_,rfl,e,C,none,_,rfl,he,c,?_⟩;exact⟨_,rfl,_,rfl,e,C,rfl,c,n,.inl ⟨he,q⟩⟩
theorem scNP:au ["self","saying"] ["self","saying"] (aj sNP):=⟨rfl,rfl,rfl,by decide +kernel,rfl,by decide +kernel,by decide +kernel⟩
theorem W3 {f:Addr}{fd:bX}(F:Fun K "__init__" "NoPlain.__init__" sNP f fd)(W:Sw K mg SW):FnOk P w K mg base CX0 1 f fd ["self","saying"] (jx K C "saying" λ_=>True):=by
 refine F.ok scNP (λvs H Q E h=>?_) (λzH A outer s H vs Q E hr h=>?_)
 ·obtain⟨e,y,rfl,_⟩:=h;rfl
 obtain⟨e,y,rfl,c,n,ok,he,q⟩:=h;refine⟨_,ag (cw (ql rfl W.mg W.ga W.rd W.fc (aa (pv 0) (aa bh ae)))) (ah (vh (pv 0) (pv 1) rfl)),?_⟩;dsimp only[bb,Cx.nox];refine⟨_,rfl,e,C,none,_,rfl,he,c,?_⟩;exact⟨_,rfl,_,rfl,e,C,rfl,c,n,.inl ⟨he,q⟩⟩
def Li (cV:Addr):Sp:=λvs H Q E=>∃(c v:Int),vs=[.int c,.int v]/\v.natAbs.log2 < 1000/\(0<=v/\v < c->Q .non H)/\(¬(0<=v/\v < c)->∀dx H',Same H H'->H' dx=some (.xd [("value",.int v)])->E (.ref cV) (some dx) H')
theorem scMu:au ["count","value"] ["count","value"] (aj Ir):=⟨rfl,rfl,rfl,by decide +kernel,rfl,by decide +kernel,by decide +kernel⟩
theorem Sh {f fI cV:Addr}{fd EC:bX}(F:Fun K "must_value" "must_value" Ir f fd)(c:j4 K cV)(n:NoAttr K cV "value")(hi:cH K (.ref cV) "__init__"=some (some (.ref fI)))(lf:∃oI,K.lookup fI=some oI/\oI.cls=.type "function")
  (GI:FnOk P w K mg base CX0 1 fI EC ["self","value"] (jx K cV "value" qa)) (bI:Binds K EC ["self","value"] []) (mV:mg "NoValue"=some (.ref cV)):FnOk P w K mg base (CXx P w) 3 f fd ["count","value"] (Li cV):=by
 refine F.okX scMu (λvs H Q E h=>?_) (λzH A outer s H vs Q E hr h=>?_)
 ·obtain⟨a,v,rfl,_⟩:=h;rfl
 obtain⟨a,v,rfl,lv,q1,q2⟩:=h;refine⟨_,ah (cn (PW.pt (yc (bc vb (pv 1) af (bg _)) (yb (bc Wl (pv 1) (pv 0) (bg _))))) (ah (qp c (qo c hi lf GI hr rfl mV bI (aa (pv 1) ae)))) bo),?_⟩;dsimp only[bb,Cx.nox];have bad:¬(0<=v/\v < a)->∃x,[some (V.int a),some (V.int v)][1]?=some (some x)/\([x].length<=100/\∀e,H e=none->jx K cV "value" qa (.ref e::[x]) (upd H e (fh e cV none)) (λu H2=>u=.non/\∃e' dx,V.ref e=.ref e'/\H2 e'=some (fh e' cV dx)/\H e'=none/\E (.ref cV) dx (del H2 e')) E0):=λnb=>by
  refine⟨_,rfl,(by show 1<=100;decide),λe he=>⟨e,.int v,rfl,c,n,lv,ac,λdx hd ne=>⟨rfl,e,some dx,rfl,ac,he,?_⟩⟩⟩;obtain⟨z1,z2,_⟩:=n9 (o2:=.xd [("value",.int v)]) (o3:=fh e cV (some dx)) he hd ne;exact q2 nb dx _ z1 z2
 refine⟨_,rfl,_,_,rfl,rfl,_,rfl,?_⟩;refine cz (λh1=>?_) (λh1=>?_)
 ·exact jj (bad λz=>by have:=of_decide_eq_true h1;lia)
 ·refine⟨_,rfl,_,rfl,_,_,rfl,rfl,_,rfl,?_⟩;refine cz (λh2=>?_) (λh2=>?_)
  ·exact bad λz=>by have:=of_decide_eq_true h2;lia
  ·have n1:¬v < 0:=λz=>h1 (decide_eq_true z);have n2:¬a<=v:=λz=>h2 (decide_eq_true z);exact q1 ⟨by lia,by lia⟩
end
open PyProof.Rows
def look:List (Str×Nat)->Str->Option (Nat×Nat)
 | [],_=>none
 |w::r,x=>if w.1=x then some (0,w.2)else (look r x).map λp=>(p.1+1,p.2)
theorem Si {ws:List (Str×Nat)}{x:Str}{i:Nat}{w:Str×Nat}(hw:ws[i]?=some w)(h:look ws x=(look (ws.drop i) x).map λp=>(p.1+i,p.2)) :
  (w.1=x->look ws x=some (i,w.2))/\(w.1≠x->look ws x=(look (ws.drop (i+1)) x).map λp=>(p.1+(i+1),p.2)):=by
 have hi:i < ws.length:=(aL.mp hw).1;have e:ws.drop i=w::ws.drop (i+1):=by
  rw[jS hi];have z:=(aL.mp hw).2;rw[z]
 rw[e]at h;refine⟨λq=>?_,λq=>?_⟩
 ·rw[h];show((if w.1=x then some (0,w.2)else _):Option (Nat×Nat)).map _=_
  rw[if_pos q];show some (0+i,w.2)=_;rw[vZ]
 ·rw[h];show((if w.1=x then some (0,w.2)else (look (ws.drop (i+1)) x).map λp=>(p.1+1,p.2)):Option (Nat×Nat)).map _=_
  rw[if_neg q,Option.map_map];congr 1
  funext p
  show(p.1+1+i,p.2)=(p.1+(i+1),p.2);rw[sK,jB 1 i]
theorem Gb:∀{ws:List (Str×Nat)}{x:Str}{i c:Nat},look ws x=some (i,c)->∃w,ws[i]?=some w/\w.1=x/\w.2=c
 | [],_,_,_,h=>by cases h
 |w::r,x,i,c,h=>by
  have h':(if w.1=x then some (0,w.2)else (look r x).map λp=>(p.1+1,p.2))=some (i,c):=h
  by_cases q:w.1=x
  ·rw[if_pos q]at h';cases h';exact⟨w,rfl,q,rfl⟩
  ·rw[if_neg q]at h';obtain⟨⟨j,d⟩,e1,e2⟩:=iU.mp h';cases e2;obtain⟨w',z1,z2⟩:=Gb e1;exact⟨w',by rw[List.getElem?_cons_succ];exact z1,z2⟩
structure U0 (ws:List (Str×Nat))(x:Str)(v:Int)(cF cV:Addr)(H:Hp)(E:XK)(FF:Nat->Prop):Prop where
 no:look ws x=none->∀dx H',Same H H'->H' dx=some (.xd [("field",.str x)])->E (.ref cF) (some dx) H'
 bad:∀i c,look ws x=some (i,c)->¬(0<=v/\v < (c:Int))->∀dx H',Same H H'->H' dx=some (.xd [("value",.int v)])->E (.ref cV) (some dx) H'
 ok:∀i c,look ws x=some (i,c)->0<=v/\v < (c:Int)->FF i
def Ay (K:aC)(cF cV:Addr):Sp:=λvs H Q E=>∃(sp:Addr)(ws:List (Str×Nat)) (x:Str) (v:Int),vs=[.ref sp,.str x,.int v]/\Hold K H (.ref sp) (cy ws)/\v.natAbs.log2 < 1000/\(uG x).length<=2000/\
 U0 ws x v cF cV H E λi=>∀H',Same H H'->Q (.int (i:Int)) H'
section
variable {P:aP}{w:aW}{K:aC}{mg:Str->Option aB}{base:Heap}{cF cV:Addr}
theorem Om:au ["speech","field","value","place","pair"] ["speech","field","value"] (aj Dc):=⟨rfl,rfl,rfl,by decide +kernel,rfl,by decide +kernel,by decide +kernel⟩
theorem On {f fM fI:Addr}{fd UB EC:bX}(F:Fun K "place_of" "place_of" Dc f fd)(c:j4 K cF)(n:NoAttr K cF "field")(hi:cH K (.ref cF) "__init__"=some (some (.ref fI)))(lf:∃oI,K.lookup fI=some oI/\oI.cls=.type "function")
  (GI:FnOk P w K mg base CX0 1 fI EC ["self","field"] (jx K cF "field" qa)) (bI:Binds K EC ["self","field"] []) (mF:mg "NoField"=some (.ref cF))
  (GM:FnOk P w K mg base (CXx P w) 3 fM UB ["count","value"] (Li cV)) (bM:Binds K UB ["count","value"] []) (kM:aV K (.ref fM)=true) (mM:mg "must_value"=some (.ref fM)) (me:mg "enumerate"=none) :
  FnOk P w K mg base (CXx P w) 4 f fd ["speech","field","value"] (Ay K cF cV):=by
 refine F.okX Om (λvs H Q E h=>?_) (λzH A outer s H vs Q E hr h=>?_)
 ·obtain⟨sp,ws,x,v,rfl,_⟩:=h;rfl
 obtain⟨sp,ws,x,v,rfl,hS,lv,lx,o⟩:=h;refine⟨_,ag (dv PassesOwn.leaving rfl (Se rfl me (aa (pv 0) ae)) (tj rfl (fb (ba (i:=3) Om.nd rfl (cD rfl)) (fb (ba (i:=4) Om.nd rfl (cD rfl)) m9))) (ah (cn (bc dh (aq bx (pv 4) af (λ_ _=>rfl)) (pv 1) (bg _)) (ag (cw (ao GM hr rfl mM kM bM .nil jw (aa (aq bx (pv 4) af (λ_ _=>rfl)) (aa (pv 2) ae)))) (ah (ax (pv 3)))) bo))) (ah (qp c (qo c hi lf GI (hr.mono (by decide)) rfl mF bI (aa (pv 1) ae)))),?_⟩;dsimp only[bb,Cx.nox];obtain⟨a,ys,ea,ha,AO⟩:=Hold.tupI hS;cases ea;have ll:ys.length=ws.length:=(by rw[AO.length,aI]);refine⟨_,rfl,sp,ys,rfl,ha,Og (xs:=ys) (λi σ G=>∃v3 v4:Option V,σ=[some (.ref sp),some (.str x),some (.int v),v3,v4]/\Same H G/\look ws x=(look (ws.drop i) x).map λp=>(p.1+i,p.2)) ⟨_,_,rfl,λ_ _ z=>z,by simp⟩ (λi σ G _ zF=>by obtain⟨_,_,_,sG,_⟩:=zF;exact ha.same sG) ?_ ?_⟩
 ·intro i y p σ G hy zE hp;obtain⟨v3,v4,rfl,sG,lk⟩:=zE;generalize zI:d6.mk _ _ _ _=zV;revert zI zV;refine id ?_;intro zV zI;obtain⟨w',ew,hw⟩:=AO.getm hy;obtain⟨b2,EO,rfl,PN,hys2⟩:=Hold.tupI hw;cases hys2 with
  |cons h1 r1=>
   cases r1 with
   |cons h2 r2=>
    cases r2;cases h1.flatI;cases h2.flatI;have sP:Same H (upd G p (.tup [.int (i:Int),.ref b2])):=Same.trans sG (ad hp _);have DL:SqT K (upd G p (.tup [.int (i:Int),.ref b2])) b2 [.str w'.1,.int (w'.2:Int)]:=PN.same sP;obtain⟨l1,l2⟩:=Si ew lk;refine⟨p,_,rfl,SqT.of ac,rfl,_,_,rfl,_,_,rfl,rfl,?_⟩;refine⟨_,rfl,b2,_,_,_,rfl,rfl,DL,rfl,_,rfl,rfl,_,rfl,?_⟩;refine cz (λe=>?_) (λe=>?_)
    ·have e':w'.1=x:=(by have z:=of_decide_eq_true e;cases z;rfl);have lo:=l1 e';refine⟨_,rfl,b2,_,_,_,rfl,rfl,DL,rfl,_,rfl,(w'.2:Int),v,rfl,lv,λg=>?_,λg dx H' s' hx=>?_⟩
     ·subst zI;exact⟨_,rfl,o.ok i w'.2 lo g _ sP⟩
     ·exact o.bad i w'.2 lo g dx H' (Same.trans sP s') hx
    ·have e':w'.1≠x:=λz=>(by rw[z]at e;simp at e);subst zI;exact⟨_,_,rfl,sP,l2 e'⟩
 ·intro σ G zE;obtain⟨v3,v4,rfl,sG,lk⟩:=zE;rw[ll,sM]at lk;refine⟨_,rfl,(by show 1<=100;decide),λe he=>⟨e,.str x,rfl,c,n,lx,ac,λdx hd ne=>⟨rfl,e,some dx,rfl,ac,Same.free sG he,?_⟩⟩⟩;obtain⟨z1,z2,_⟩:=n9 (o2:=.xd [("field",.str x)]) (o3:=fh e cF (some dx)) he hd ne;exact o.no lk dx _ (Same.trans sG z1) z2
theorem Oo {σ:L2.St}{G:Hp}{Q:VK}{a:Addr}{l:List Int}{i jl ji jv:Nat}{v:Int}(h1:σ[jl]?=some (some (.ref a)))(h2:σ[ji]?=some (some (.int (i:Int))))(h3:σ[jv]?=some (some (.int v)))(ha:SqT K G a (l.map V.int))(hi:i < l.length)(hl:l.length<=100)
  (q:∀p G',Same G G'->G' p=some (.tup ((l.take i++v::l.drop (i+1)).map V.int))->Q (.ref p) G') :
  tOp (λx y H Q=>io K x y H Q\/fz K x y H Q) (tOp (λx y H Q=>io K x y H Q\/fz K x y H Q) (tSl (ni K) (ii jl) j0 (qh (ii ji))) (N4 (Cf (ii jv) N3)))
   (tSl (ni K) (ii jl) (qh (tOp (rI0 λi j=>.int (i+j)) (ii ji) (tC (.int 1)))) j0) σ G Q:=by
 have s0:HT.sIx (l.map V.int).length 0 none=0:=rfl;have s1:HT.sIx (l.map V.int).length (l.map V.int).length (some (i:Int))=i:=(by rw[HT.sIx_nat,aI];lia);have s2:HT.sIx (l.map V.int).length 0 (some ((i:Int)+1))=i+1:=by
  have z:=HT.sIx_nat (l.map V.int).length 0 (i+1);rw[aI]at z ⊢;rw[show((i:Int)+1)=((i+1:Nat):Int)from by lia,z];lia
 have s3:HT.sIx (l.map V.int).length (l.map V.int).length none=l.length:=(by rw[HT.sIx_none,aI]);have c1:cr (l.map V.int) none (some (i:Int))=(l.take i).map V.int:=by
  unfold cr;rw[s0,s1];simp
 have c2:cr (l.map V.int) (some ((i:Int)+1)) none=(l.drop (i+1)).map V.int:=by
  unfold cr;rw[s2,s3,lF (by rw[hX,aI];lia),xF]
 have zL:∀p G',Same G G'->G' p=some (.tup ((l.take i++[v]).map V.int))->
   tSl (ni K) (ii jl) (qh (tOp (rI0 λi j=>.int (i+j)) (ii ji) (tC (.int 1)))) j0 σ G' λy H2=>io K (.ref p) y H2 Q\/fz K (.ref p) y H2 Q:=by
  intro p G' sG hp;have DN:=ha.same sG;refine⟨_,h1,_,h2,_,_,rfl,rfl,_,rfl,a,_,rfl,DN,?_,λp2 f2=>?_⟩
  ·rw[s2];lia
  ·rw[c2];have pp:p≠p2:=am hp f2;have zZ:upd G' p2 (.tup ((l.drop (i+1)).map V.int)) p=some (.tup ((l.take i++[v]).map V.int)):=(by rw[ai pp];exact hp);have ED:Same G (upd G' p2 (.tup ((l.drop (i+1)).map V.int))):=Same.trans sG (ad f2 _);refine .inl ⟨p,p2,_,_,rfl,rfl,SqT.of zZ,SqT.of ac,by simp,small (by simp;lia),λe=>?_,λ_ p3 f3=>?_⟩
   ·have e':l.drop (i+1)=[]:=(by simpa using e);refine q p _ ED ?_;rw[zZ,e']
   ·refine q p3 _ (Same.trans ED (ad f3 _)) ?_;rw[ac];simp
 refine⟨_,h1,_,h2,_,rfl,a,_,rfl,ha,?_,λp1 f1=>?_⟩
 ·rw[s1,aI];lia
 rw[c1];refine⟨_,h3,sz1,λp2 f2=>?_⟩;have PP:p1≠p2:=λe=>(by rw[e,ac]at f2;cases f2);have BC:upd (upd G p1 (.tup ((l.take i).map V.int))) p2 (.tup [.int v]) p1=some (.tup ((l.take i).map V.int)):=(by rw[ai PP,ac]);have ED:Same G (upd (upd G p1 (.tup ((l.take i).map V.int))) p2 (.tup [.int v])):=Same.trans (ad f1 _) (ad f2 _);by_cases i0:l.take i=[]
 ·refine .inr ⟨p1,p2,_,rfl,rfl,SqT.of (by rw[BC,i0];rfl),SqT.of ac,zL p2 _ ED ?_⟩;rw[ac,i0];rfl
 ·refine .inl ⟨p1,p2,_,_,rfl,rfl,SqT.of BC,SqT.of ac,(by simpa using i0),small (by simp;lia),(λe=>by cases e),λ_ p3 f3=>zL p3 _ (Same.trans ED (ad f3 _)) ?_⟩;rw[ac];simp
end
end S23
namespace L2
open PySem PySem.Spec PyProof.Rows
end L2
namespace S23
open PySem L2 Fly
theorem Jk {x:Str}(hl:x.length<=100)(hc:∀c∈x.cps.toList,c < 1000):(uG x).length<=2000:=by
 have z:=StrLaws.reprText_len x λc h=>jK (hc c h) (by decide);lia
theorem Bq {x:Str}(w:t9 x):(uG x).length<=2000:=Jk (by have:=w.len;lia) λc hc=>by have:=(w.cps c hc).2;lia
theorem Jl {ns:List Str}{v:Int}(h0:0<=v)(h1:v < (ns.length:Int)):∃x∈ns,atI (ns.map V.str) v=some (.str x):=by
 have hk:v.toNat < ns.length:=(by lia);have ek:v=((v.toNat:Nat):Int):=(by lia);have q:atI (ns.map V.str) ((v.toNat:Nat):Int)=some (.str ns[v.toNat]):=bf (by rw[cY,aK hk]<;>rfl);rw[<-ek]at q;exact⟨_,pW hk,q⟩
theorem Br {i:Int}(h:-1000000000000000000000000000000000000000000000000000000000000<=i/\i<=1000000000000000000000000000000000000000000000000000000000000):i.natAbs.log2 < 1000:=by
 by_cases z:i.natAbs=0
 ·rw[z];decide
 ·have h1:i.natAbs < 2 ^ 500:=jY (show i.natAbs<=1000000000000000000000000000000000000000000000000000000000000 by lia) (by decide);exact jK ((Nat.log2_lt z).mpr h1) (by decide)
def Dv (K:aC):Sp:=λvs H Q _=>∃(x:V)(s:Say),vs=[x]/\Hold K H x s.da/\∀(a:Addr)(xs:List V) (H':Hp),Same H H'->SqT K H' a xs->Holds K H' xs (s.kids.map Say.da)->Q (.ref a) H'
def qb (K:aC):Sp:=λvs H Q _=>∃(x:V)(s:Say),vs=[x]/\Hold K H x s.da/\s.size<=500/\∀(r:Addr)(xs:List V) (H':Hp),Same H H'->H' r=some (.lst xs)->Holds K H' xs (s.parts.map Say.da)->Q (.ref r) H'
def Qs (K:aC):Sp:=λvs H Q _=>∃(x:V)(s:Say),vs=[x]/\Hold K H x s.da/\s.size<=500/\∀H':Hp,Same H H'->Q (.bl s.isT) H'
def Qt (K:aC):Sp:=λvs H Q _=>∃(x:V)(s:Say),vs=[x]/\Hold K H x s.da/\s.size<=500/\∀H':Hp,Same H H'->Q (.int (s.nts:Int)) H'
theorem Dw:∀l:List Say,l.length<=(l.map Say.size).sum
 | []=>aN _
 |s::r=>by
  have z:=Dw r;have y:=nk s;rw[cX,eO,List.sum_cons];lia
theorem gk {α:Type}(x:α)(xs:List α):atI (x::xs) (0:Int)=some x:=bf (j:=0) rfl
theorem U1 (x:V)(xs:List V):cr (x::xs) (some 1) none=xs:=by
 unfold cr;have e:HT.sIx (x::xs).length 0 (some 1)=1:=by
  rw[show(some (1:Int))=some (((1:Nat):Int))from rfl,HT.sIx_nat,cX];lia
 rw[e,HT.sIx_none];show List.take ((x::xs).length - 1) xs=xs;rw[cX,Nat.add_sub_cancel];exact eZ
section
variable {P:aP}{w:aW}{K:aC}{mg:Str->Option aB}{base:Heap}
theorem scHe:au ["saying"] ["saying"] (aj Is):=⟨rfl,rfl,rfl,by decide +kernel,rfl,by decide +kernel,by decide +kernel⟩
theorem Sj {f aH:Addr}{fd:bX}(F:Fun K "held_in" "held_in" Is f fd)(mH:mg "HOLDING_SORTS"=some (.ref aH))(tH:∀H:Hp,SqT K H aH HS):FnOk P w K mg base CX0 1 f fd ["saying"] (Dv K):=by
 refine F.ok scHe (λvs H Q E h=>?_) (λzH A outer s H vs Q E hr h=>?_)
 ·obtain⟨x,s,rfl,_⟩:=h;rfl
 obtain⟨x,sy,rfl,hx,q⟩:=h;refine⟨_,ag (cn (bc tz (aq bx (pv 0) af (λ_ _=>rfl)) (Ai (v:=.ref aH) rfl mH rfl) (by with_unfolding_all rfl)) (ah (ax (bq pj (pv 0) (bw af) cq))) bo) (ah (ax (c9 ae))),?_⟩
 dsimp only[bb,Cx.nox];obtain⟨a,xs,rfl,ha,hk⟩:=ng hx;refine⟨_,rfl,a,_,_,_,rfl,rfl,ha,gk _ _,aH,HS,rfl,.inr (tH _),rfl,by decide +kernel,_,rfl,?_⟩;show if inV (.str sy.sort) HS=true then _ else _
 rw[Wv];refine cz (λc=>?_) (λc=>?_)
 ·refine⟨_,rfl,_,rfl,a,_,rfl,ha,λz=>?_,λp hp=>?_⟩
  ·have e:HT.sIx (V.str sy.sort::xs).length 0 (some 1)=1:=by
    rw[show(some (1:Int))=some (((1:Nat):Int))from rfl,HT.sIx_nat,cX];lia
   rw[e]at z;exact absurd z.1 (by decide)
  ·rw[U1];exact q p xs _ (ad hp _) (SqT.of ac) (Holds.mono (ad hp _) (hk c))
 ·refine⟨sz0,λp hp=>?_⟩;refine q p [] _ (ad hp _) (SqT.of ac) ?_;rw[Sf (by simpa using c)];exact .nil
theorem Jm:au ["saying","parts","waiting","part"] ["saying"] (aj Dd):=⟨rfl,rfl,rfl,by decide +kernel,rfl,by decide +kernel,by decide +kernel⟩
theorem g0 {K:aC}{H:Hp}:∀{xs:List V}{ds:List Da}{d:Da},Holds K H xs (ds++[d])->∃ys y,xs=ys++[y]/\Holds K H ys ds/\Hold K H y d
 | [],[],_,h=>by cases h
 | [],_::_,_,h=>by cases h
 |x::xs,[],d,h=>by
  cases h with
  |cons a r=>
   cases r;exact⟨[],x,rfl,.nil,a⟩
 |x::xs,e::ds,d,h=>by
  cases h with
  |cons a r=>
   obtain⟨ys,y,rfl,h1,h2⟩:=g0 r;exact⟨x::ys,y,rfl,.cons a h1,h2⟩
theorem Holds.rev {K:aC}{H:Hp}:∀{xs:List V}{ds:List Da},Holds K H xs ds->Holds K H xs.reverse ds.reverse
 | [],_,h=>by cases h;exact .nil
 |_::_,_,h=>by
  cases h with
  |cons a r=>
   rw[iZ,iZ];exact Holds.append (Holds.rev r) (.one a)
theorem Op {f g:Addr}{fd gd:bX}(F:Fun K "parts_of" "parts_of" Dd f fd)(G:FnOk P w K mg base CX0 1 g gd ["saying"] (Dv K))(bG:Binds K gd ["saying"] [])(kG:aV K (.ref g)=true)(mG:mg "held_in"=some (.ref g)) :
  FnOk P w K mg base CX0 2 f fd ["saying"] (qb K):=by
 refine F.ok Jm (λvs H Q E h=>?_) (λzH A outer s H vs Q E hr h=>?_)
 ·obtain⟨x,s,rfl,_⟩:=h;rfl
 obtain⟨x,sy,rfl,hx,AB,q⟩:=h;refine⟨_,ag (av (i:=1) Jm.nd rfl (cD rfl) (az ae)) (ag (av (i:=2) Jm.nd rfl (cD rfl) (az (aa (pv 0) ae))) (ag (nh eU (qg (pv 2) (λ_=>rfl)) (ag (av (i:=3) Jm.nd rfl (cD rfl) (yp fQ sU sV C0 (pv 2))) (ag (cw (mw fQ lV lW ir (pv 1) (aa (pv 3) ae))) (ah (cw (mw fQ PySem.F.slot_list_extend PySem.F.type_list_extend R8 (pv 2) (aa (Fx (ao G hr rfl mG kG bG .nil aw (aa (pv 3) ae)) (n8 kq af)) ae))))))) (ah (ax (pv 1))))),?_⟩;dsimp only[bb,Cx.nox];refine⟨sz0,λu hu=>⟨_,rfl,sz1,λv hv=>?_⟩⟩;have uv:u≠v:=am ac hv;have NG:H v=none:=Same.free (ad hu _) hv;refine⟨λm σ G=>∃(done AE:List Say)(xs ys:List V) (v3:Option V),σ=[some x,some (.ref u),some (.ref v),v3]/\Same H G/\G u=some (.lst xs)/\G v=some (.lst ys)/\Holds K G xs (done.map Say.da)/\Holds K G ys (AE.map Say.da)/\done++AE.reverse.flatMap Say.parts=sy.parts/\m=(AE.map Say.size).sum/\done.length+(AE.map Say.size).sum=sy.size/\AE.length<=(AE.map Say.size).sum,⟨_,[],[sy],[],[x],none,rfl,Same.put (ad hu _) NG _,(by rw[ai uv,ac]),ac,.nil,.one (Hold.mono (Same.put (ad hu _) NG _) hx),by simp,rfl,by simp,by simpa using nk sy⟩,?_⟩;intro m σ G zE;obtain⟨done,AE,xs,ys,v3,rfl,sG,gu,gv,hd,hw,ep,em,el,lw⟩:=zE;refine⟨_,rfl,!ys.isEmpty,.inl ⟨ys,SqL.of gv,rfl⟩,?_⟩;have ly:ys.length=AE.length:=(by rw[hw.length,aI]);have lx:xs.length=done.length:=(by rw[hd.length,aI]);refine cz (λc=>?_) (λc=>?_)
 ·rcases nO AE with e | ⟨w0,p,e⟩
  ·subst e;have z:ys=[]:=iB.mp ly;rw[z]at c;cases c
  ·rw[nP]at e;subst e;rw[cU]at hw;obtain⟨zs,y,rfl,hz,hy⟩:=g0 hw;have sm:((w0++[p]).map Say.size).sum=(w0.map Say.size).sum+p.size:=(by simp);rw[sm]at em el lw;have w1:w0.length+1<=(w0.map Say.size).sum+p.size:=(by simpa using lw);have ps:=nk p;refine⟨λσ' G'=>∃(done AE:List Say)(xs ys:List V) (v3:Option V),σ'=[some x,some (.ref u),some (.ref v),v3]/\Same H G'/\G' u=some (.lst xs)/\G' v=some (.lst ys)/\Holds K G' xs (done.map Say.da)/\Holds K G' ys (AE.map Say.da)/\done++AE.reverse.flatMap Say.parts=sy.parts/\(AE.map Say.size).sum+1=m/\done.length+(AE.map Say.size).sum=sy.size/\AE.length<=(AE.map Say.size).sum,λσ' G' z=>?_,?_⟩
   ·obtain⟨d',w',AM,FC,v3',z1,z2,z3,z4,z5,z6,z7,z8,z9,PQ⟩:=z;exact⟨m - 1,by lia,d',w',AM,FC,v3',z1,z2,z3,z4,z5,z6,z7,by lia,z9,PQ⟩
   ·refine⟨_,rfl,.inl ⟨rfl,_,SqL.of gv⟩,v,zs++[y],y,rfl,rfl,gv,by simp,?_⟩;rw[List.dropLast_concat];have t1:Tups G (upd G v (.lst zs)):=Tups.put gv _;refine⟨_,rfl,.inl ⟨rfl,_,SqL.of (by rw[ai uv];exact gu)⟩,_,rfl,u,xs,y,rfl,rfl,(by rw[ai uv];exact gu),be (by lia),?_⟩;have LD:upd G v (.lst zs) u=some (.lst xs):=(by rw[ai uv];exact gu);have t2:Tups G (upd (upd G v (.lst zs)) u (.lst (xs++[y]))):=t1.trans (Tups.put LD _);have s2:Same H (upd (upd G v (.lst zs)) u (.lst (xs++[y]))):=Same.put (Same.put sG NG _) hu _;have UC:upd (upd G v (.lst zs)) u (.lst (xs++[y])) v=some (.lst zs):=(by rw[ai uv.symm,ac]);refine⟨_,rfl,.inl ⟨rfl,_,SqL.of UC⟩,_,rfl,y,p,rfl,Hold.stay t2 (C7 p) hy,λa ks G3 s3 ha hk=>⟨_,rfl,rfl,a,ks,rfl,ha,λt ht=>?_⟩⟩;have UD:G3 v=some (.lst zs):=s3 _ _ UC;have vt:v≠t:=am UD ht;have PR:upd G3 t (.tup ks.reverse) v=some (.lst zs):=(by rw[ai vt];exact UD);have lk:ks.length=p.kids.length:=(by rw[hk.length,aI]);have szp:=size_eq p;have kl:p.kids.length<=(p.kids.map Say.size).sum:=Dw _;have zl:zs.length=w0.length:=(by rw[hz.length,aI]);refine⟨v,t,zs,ks.reverse,rfl,rfl,PR,SqT.of ac,small (by rw[gL];lia),?_⟩;have t4:Tups G (upd (upd G3 t (.tup ks.reverse)) v (.lst (zs++ks.reverse))):=(t2.trans (Tups.of s3)).trans ((Tups.of (ad ht _)).trans (Tups.put PR _));have t5:Tups G3 (upd (upd G3 t (.tup ks.reverse)) v (.lst (zs++ks.reverse))):=(Tups.of (ad ht _)).trans (Tups.put PR _);have ut:u≠t:=am (s3 _ _ ac) ht;have fx:∀l:List Say,fixL (l.map Say.da)=true:=λl=>df C7 l;refine⟨done++[p],w0++p.kids.reverse,xs++[y],zs++ks.reverse,_,rfl,Same.put (Same.put (Same.trans s2 s3) (Same.free (Same.trans s2 s3) ht) _) NG _,(by rw[ai uv,ai ut];exact s3 _ _ ac),ac,?_,?_,?_,?_,?_,?_⟩
    ·rw[cU];exact Holds.append (Holds.stay t4 (fx _) hd) (.one (Hold.stay t4 (C7 p) hy))
    ·rw[cU,lK];exact Holds.append (Holds.stay t4 (fx _) hz) (Holds.stay t5 (by rw[<-lK];exact fx _) (Holds.rev hk))
    ·rw[qJ,oC,oN,<-ep,qJ];simp[iu p]
    ·rw[cU,tQ,lK,wA];lia
    ·rw[cU,tQ,lK,wA,aO,eX];lia
    ·rw[cU,tQ,lK,wA,aO,gL];have w2:w0.length<=(w0.map Say.size).sum:=Dw w0;lia
 ·have z:ys=[]:=by
   cases ys with
   |nil=>rfl
   |cons _ _=>exact absurd rfl c
  rw[z]at ly;have e:AE=[]:=iB.mp ly.symm;subst e;refine⟨_,rfl,q u xs G sG gu ?_⟩;rw[<-ep];simpa using hd
end
end S23
namespace L2
open PySem PySem.Spec PyProof.Rows
theorem iw {X:Cx}{ns:List Str}{sc:gM}(kind:sc.kind=.function)(nofree:∀y∈sc.names,y.2≠.free)(nocell:∀y∈sc.names,y.2≠.cell)(locs:∀y∈sc.names,y.2=.local->sc.names.lookup y.1=some .local):bv X ns [] [] sc [] where
 clos:=closureFor_none nofree
 kind:=kind
 nocell:=nocell
 locs:=locs
 sub:=λp hp=>nomatch hp
 has:=λy h=>by
  have e:(pK sc X.env).names=sc.names:=map_eq_self λp hp=>by
   obtain⟨n,k⟩:=p;have z:(k == NameKind.free)=false:=(by simpa using nofree _ hp);simp[z]
  rw[e]at h;rcases h with h | h
  ·exact absurd rfl (nocell _ (dt h))
  ·exact absurd rfl (nofree _ (dt h))
 len:=rfl
 outs:=λj y e=>by cases j<;>cases e
end L2
namespace S23
open PySem L2
def U2:gM:={ kind:=.function,names:=[(".0",.local),("part",.local),("TEST_SORTS",.globalImplicit)],isGenerator:=false,isCoroutine:=false,more:=[] }
def U3:gM:={ kind:=.function,names:=[(".0",.local),("part",.local)],isGenerator:=false,isCoroutine:=false,more:=[] }
section
variable {P:aP}{w:aW}{K:aC}{mg:Str->Option aB}{base:Heap}
theorem csC1 {X:Cx}:bv X ["part"] [] [] U2 []:=iw rfl (by decide +kernel) (by decide +kernel) (by decide +kernel)
theorem csC2 {X:Cx}:bv X ["part"] [] [] U3 []:=iw rfl (by decide +kernel) (by decide +kernel) (by decide +kernel)
theorem scTe:au ["saying"] ["saying"] (aj Oh):=⟨rfl,rfl,rfl,by decide +kernel,rfl,by decide +kernel,by decide +kernel⟩
theorem U4 {f g aT:Addr}{fd gd:bX}(F:Fun K "is_test" "is_test" Oh f fd)(G:FnOk P w K mg base CX0 2 g gd ["saying"] (qb K))(bG:Binds K gd ["saying"] [])(kG:aV K (.ref g)=true)(mG:mg "parts_of"=some (.ref g))
  (ma:mg "all"=none) (mT:mg "TEST_SORTS"=some (.ref aT)) (tT:∀H:Hp,SqT K H aT TS):FnOk P w K mg base CX0 3 f fd ["saying"] (Qs K):=by
 refine F.ok scTe (λvs H Q E h=>?_) (λzH A outer s H vs Q E hr h=>?_)
 ·obtain⟨x,s,rfl,_⟩:=h;rfl
 obtain⟨x,sy,rfl,hx,AB,q⟩:=h;refine⟨_,ah (ax (bn (Lb rfl) rfl ma (by kernel_rfl) (aa (dy (ns:=["part"]) (ys:=[]) (sc:=U2) csC1 rfl (cf (ao G hr rfl mG kG bG .nil aw (aa (pv 0) ae))) (λC s H fp=>ba (i:=0) (by show(["part"]:List Str).Nodup;decide +kernel) rfl (cD rfl)) (λC s H fp=>cx) (λC s H fp=>na (r:=rIn K false) tz (aq (r:=Ie K) bx (pv 0) af (λ_ _=>rfl)) (Ai (v:=.ref aT) rfl mT rfl) (by with_unfolding_all rfl))) ae))),?_⟩
 dsimp only[bb,Cx.nox];refine⟨_,rfl,x,sy,rfl,hx,AB,λr xs G1 s1 gr hd=>⟨r,rfl,⟨_,SqL.of gr⟩,λD hD=>?_⟩⟩;have lx:xs.length=sy.size:=(by rw[hd.length,aI,gq]);refine di (K:=K) (a:=r) (xs:=xs) (λi ys G2=>Same G1 G2/\G2 D=some (.lst ys)/\ys=((sy.parts.take i).map Say.inT).map V.bl) ⟨ad hD _,ac,rfl⟩ (λi ys G2 z=>z.2.1) (λi ys G2 _ z=>SqL.of (z.1 _ _ gr)) ?_ ?_
 ·intro i x' ys G2 AX zE;obtain⟨s2,d2,rfl⟩:=zE;obtain⟨p,ep,hp⟩:=hd.getm AX;obtain⟨a,zs,rfl,ha,_⟩:=ng hp;have il:i < sy.parts.length:=(aL.mp ep).1;rw[gq]at il;refine⟨be (by rw[aI,aI,dJ];lia),⟨[some _],rfl,rfl⟩,?_⟩;refine⟨_,rfl,a,_,_,_,rfl,rfl,ha.same s2,gk _ _,aT,TS,rfl,.inr (tT _),rfl,by decide +kernel,d2,Same.put s2 hD _,ac,?_⟩;rw[eJ,ep];show _++[V.bl (inV (.str p.sort) TS)]=_;rw[Ww];simp
 ·intro ys G2 zE;obtain⟨s2,d2,rfl⟩:=zE;refine⟨D,_,rfl,SqL.of d2,?_⟩;have e:((sy.parts.take xs.length).map Say.inT).all id=sy.isT:=by
   rw[lx,<-gq,eZ,<-Iq,List.all_map];rfl
  rw[e];exact q G2 (Same.trans s1 s2)
theorem scNo:au ["saying"] ["saying"] (aj Oi):=⟨rfl,rfl,rfl,by decide +kernel,rfl,by decide +kernel,by decide +kernel⟩
theorem U5 {f g:Addr}{fd gd:bX}(F:Fun K "notes_in" "notes_in" Oi f fd)(G:FnOk P w K mg base CX0 2 g gd ["saying"] (qb K))(bG:Binds K gd ["saying"] [])(kG:aV K (.ref g)=true)(mG:mg "parts_of"=some (.ref g))
  (ml:mg "len"=none):FnOk P w K mg base CX0 3 f fd ["saying"] (Qt K):=by
 refine F.ok scNo (λvs H Q E h=>?_) (λzH A outer s H vs Q E hr h=>?_)
 ·obtain⟨x,s,rfl,_⟩:=h;rfl
 obtain⟨x,sy,rfl,hx,AB,q⟩:=h;refine⟨_,ah (ax (bn bj rfl ml gF (aa (dy (ns:=["part"]) (ys:=[]) (sc:=U3) csC2 rfl (cf (ao G hr rfl mG kG bG .nil aw (aa (pv 0) ae))) (λC s H fp=>ba (i:=0) (by show(["part"]:List Str).Nodup;decide +kernel) rfl (cD rfl)) (λC s H fp=>pw (bc dh (aq (r:=Ie K) bx (pv 0) af (λ_ _=>rfl)) bh (bg _))) (λC s H fp=>pv 0)) ae))),?_⟩;dsimp only[bb,Cx.nox];refine⟨_,rfl,x,sy,rfl,hx,AB,λr xs G1 s1 gr hd=>⟨r,rfl,⟨_,SqL.of gr⟩,λD hD=>?_⟩⟩;have lx:xs.length=sy.size:=(by rw[hd.length,aI,gq]);refine di (K:=K) (a:=r) (xs:=xs) (λi ys G2=>Same G1 G2/\G2 D=some (.lst ys)/\ys.length=((sy.parts.take i).filter Say.isN).length) ⟨ad hD _,ac,rfl⟩ (λi ys G2 z=>z.2.1) (λi ys G2 _ z=>SqL.of (z.1 _ _ gr)) ?_ ?_
 ·intro i x' ys G2 AX zE;obtain⟨s2,d2,e2⟩:=zE;obtain⟨p,ep,hp⟩:=hd.getm AX;obtain⟨a,zs,rfl,ha,_⟩:=ng hp;have il:i < sy.parts.length:=(aL.mp ep).1;rw[gq]at il;have yl:ys.length<=i:=by
   rw[e2];exact bQ (jU _ _) (by rw[dJ];lia)
  have e3:((sy.parts.take (i+1)).filter Say.isN).length=ys.length+(if p.isN=true then 1 else 0):=by
   rw[eJ,ep,lO,aO,<-e2];cases q:p.isN<;>simp[q]
  refine⟨be (by lia),⟨[some _],rfl,rfl⟩,?_⟩;refine⟨_,rfl,a,_,_,_,rfl,rfl,ha.same s2,gk _ _,rfl,_,rfl,?_⟩;rw[is_N];refine cz (λc=>?_) (λc=>?_)
  ·refine⟨_,rfl,d2,Same.put s2 hD _,ac,?_⟩;rw[e3,if_pos c,aO];rfl
  ·refine⟨s2,d2,?_⟩;rw[e3,if_neg c];rfl
 ·intro ys G2 zE;obtain⟨s2,d2,e2⟩:=zE;refine⟨D,ys,rfl,.inl (SqL.of d2),?_⟩;rw[e2,lx,<-gq,eZ,vz];exact q G2 (Same.trans s1 s2)
end
end S23
namespace L2
theorem ifS {c:TT}{a b:TS}{D:d6}{σ:St}{H:Hp}(R T:Hp->Prop)(hc:∀k:Bool->Hp->Prop,(∀G,R G->k false G)->(∀G,T G->k true G)->c σ H k)(ha:∀G,T G->a D σ G)(hb:∀G,R G->b D σ G):Nt c a b D σ H:=
 hc _ (λG r=>de (hb G r)) (λG t=>jj (ha G t))
theorem andV {ta tb:TE}{σ:St}{H:Hp}{Q:VK}{c d:Bool}(h1:∀k:VK,k (.bl c) H->ta σ H k)(h2:∀k:VK,k (.bl d) H->tb σ H k)(q:Q (.bl (c && d)) H):Qn ta tb σ H Q:=by
 refine h1 _ ⟨c,rfl,?_⟩;cases c with
 |false=>exact de q
 |true=>exact jj (h2 _ q)
end L2
namespace S23
open PySem L2
abbrev bu:=Say×Int
def dq (i:bu):Da:=.lst [i.1.da,.flat (.bl i.1.isT),.flat (.int (i.1.nts:Int)),.flat (.int i.2)]
def cb (is:List bu):Nat:=(is.map λi=>i.1.size).sum
theorem cp (a b:List bu):cb (a++b)=cb a+cb b:=by simp[cb]
theorem cv (i:bu):cb [i]=i.1.size:=by simp[cb]
theorem np:∀is:List bu,is.length<=cb is
 | []=>aN _
 |i::r=>by
  have z:=np r;have y:=nk i.1;show r.length+1<=cb ([i]++r);rw[cp,cv];lia
theorem Keep.trans {p:Addr}{H G G':Hp}(a:Keep p H G)(b:Keep p G G'):Keep p H G':=λc o h e=>b c o h (a c o h e)
theorem Keep.new {p t:Addr}{H G:Hp}(a:Keep p H G)(h:G t=none)(o:HO):Keep p H (upd G t o):=λc u hc e=>by
 have z:=a c u hc e;rw[ai (am z h)];exact z
theorem iy {K:aC}{H:Hp}{x:V}{i:bu}(h:Hold K H x (dq i)):∃a y,x=.ref a/\SqL K H a [y,.bl i.1.isT,.int (i.1.nts:Int),.int i.2]/\Hold K H y i.1.da:=by
 obtain⟨a,xs,e,ha,hd⟩:=Hold.lstI h;cases hd with
 |cons h1 r1=>
  cases r1 with
  |cons h2 r2=>
   cases r2 with
   |cons h3 r3=>
    cases r3 with
    |cons h4 r4=>
     cases r4;cases h2.flatI;cases h3.flatI;cases h4.flatI;exact⟨a,_,e,ha,h1⟩
theorem gw {K:aC}{H:Hp}{a:Addr}{y:V}{i:bu}{t:Bool}{n:Int}(ha:H a=some (.lst [y,.bl t,.int n,.int i.2]))(hy:Hold K H y i.1.da)(ht:t=i.1.isT)(hn:n=(i.1.nts:Int)):Hold K H (.ref a) (dq i):=by
 subst ht hn;exact .lst (SqL.of ha) (.cons hy (.cons (.flat rfl) (.cons (.flat rfl) (.cons (.flat rfl) .nil))))
theorem Dx (ys:List V)(a:V):cr (ys++[a]) none (some (-1))=ys:=by
 unfold cr;have e:HT.sIx (ys++[a]).length (ys++[a]).length (some (-1))=ys.length:=by
  show(if (-1:Int) < 0 then ((-1:Int)+((ys++[a]).length:Int)).toNat else min (-1:Int).toNat (ys++[a]).length)=_
  rw[if_pos (by decide),aO,eX];lia
 rw[e,HT.sIx_none,uF,xT];exact List.take_left
theorem Oq (ys:List V)(a b:V):cr (ys++[a,b]) none (some (-2))=ys:=by
 unfold cr;have e:HT.sIx (ys++[a,b]).length (ys++[a,b]).length (some (-2))=ys.length:=by
  show(if (-2:Int) < 0 then ((-2:Int)+((ys++[a,b]).length:Int)).toNat else min (-2:Int).toNat (ys++[a,b]).length)=_
  rw[if_pos (by decide),aO];show((-2:Int)+((ys.length+2:Nat):Int)).toNat=ys.length;lia
 rw[e,HT.sIx_none,uF,xT];exact List.take_left
theorem Lj (ys:List V)(a b:V):cr (ys++[a,b]) (some (-2)) none=[a,b]:=by
 unfold cr;have e:HT.sIx (ys++[a,b]).length 0 (some (-2))=ys.length:=by
  show(if (-2:Int) < 0 then ((-2:Int)+((ys++[a,b]).length:Int)).toNat else min (-2:Int).toNat (ys++[a,b]).length)=_
  rw[if_pos (by decide),aO];show((-2:Int)+((ys.length+2:Nat):Int)).toNat=ys.length;lia
 rw[e,HT.sIx_none,List.drop_left,aO,Nat.add_sub_cancel_left];rfl
section
variable {P:aP}{w:aW}{K:aC}{mg:Str->Option aB}{base:Heap}
theorem Os:au ["_law_sort","_law_purse_here","_law_speech_here","_law_field","_law_count"] ["_law_sort","_law_purse_here","_law_speech_here"] (aj Ix):=⟨rfl,rfl,rfl,by decide +kernel,rfl,by decide +kernel,by decide +kernel⟩
theorem Fe {xs:List V}{zX:List bu}{i1 i2:bu}{H:Hp}(h:Holds K H xs ((zX++[i1,i2]).map dq)):∃ys x1 x2,xs=ys++[x1,x2]/\Holds K H ys (zX.map dq)/\Hold K H x1 (dq i1)/\Hold K H x2 (dq i2):=by
 have e:(zX++[i1,i2]).map dq=(zX.map dq++[dq i1])++[dq i2]:=(by simp);rw[e]at h;obtain⟨zs,x2,rfl,h1,h2⟩:=g0 h;obtain⟨ys,x1,rfl,h3,h4⟩:=g0 h1;exact⟨ys,x1,x2,by simp,h3,h4,h2⟩
theorem Jn:au ["_law_row","_law_word","_law_one","_law_other","_law_made"] ["_law_row","_law_word"] (aj Au):=⟨rfl,rfl,rfl,by decide +kernel,rfl,by decide +kernel,by decide +kernel⟩
end
end S23
namespace L2
open PySem
theorem ifQ {c:TT}{a b u:TS}{D:d6}{σ:St}{H:Hp}(R T:Hp->Prop)(hc:∀k:Bool->Hp->Prop,(∀G,R G->k false G)->(∀G,T G->k true G)->c σ H k)(ha:∀G,T G->a { D with nx:=u D } σ G)(hb:∀G,R G->b { D with nx:=u D } σ G):Uh (Nt c a b) u D σ H:=ifS R T hc ha hb
end L2
namespace S23
open PySem L2
def U6:gM:={ kind:=.function,names:=[(".0",.local),("_law_one",.local)],isGenerator:=false,isCoroutine:=false,more:=[] }
theorem csC3 {X:Cx}:bv X ["_law_one"] [] [] U6 []:=iw rfl (by decide +kernel) (by decide +kernel) (by decide +kernel)
def kh (H:Hp)(p:Addr)(G:Hp):Prop:=Same H G/\∃a b:Int,G p=some (.lst [.int a,.int b])/\0<=a/\0<=b
section
variable {P:aP}{w:aW}{K:aC}{mg:Str->Option aB}{base:Heap}
theorem Dy:au ["_law_row","_law_cell_here","_law_speech_here","_law_most","_law_purse_here","_law_sort","_law_last"] ["_law_row","_law_cell_here","_law_speech_here","_law_most"] (aj Dh):=
 ⟨rfl,rfl,rfl,by decide +kernel,rfl,by decide +kernel,by decide +kernel⟩
end
open Fly PyProof.Rows
inductive Flt where
 |field (f:Str)
 |value (v:Int)
 |test (s:Say)
def d7 (ws:List (Str×Nat))(x:Str)(v:Int):Option Flt:=
 match look ws x with
 |none=>some (.field x)
 |some (_,c)=>if 0<=v/\v < (c:Int)then none else some (.value v)
def Say.own (ws:List (Str×Nat)):Say->Option Flt
 | .is f v=>d7 ws f.1 v.1
 | .put f v=>d7 ws f.1 v.1
 | .no s=>if s.isT=true then none else some (.test s)
 |_=>none
def Say.due (ws:List (Str×Nat)):Say->Option Flt
 | .is f v=>d7 ws f.1 v.1
 | .put f v=>d7 ws f.1 v.1
 | .no s=>if s.isT=true then s.due ws else some (.test s)
 | .again s=>s.due ws
 | .either a b=>(a.due ws).or (b.due ws)
 | .both a b=>(a.due ws).or (b.due ws)
 |_=>none
theorem Lk (ws:List (Str×Nat))(s:Say):s.parts.findSome? (Say.own ws)=s.due ws:=by
 induction s with
 |no s ih=>
  rw[Say.parts,lC,Say.own,Say.due,ih];by_cases h:s.isT=true
  ·rw[if_pos h,if_pos h]
  ·rw[if_neg h,if_neg h]
 |again s ih=>rw[Say.parts,lC,Say.due,ih];rfl
 |either a b ia ib=>rw[Say.parts,lC,Say.due,List.findSome?_append,ia,ib];rfl
 |both a b ia ib=>rw[Say.parts,lC,Say.due,List.findSome?_append,ia,ib];rfl
 |is f v=>
  show List.findSome? (Say.own ws) [Say.is f v]=d7 ws f.1 v.1;rw[lC,Say.own];cases d7 ws f.1 v.1<;>rfl
 |put f v=>
  show List.findSome? (Say.own ws) [Say.put f v]=d7 ws f.1 v.1;rw[lC,Say.own];cases d7 ws f.1 v.1<;>rfl
 |_=>rfl
def FOut (K:aC)(H:Hp)(E:XK)(cF cV cT:Addr):Flt->Prop
 | .field x=>∀dx H',Same H H'->H' dx=some (.xd [("field",.str x)])->E (.ref cF) (some dx) H'
 | .value v=>∀dx H',Same H H'->H' dx=some (.xd [("value",.int v)])->E (.ref cV) (some dx) H'
 | .test t=>∀dx y H',Same H H'->H' dx=some (.xd [("saying",y)])->Hold K H' y t.da->E (.ref cT) (some dx) H'
theorem FOut.later {K:aC}{H G:Hp}{E:XK}{cF cV cT:Addr}{f:Flt}(h:FOut K H E cF cV cT f)(s:Same H G):FOut K G E cF cV cT f:=by
 cases f with
 |field x=>exact λdx H' z=>h dx H' (Same.trans s z)
 |value v=>exact λdx H' z=>h dx H' (Same.trans s z)
 |test t=>exact λdx y H' z=>h dx y H' (Same.trans s z)
def Ot (K:aC)(cT:Addr):Sp:=λvs H Q E=>∃(x:V)(s:Say),vs=[x]/\Hold K H x s.da/\s.size<=500/\(s.isT=true->∀H',Same H H'->Q .non H')/\(s.isT=false->∀dx y H',Same H H'->H' dx=some (.xd [("saying",y)])->Hold K H' y s.da->E (.ref cT) (some dx) H')
def U7 (K:aC)(cF cV cT:Addr):Sp:=λvs H Q E=>∃(sp:Addr)(x:V) (ws:List (Str×Nat)) (s:Say),vs=[.ref sp,x]/\Hold K H (.ref sp) (cy ws)/\Hold K H x s.da/\s.size<=500/\(s.own ws=none->∀H',Same H H'->Q .non H')/\(∀f,s.own ws=some f->FOut K H E cF cV cT f)
def Jo (K:aC)(cF cV cT:Addr):Sp:=λvs H Q E=>∃(sp:Addr)(x:V) (ws:List (Str×Nat)) (s:Say),vs=[.ref sp,x]/\Hold K H (.ref sp) (cy ws)/\Hold K H x s.da/\s.size<=500/\(s.due ws=none->∀H',Same H H'->Q .non H')/\(∀f,s.due ws=some f->FOut K H E cF cV cT f)
def FS:List V:=[.str "is",.str "put"]
def Say.isF:Say->Bool
 | .is _ _=>true | .put _ _=>true
 |_=>false
theorem W4 (s:Say):inV (.str s.sort) FS=s.isF:=by cases s<;>kernel_rfl
theorem U8 {ws:List (Str×Nat)}{x:Str}{v:Int}{K:aC}{H:Hp}{E:XK}{cF cV cT:Addr}{FF:Nat->Prop}(h1:d7 ws x v=none->∀i,FF i)(h2:∀f,d7 ws x v=some f->FOut K H E cF cV cT f):U0 ws x v cF cV H E FF where
 no:=λl=>h2 (.field x) (by unfold d7;rw[l])
 bad:=λi c l n=>h2 (.value v) (by unfold d7;rw[l];exact if_neg n)
 ok:=λi c l g=>h1 (by unfold d7;rw[l];exact if_pos g) i
def Say.isNo:Say->Bool
 | .no _=>true
 |_=>false
theorem Qu (s:Say):decide (V.str s.sort=V.str "not")=s.isNo:=by cases s<;>kernel_rfl
theorem Ou {K:aC}{H:Hp}{x:V}{s:Say}(ws:List (Str×Nat))(h:Hold K H x s.da)(hf:s.isF=true):∃(a:Addr)(fx:Fld) (vx:Num),x=.ref a/\SqT K H a [.str s.sort,.str fx.1,.int vx.1]/\s.own ws=d7 ws fx.1 vx.1/\s.isNo=false:=by
 cases s
 case is f v=>
  obtain⟨a,ys,e,ha,hd⟩:=Hold.tupI h;cases hd with
  |cons h1 r1=>cases r1 with
   |cons h2 r2=>cases r2 with
    |cons h3 r3=>
     cases r3;cases h1.flatI;cases h2.flatI;cases h3.flatI;exact⟨a,f,v,e,ha,rfl,rfl⟩
 case put f v=>
  obtain⟨a,ys,e,ha,hd⟩:=Hold.tupI h;cases hd with
  |cons h1 r1=>cases r1 with
   |cons h2 r2=>cases r2 with
    |cons h3 r3=>
     cases r3;cases h1.flatI;cases h2.flatI;cases h3.flatI;exact⟨a,f,v,e,ha,rfl,rfl⟩
 all_goals cases hf
theorem Sk {K:aC}{H:Hp}{x:V}{s:Say}(h:Hold K H x s.da)(hf:s.isNo=true):∃(a:Addr)(y:V) (t:Say),s=.no t/\x=.ref a/\SqT K H a [.str s.sort,y]/\Hold K H y t.da:=by
 cases s
 case no t=>
  obtain⟨a,ys,e,ha,hd⟩:=Hold.tupI h;cases hd with
  |cons h1 r1=>cases r1 with
   |cons h2 r2=>cases r2;cases h1.flatI;exact⟨a,_,t,rfl,e,ha,h2⟩
 all_goals cases hf
theorem Ov {ws:List (Str×Nat)}{s:Say}(h1:s.isF=false)(h2:s.isNo=false):s.own ws=none:=by cases s<;>first | rfl | exact absurd h1 (by decide) | exact absurd h2 (by decide) | (simp[Say.isF]at h1;done) | (simp[Say.isNo]at h2;done)
section
variable {P:aP}{w:aW}{K:aC}{mg:Str->Option aB}{base:Heap}{cF cV cT:Addr}
theorem scMT:au ["saying"] ["saying"] (aj Df):=⟨rfl,rfl,rfl,by decide +kernel,rfl,by decide +kernel,by decide +kernel⟩
theorem Ow {f fT fI:Addr}{fd DF EC:bX}(F:Fun K "must_test" "must_test" Df f fd)(c:j4 K cT)(n:NoAttr K cT "saying")(hi:cH K (.ref cT) "__init__"=some (some (.ref fI)))(lf:∃oI,K.lookup fI=some oI/\oI.cls=.type "function")
  (GI:FnOk P w K mg base CX0 1 fI EC ["self","saying"] (jx K cT "saying" λ_=>True)) (bI:Binds K EC ["self","saying"] []) (mC:mg "NoTest"=some (.ref cT))
  (GT:FnOk P w K mg base CX0 3 fT DF ["saying"] (Qs K)) (bT:Binds K DF ["saying"] []) (kT:aV K (.ref fT)=true) (mT:mg "is_test"=some (.ref fT)):FnOk P w K mg base (CXx P w) 4 f fd ["saying"] (Ot K cT):=by
 refine F.okX scMT (λvs H Q E h=>?_) (λzH A outer s H vs Q E hr h=>?_)
 ·obtain⟨x,sy,rfl,_⟩:=h;rfl
 obtain⟨x,sy,rfl,hx,AB,q1,q2⟩:=h;refine⟨_,ah (cn (ye (o7 (ao GT hr rfl mT kT bT .nil aw (aa (pv 0) ae)))) (ah (qp c (qo c hi lf GI (hr.mono (by decide)) rfl mC bI (aa (pv 0) ae)))) bo),?_⟩;dsimp only[bb,Cx.nox];refine⟨_,rfl,x,sy,rfl,hx,AB,λG1 s1=>⟨_,rfl,?_⟩⟩;cases ht:sy.isT with
 |true=>exact de (q1 ht G1 s1)
 |false=>
  refine jj ⟨_,rfl,(by show 1<=100;decide),λe he=>⟨e,x,rfl,c,n,trivial,ac,λdx hd ne=>⟨rfl,e,some dx,rfl,ac,Same.free s1 he,?_⟩⟩⟩;obtain⟨z1,z2,_⟩:=n9 (o2:=.xd [("saying",x)]) (o3:=fh e cT (some dx)) he hd ne;exact q2 ht dx x _ (Same.trans s1 z1) z2 (Hold.mono (Same.trans s1 z1) hx)
theorem scMP:au ["speech","part"] ["speech","part"] (aj De):=⟨rfl,rfl,rfl,by decide +kernel,rfl,by decide +kernel,by decide +kernel⟩
theorem Ox {f fP fT aF:Addr}{fd EE DF:bX}(F:Fun K "must_part" "must_part" De f fd)
  (GP:FnOk P w K mg base (CXx P w) 4 fP EE ["speech","field","value"] (Ay K cF cV)) (bP:Binds K EE ["speech","field","value"] []) (kP:aV K (.ref fP)=true) (mP:mg "place_of"=some (.ref fP))
  (GT:FnOk P w K mg base (CXx P w) 4 fT DF ["saying"] (Ot K cT)) (bT:Binds K DF ["saying"] []) (kT:aV K (.ref fT)=true) (mT:mg "must_test"=some (.ref fT))
  (mF:mg "FIELD_SORTS"=some (.ref aF)) (tF:∀H:Hp,SqT K H aF FS):FnOk P w K mg base (CXx P w) 5 f fd ["speech","part"] (U7 K cF cV cT):=by
 refine F.okX scMP (λvs H Q E h=>?_) (λzH A outer s H vs Q E hr h=>?_)
 ·obtain⟨sp,x,ws,sy,rfl,_⟩:=h;rfl
 obtain⟨sp,x,ws,sy,rfl,hs,hx,AB,q1,q2⟩:=h;refine⟨_,ag (cn (bc tz (aq bx (pv 1) af (λ_ _=>rfl)) (Ai (v:=.ref aF) rfl mF rfl) (by with_unfolding_all rfl)) (ah (cw (ao GP hr rfl mP kP bP .nil jw (aa (pv 0) (aa (aq bx (pv 1) af (λ_ _=>rfl)) (aa (aq bx (pv 1) af (λ_ _=>rfl)) ae)))))) bo) (ah (cn (bc dh (aq bx (pv 1) af (λ_ _=>rfl)) bh (bg _)) (ah (cw (ao GT hr rfl mT kT bT .nil jw (aa (aq bx (pv 1) af (λ_ _=>rfl)) ae)))) bo)),?_⟩
 dsimp only[bb,Cx.nox];obtain⟨a,xs,rfl,ha,hk⟩:=ng hx;refine⟨_,rfl,a,_,_,_,rfl,rfl,ha,gk _ _,aF,FS,rfl,.inr (tF _),rfl,by decide +kernel,_,rfl,?_⟩;show if inV (.str sy.sort) FS=true then _ else _
 rw[W4];refine cz (λc=>?_) (λc=>?_)
 ·obtain⟨b,fx,vx,e,hb,ho,hn⟩:=Ou ws hx c;cases e;refine⟨_,rfl,_,rfl,a,_,_,_,rfl,rfl,hb,rfl,_,rfl,a,_,_,_,rfl,rfl,hb,rfl,sp,ws,fx.1,vx.1,rfl,hs,vx.2,fx.2,U8 (K:=K) (cT:=cT) (λz i H' s'=>?_) (λf z=>?_)⟩
  ·refine⟨_,rfl,a,_,_,_,rfl,rfl,hb.same s',rfl,rfl,_,rfl,?_⟩;show if decide (V.str sy.sort=V.str "not")=true then _ else _
   rw[Qu,hn];exact q1 (ho.trans z) H' s'
  ·exact q2 f (ho.trans z)
 ·refine⟨_,rfl,a,_,_,_,rfl,rfl,ha,gk _ _,rfl,_,rfl,?_⟩;show if decide (V.str sy.sort=V.str "not")=true then _ else _
  rw[Qu];refine cz (λd=>?_) (λd=>?_)
  ·obtain⟨b,y,t,rfl,e,hb,hy⟩:=Sk hx d;cases e;refine⟨_,rfl,a,_,_,_,rfl,rfl,hb,rfl,y,t,rfl,hy,?_,λz H' s'=>?_,λz dx y' H' s' hd hh=>?_⟩
   ·have:t.size+1<=500:=AB;lia
   ·exact q1 (if_pos z) H' s'
   ·exact q2 (.test t) (if_neg (by rw[z];decide)) dx y' H' s' hd hh
  ·exact q1 (Ov (by simpa using c) (by simpa using d)) H (Same.refl _)
theorem U9:au ["speech","saying","part"] ["speech","saying"] (aj Iu):=⟨rfl,rfl,rfl,by decide +kernel,rfl,by decide +kernel,by decide +kernel⟩
theorem Az {s p:Say}(h:p∈s.parts):p.size<=s.size:=by
 induction s with
 |no s ih=>
  rcases aU.mp h with e | e
  ·rw[e];exact aN _
  ·have:=ih e;show p.size<=s.size+1;lia
 |again s ih=>
  rcases aU.mp h with e | e
  ·rw[e];exact aN _
  ·have:=ih e;show p.size<=s.size+1;lia
 |either a b ia ib=>
  rcases aU.mp h with e | e
  ·rw[e];exact aN _
  ·show p.size<=a.size+b.size+1;rcases eC.mp e with z | z
   ·have:=ia z;lia
   ·have:=ib z;lia
 |both a b ia ib=>
  rcases aU.mp h with e | e
  ·rw[e];exact aN _
  ·show p.size<=a.size+b.size+1;rcases eC.mp e with z | z
   ·have:=ia z;lia
   ·have:=ib z;lia
 |_=>rw[aY.mp h];exact aN _
theorem Sl {α β:Type}{f:α->Option β}{l:List α}{i:Nat}{x:α}{r:Option β}(hx:l[i]?=some x)(h:(l.drop i).findSome? f=r):(∀y,f x=some y->r=some y)/\(f x=none->(l.drop (i+1)).findSome? f=r):=by
 have hi:i < l.length:=(aL.mp hx).1;have e:l.drop i=x::l.drop (i+1):=by
  rw[jS hi,(aL.mp hx).2]
 rw[e,lC]at h;constructor
 ·intro y q;rw[q]at h;exact h.symm
 ·intro q;rw[q]at h;exact h
theorem Sn {f fA fP:Addr}{fd UE EE:bX}(F:Fun K "must_saying" "must_saying" Iu f fd)
  (GA:FnOk P w K mg base CX0 2 fA UE ["saying"] (qb K)) (bA:Binds K UE ["saying"] []) (kA:aV K (.ref fA)=true) (mA:mg "parts_of"=some (.ref fA))
  (GP:FnOk P w K mg base (CXx P w) 5 fP EE ["speech","part"] (U7 K cF cV cT)) (bP:Binds K EE ["speech","part"] []) (kP:aV K (.ref fP)=true) (mP:mg "must_part"=some (.ref fP)):FnOk P w K mg base (CXx P w) 6 f fd ["speech","saying"] (Jo K cF cV cT):=by
 refine F.okX U9 (λvs H Q E h=>?_) (λzH A outer s H vs Q E hr h=>?_)
 ·obtain⟨sp,x,ws,sy,rfl,_⟩:=h;rfl
 obtain⟨sp,x,ws,sy,rfl,hs,hx,AB,q1,q2⟩:=h;refine⟨_,ah (dv PassesOwn.leaving rfl (cf (ao GA (hr.mono (by decide)) rfl mA kA bA .nil aw (aa (pv 1) ae))) (ba (i:=2) U9.nd rfl (cD rfl)) (ah (cw (ao GP hr rfl mP kP bP .nil jw (aa (pv 0) (aa (pv 2) ae)))))),?_⟩;dsimp only[bb,Cx.nox];refine⟨_,rfl,x,sy,rfl,hx,AB,λr xs G1 s1 gr hd=>⟨r,rfl,⟨_,SqL.of gr⟩,fe (K:=K) (a:=r) (xs:=xs) (λi σ G=>∃v2:Option V,σ=[some (.ref sp),some x,v2]/\Same G1 G/\(sy.parts.drop i).findSome? (Say.own ws)=sy.due ws) ⟨none,rfl,Same.refl _,Lk ws sy⟩ (λi σ G _ zF=>by obtain⟨_,_,sG,_⟩:=zF;exact SqL.of (sG _ _ gr)) ?_ ?_⟩⟩
 ·intro i y σ G hy zE;obtain⟨v2,rfl,sG,lk⟩:=zE;generalize zI:d6.mk _ _ _ _=zV;revert zI zV;refine id ?_;intro zV zI;obtain⟨p,ep,hp⟩:=hd.getm hy;obtain⟨n1,n2⟩:=Sl ep lk;have pz:=Az (bK ep);refine⟨_,rfl,_,rfl,sp,y,ws,p,rfl,Hold.mono (Same.trans s1 sG) hs,Hold.mono sG hp,by lia,λz H' s'=>?_,λf z=>?_⟩
  ·subst zI;exact⟨_,rfl,Same.trans sG s',n2 z⟩
  ·exact(q2 f (n1 f z)).later (Same.trans s1 sG)
 ·intro σ G zE;obtain⟨v2,rfl,sG,lk⟩:=zE;have lx:xs.length=sy.parts.length:=(by rw[hd.length,aI]);rw[lx,sM]at lk;exact q1 lk.symm G (Same.trans s1 sG)
end
section
variable {P:aP}{w:aW}{K:aC}{mg:Str->Option aB}{base:Heap}
theorem Dz:au ["_law_cells","_law_speech_here","_law_most","_law_row","_law_cell_here"] ["_law_cells","_law_speech_here","_law_most"] (aj Av):=⟨rfl,rfl,rfl,by decide +kernel,rfl,by decide +kernel,by decide +kernel⟩
end
end S23
namespace L2
open PySem PySem.Spec PyProof.Rows
theorem i9 {X:Cx}{i0:Nat}{y0:Str}{py LE:Pos}{DK iter tg:Expr}{CL:List Expr}{sc:gM}{pos:Pos}{ns ys:List Str}{fr:List Nat}{cl:List (Str×Addr)}{wi:TI}{g:TG}{tt:TT}{te:TE}(hN:X.N.Nodup)(hi0:X.N[i0]?=some y0)(EQ:X.env.scope.names.lookup y0=some .local)(S:bv X ns ys fr sc cl)(hc:X.calm=true)
  (hi:PI X tg iter wi) (hg:∀C s H fp,PG (cxC X (ns++ys) sc cl C s H fp) tg g) (ht:∀C s H fp,PTs (cxC X (ns++ys) sc cl C s H fp) CL tt) (he:∀C s H fp,PE (cxC X (ns++ys) sc cl C s H fp) DK te)
  (hs:∀x,vA iter X.env x=pure x:=by intro _;rfl) (hsw:uP (.ListComp DK [⟨tg,iter,CL,0⟩] sc pos) (some (.Name y0 py)) LE.line X.env=pure true:=by rfl) :
  PS X (.Assign [.Name y0 py] (.ListComp DK [⟨tg,iter,CL,0⟩] sc pos) LE) (λD σ H=>Qq ns.length fr wi g tt te σ H λx H1=>D.nx (σ.set i0 (some x)) H1):=by
 intro f' s σ H D I h;rw[exec_Assign_Name_used _ _ _ _ hsw];refine aA (nU (aA ?_));show aM _ _ (do let _ <-comprehension (.ListComp DK [⟨tg,iter,CL,0⟩] sc pos) sc X.env _ (newList []) false (eval iter X.env) (some (uQ (.Name y0 py) X.env))) _ _ s
 refine aA (iD (wpAny_comprehension_free (use:=some (uQ (.Name y0 py) X.env)) (Q:=λ_ s'=>SP X f' D .next s') rfl hs S.clos S.kind S.locs (thn (hi f' s σ H _ I h) λv s1 h1=>thn h1 λMZ s2 h2=>?_)) (λ_ s' hq=>wpAny_pure (wpAny_pure hq)) λ_ _ e=>e)
 obtain⟨it,fp,tn,J,H2,e,I2,T,DJ,f2,rest⟩:=h2;subst e;obtain⟨W,⟨m0,w0⟩,BL⟩:=rest s2.heap.objs.size (I2.hok.fresh (aN _));refine gJ (wpAny_newFunctionEnv S.nocell (by intro y hy;simp at hy) (λh3 GX DL=>?_) S.kind);dsimp only at GX DL ⊢;generalize hG:s2.heap.push { cls:=.type "list",dict:=none,data:=.seq ([]:List aB).toArray }=G at GX DL ⊢;have zG:G.objs.size=s2.heap.objs.size+1:=(by rw[<-hG,gK]);have BX:s2.heap.objs.size < G.objs.size:=(by rw[zG];exact oH _);have old:∀b o,s2.heap.get? b=some o->h3.get? b=some o:=λb o e=>
  DL.extBut b o (cK (jK (aZ e) BX)) (aJ _ (hG ▸ aJ _ e))
 have hD:=DL.extBut _ _ (cK BX) (aJ _ (hG ▸ bV _ rfl));have below:∀b∈fp,b < s2.heap.objs.size:=λb hb=>by
  obtain⟨o,eo,_⟩:=T.obj _ _ DJ b hb;exact aZ eo
 have I3:=Bn (ns:=ns) (ys:=ys) (fr:=fr) (t':=s2.toks+([]:List (Str×aB)).length) I2 S f2 below BX old hD GX;have AZ:∀{H':Hp},(∀b∈fp,H' b=none)->∀b∈fp,ij (cxC X (ns++ys) sc cl G.objs.size s2 H2 fp) [] H' b:=λhn b hb=>
  ⟨hn b hb,cK (jK (below b hb) BX),I3.ok.exfs b hb,.inl hb,λx c e=>(I3.ok.exf b hb).2 x c e,λp hp=>nomatch hp⟩
 have DT:tn 0 h3:=T.keep _ _ _ DJ λb _ o e=>old b o e;have JP:∀b∈fp,upd H2 s2.heap.objs.size (.lst []) b=none:=λb hb=>by
  rw[ai (cK (below b hb))];exact(f2 b hb).1
 have D':∀s3:aG,s3={ s2 with heap:=h3,toks:=s2.toks+([]:List (Str×aB)).length }->
   oQ (aX X.prog X.w) X.A (.compLoop (.ListComp DK [⟨tg,iter,CL,0⟩] sc pos) 0 (.ref it) (.ref s2.heap.objs.size) (compEnvC sc cl G.objs.size X.env))
    (compPost (aX X.prog X.w) X.A X.xe (some (uQ (.Name y0 py) X.env)) (λ_ s'=>SP X f' D .next s') (.ref s2.heap.objs.size) G.objs.size) s3:=by
  intro s3 zE;subst zE;refine K9 (λn s'=>∃i zs H',Inv (cxC X (ns++ys) sc cl G.objs.size s2 H2 fp) [] (dQ ns.length none++pick σ fr) H' s'/\tn i s'.heap/\(∀b∈fp,H' b=none)/\W i n zs H') ?_ m0 ⟨0,[],_,I3,DT,JP,w0⟩;intro n s5 zE;obtain⟨i,zs,H5,I5,FA,IB,w5⟩:=zE;obtain⟨d5,OR⟩:=BL i n zs H5 w5;rcases OR with⟨stop,q⟩ | ⟨go,hz,N,hN,step⟩
  ·refine thn (T.done (cxC X (ns++ys) sc cl G.objs.size s2 H2 fp) rfl rfl rfl hc i [] s5 _ H5 _ I5 (AZ IB) FA stop) λr s6 zF=>?_;obtain⟨hr,I6⟩:=zF;subst hr;obtain⟨m6,OS,_⟩:=I6.loc;have J6:Inv X f' σ H5 s6:=C2 I2 f2 (lD BX) I6 (vD _ _);have lL:X.env.locals < s2.heap.objs.size:=I2.lt;have cL:∀x c,X.env.cells.lookup x=some c->c < s2.heap.objs.size:=λx c e=>by
    obtain⟨_,o,ho,_⟩:=I2.cell x c e;exact aZ ho
   show aM _ X.A (uQ (.Name y0 py) X.env (.ref s2.heap.objs.size)) _ _ s6;refine wpAny_assign_Name (Bd (v:=.ref s2.heap.objs.size) J6 hN hi0 (.inl EQ) rfl (λs8 I8 zF=>?_) (.inr EQ));obtain⟨b8,sb8,hb8⟩:=zF;have nb:G.objs.size≠b8:=λe=>by
    rcases hb8 with z | z
    ·exact absurd (e.trans z) (gN (jK lL BX))
    ·exact absurd e (gN (jK (cL _ _ z) BX))
   refine⟨m6,OS.sameBut sb8 nb,λh9 hs9=>⟨_,H5,?_,q⟩⟩;refine I8.turned (it:=G.objs.size) (t':=s8.toks) (λb o hb e=>(hs9.2 b hb).trans e) I6.free (gN (jK lL BX)) (.inr (bQ I2.sz (lD BX))) (λx c e=>cK (jK (cL x c e) BX)) λp hp=>?_;obtain⟨e,_⟩:=I2.pin p hp;exact cK (jK (aZ e) BX)
  ·refine thn (T.item (cxC X (ns++ys) sc cl G.objs.size s2 H2 fp) rfl rfl rfl hc i [] s5 _ H5 _ I5 (AZ IB) FA go) λr s6 zF=>?_;obtain⟨u,hr,h6⟩:=zF;subst hr;refine thn h6 λ_ s7 zF=>?_;obtain⟨x,H7,I7,r7,y7,IJ,OT⟩:=zF;have OU:=I7.pinned (AZ OT) (T.obj _ _ IJ);refine thn (hg _ _ _ _ _ s7 _ H7 x u _ OU r7 (step x H7 y7)) λ_ s8 zF=>?_;obtain⟨σ8,H8,I8,⟨ts,eσ,IK⟩,q8⟩:=zF;have again:∀{H9:Hp}{s9:aG}{IL:List V}{m':Nat},m' < n->Inv (cxC X (ns++ys) sc cl G.objs.size s2 H2 fp) ([]++pf fp s7.heap) σ8 H9 s9->W (i+1) m' IL H9->
     ∃m,m < n/\∃i zs H',Inv (cxC X (ns++ys) sc cl G.objs.size s2 H2 fp) [] (dQ ns.length none++pick σ fr) H' s9/\tn i s9.heap/\(∀b∈fp,H' b=none)/\W i m zs H':=λ{H9 s9 IL m'} hm I9 w9=>by
    refine⟨m',hm,i+1,IL,H9,I9.unpinned.weak ?_ ?_,T.keep _ _ _ IJ λb hb o e=>(I9.pin (b,o) (fK _ (fK _ (i6 hb e)))).1,λb hb=>?_,w9⟩
    ·rw[eσ,aO,aO,gO,IK]
    ·intro j v e;rw[eσ];by_cases hj:j < ns.length
     ·rw[eB (by simpa using hj),mK,if_pos hj]at e;cases e
     ·have EM:ns.length<=j:=sL hj;rw[fZ (by simpa using EM),gO]at e;rw[fZ (by rw[IK];exact EM),IK];exact e
    ·obtain⟨o,e,d⟩:=T.obj _ _ IJ b hb;exact(I9.pin (b,o) (fK _ (fK _ (i6 hb e)))).2.1
   refine thn (ht _ _ _ _ _ s8 σ8 H8 _ I8 q8) λok s9 zF=>?_;obtain⟨H9,I9,q9⟩:=zF;cases ok with
   |false=>
    rw[if_neg bZ]at q9 ⊢;obtain⟨m',hm,w9⟩:=hN _ _ q9;exact again hm I9 w9
   |true=>
    rw[if_pos rfl]at q9 ⊢;refine thn (he _ _ _ _ _ s9 σ8 H9 _ I9 q9) λyv GZ zF=>?_;obtain⟨y,OV,OW,OX,OY,KY⟩:=zF;refine thn (ir _ GZ σ8 OV (.ref s2.heap.objs.size) [y] (.ref s2.heap.objs.size) [yv] (λ_ KZ=>N (zs++[y]) KZ) OW rfl (.cons OX .nil) ⟨_,zs,y,rfl,rfl,OY,hz,KY⟩) λ_ s11 zF=>?_;obtain⟨_,KZ,OZ,_,PB⟩:=zF;obtain⟨m',hm,PD⟩:=hN _ _ PB;exact again hm OZ PD
 exact codeAny_compStart_list (D' _ rfl) (T.self X.A 0 _ _ _ DT (D' _ rfl))
section
variable {X:Cx}
def rLL (K:aC)(b:Bool):R2:=λx y H Q=>∃l r xs ys,x=.ref l/\y=.ref r/\SqL K H l xs/\SqL K H r ys/\((xs.length≠ys.length/\Q (.bl (!b)) H)\/∃ds,Holds K H xs ds/\Holds K H ys ds/\depL ds<=60/\Q (.bl b) H)
theorem Gc (hu:X.A.units+64 < iK):OpR X (lZ .Eq) (rLL X.K true):=by
 intro f' s σ H x y v u Q I rx ry h;obtain⟨a,b,xs,ys,rfl,rfl,ha,hb,h⟩:=h;cases rx;cases ry;rcases h with⟨hl,q⟩ | ⟨ds,h1,h2,hd,q⟩
 ·obtain⟨its,r1,p1,_⟩:=I.list ha;obtain⟨zM,r2,p2,_⟩:=I.list hb;have e:(its.toArray.size != zM.toArray.size)=true:=by
   rw[aS,aS,<-r1.length,<-r2.length];simpa using hl
  exact SeqAt.RcAt.lists_lengths (A:=X.A) (s:=s) p1.isList p2.isList e (by lia) _ _ _ _ (show EP X f' σ Q (.bool false) s from⟨.bl false,H,I,rfl,q⟩)
 ·exact Fw I ha hb h1 h2 (by lia) (λd hm x y u v kx ky qx qy=>vg I 60 (bQ (px hm) (by lia)) (by rw[pG];lia) kx ky qx qy) _ _ _ _ (show EP X f' σ Q (.bool true) s from⟨.bl true,H,I,rfl,q⟩)
theorem vn (hu:X.A.units+64 < iK):OpR X (lZ .NotEq) (rLL X.K false):=by
 intro f' s σ H x y v u Q I rx ry h;obtain⟨a,b,xs,ys,rfl,rfl,ha,hb,h⟩:=h;cases rx;cases ry;obtain⟨its,r1,p1,_⟩:=I.list ha;obtain⟨zM,r2,p2,_⟩:=I.list hb;rcases h with⟨hl,q⟩ | ⟨ds,h1,h2,hd,q⟩
 ·have e:(its.toArray.size != zM.toArray.size)=true:=by
   rw[aS,aS,<-r1.length,<-r2.length];simpa using hl
  exact SeqAt.RcNeAt.lists_lengths (A:=X.A) (s:=s) p1.isList p2.isList e (by lia) _ _ _ _ (show EP X f' σ Q (.bool true) s from⟨.bl true,H,I,rfl,q⟩)
 ·have e:its.toArray.size=zM.toArray.size:=by
   rw[aS,aS,<-r1.length,<-r2.length,h1.length,h2.length]
  have el:=qk (s:=s) (A:=X.A.in1) h1 h2 r1 r2 λd hm x y u v kx ky qx qy=>vg I 60 (bQ (px hm) hd) (by rw[pG];lia) kx ky qx qy;have qn:=SeqAt.RcNeAt.lists (s:=s) (A:=X.A) (e:=λ_=>true) p1.isList p2.isList e (by lia) el;rw[oK.mpr (λ_ _=>rfl)]at qn;have qm:SeqAt.RcNeAt X.A s (.ref a) (.ref b) false:=(by simpa using qn);exact qm _ _ _ _ (show EP X f' σ Q (.bool false) s from⟨.bl false,H,I,rfl,q⟩)
end
open Sem (wp)
section
variable {prog:aP}{w:aW}{A:cQ}{E:aB->aG->Prop}{s:aG}
structure A0 (h:Heap)(z TI TO i1 i2 l1 l2:Addr)(k:Nat):Prop where
 zip:uM h z TI TO .none
 its:qE h TI (.ref i1) (.ref i2)
 out:∃a b,qE h TO a b
 one:h.IsListIter i1 l1 k
 two:h.IsListIter i2 l2 k
theorem Ll {z TI TO i1 i2 l1 l2:Addr}{k:Nat}{xs ys:Array aB}{x y:aB}{Q:aB->aG->Prop}(D:xA z TI TO i1 i2 l1 l2)(Z:A0 s.heap z TI TO i1 i2 l1 l2 k)
  (CF:s.heap.IsList l1 xs) (zW:s.heap.IsList l2 ys) (hx:xs[k]?=some x) (hy:ys[k]?=some y)
  (hQ:∀h',uM h' z TI TO (jF s.heap.objs.size)->qE h' TO x y->h'.IsListIter i1 l1 (k+1)->h'.IsListIter i2 l2 (k+1)->qE h' s.heap.objs.size x y->(∀c o,c≠z->c≠TO->c≠i1->c≠i2->s.heap.get? c=some o->h'.get? c=some o)->Q (.ref s.heap.objs.size) { s with heap:=h' }) :
  aM (aX prog w) A (iW.«zip.__next__» ⟨[.ref z],[]⟩) (λzL s'=>∃v,zL=.done (.ret v)/\Q v s') E s:=by
 obtain⟨hz,PU,⟨a,b,PV⟩,h1,h2⟩:=Z;show aM _ _ (field (.ref z) 2 >>= _) _ _ _;refine aA (eI hz rfl (x:=.bool false) rfl ?_);show aM _ _ (field (.ref z) 3 >>= _) _ _ _;refine aA (eI hz rfl (x:=.ref TI) rfl ?_);refine aA (jC PU rfl ?_);show aM _ _ (gB (.ref z) >>= _) _ _ _;refine aA ?_;unfold gB;refine aA (eI hz rfl (x:=.none) rfl (wpAny_pure ?_));simp only[if_true];refine aA (rJ ?_);refine aA (eI hz rfl (x:=.ref TO) rfl ?_);refine aA (fX hz (by simp) λha za sa=>?_)
 replace za:uM ha z TI TO .ellipsis:=za
 refine aA ?_;simp only[List.zipIdx_cons,List.zipIdx_nil,List.forIn_cons,List.forIn_nil];refine aA (aA (sJ ?_));show aM _ _ (iG (.ref i1) >>= _) _ _ _;refine aA (pH (h1.extBut sa.extBut D.i1z) (CF.extBut sa.extBut D.l1z) hx λhb UF sb=>wpAny_pure ?_);have ob:qE hb TO a b:=sb.extBut _ _ D.TOi1 (sa.extBut _ _ D.TOz PV);refine aA (jC ob rfl ?_);refine aA (tR ob λhc oc sc=>?_)
 replace oc:qE hc TO x b:=oc
 refine aA (uL (wpAny_pure ?_));refine aA (aA (sJ ?_));show aM _ _ (iG (.ref i2) >>= _) _ _ _;refine aA (pH (((h2.extBut sa.extBut D.i2z).extBut sb.extBut D.i12.symm).extBut sc.extBut D.TOi2.symm) (((zW.extBut sa.extBut D.l2z).extBut sb.extBut D.l2i1).extBut sc.extBut D.l2TO) hy λhd h2d sd=>wpAny_pure ?_);have od:qE hd TO x b:=sd.extBut _ _ D.TOi2 oc;refine aA (jC od rfl ?_);refine aA (tR od λhe oe se=>?_)
 replace oe:qE he TO x y:=oe
 refine aA (uL (wpAny_pure (wpAny_pure ?_)));refine aA (jC oe rfl ?_);refine aA (uH ?_);have zz:he.objs.size=s.heap.objs.size:=(by rw[se.1,sd.1,sc.1,sb.1,sa.1]);have ze:uM he z TI TO .ellipsis:=se.extBut _ _ D.TOz.symm (sd.extBut _ _ D.i2z.symm (sc.extBut _ _ D.TOz.symm (sb.extBut _ _ D.i1z.symm za)));have ke:∀c o,c≠z->c≠TO->c≠i1->c≠i2->s.heap.get? c=some o->he.get? c=some o:=λc o c1 c2 c3 c4 q=>
  se.extBut _ _ c2 (sd.extBut _ _ c4 (sc.extBut _ _ c2 (sb.extBut _ _ c3 (sa.extBut _ _ c1 q))))
 have e1:he.IsListIter i1 l1 (k+1):=((UF.extBut sc.extBut D.TOi1.symm).extBut sd.extBut D.i12).extBut se.extBut D.TOi1.symm;have e2:he.IsListIter i2 l2 (k+1):=h2d.extBut se.extBut D.TOi2.symm;have UG:z < he.objs.size:=aZ ze;show aM _ _ (gX (.ref z) (.ref he.objs.size) >>= _) _ _ _;refine aA ?_;unfold gX;have zf:uM (he.push { cls:=.type "tuple",data:=.seq #[x,y] }) z TI TO .ellipsis:=aJ _ ze;refine aA (fX zf (by simp) λhg zg sg=>?_)
 replace zg:uM hg z TI TO (jF he.objs.size):=zg
 refine fX zg (by simp) λhk zk sk=>?_
 replace zk:uM hk z TI TO (jF he.objs.size):=zk
 have up:∀c o,c≠z->he.get? c=some o->hk.get? c=some o:=λc o c1 q=>sk.extBut _ _ c1 (sg.extBut _ _ c1 (aJ _ q));have tk:qE hk he.objs.size x y:=sk.extBut _ _ (gN UG) (sg.extBut _ _ (gN UG) (bV _ rfl));rw[zz]at zk tk;refine wpAny_pure ⟨_,rfl,?_⟩;show Q (.ref he.objs.size) _;rw[zz];obtain⟨w1,v1,r1⟩:=e1;obtain⟨w2,v2,r2⟩:=e2;exact hQ hk zk (up _ _ D.TOz oe) ⟨w1,up _ _ D.i1z v1,r1⟩ ⟨w2,up _ _ D.i2z v2,r2⟩ tk λc o c1 c2 c3 c4 q=>up c o c1 (ke c o c1 c2 c3 c4 q)
theorem Lm {z TI TO i1 i2 l1 l2:Addr}{k:Nat}{xs ys:Array aB}{x y:aB}{Q:Option aB->aG->Prop}(D:xA z TI TO i1 i2 l1 l2)(Z:A0 s.heap z TI TO i1 i2 l1 l2 k)
  (CF:s.heap.IsList l1 xs) (zW:s.heap.IsList l2 ys) (hx:xs[k]?=some x) (hy:ys[k]?=some y)
  (hQ:∀h',uM h' z TI TO (jF s.heap.objs.size)->qE h' TO x y->h'.IsListIter i1 l1 (k+1)->h'.IsListIter i2 l2 (k+1)->qE h' s.heap.objs.size x y->(∀c o,c≠z->c≠TO->c≠i1->c≠i2->s.heap.get? c=some o->h'.get? c=some o)->Q (some (.ref s.heap.objs.size)) { s with heap:=h' }):aM (aX prog w) A (lE (.ref z)) Q E s:=by
 have hT:s.TypeIs (.ref z) "zip":=⟨_,Z.zip,rfl⟩;unfold lE;exact aA (nX (gC (name:=iC "__next__") hT F.slot_zip_next (fV F.slot_zip_next hT F.entry_zip_next (Ll D Z CF zW hx hy λh' a1 a2 a3 a4 a5 a6=>wpAny_pure (hQ h' a1 a2 a3 a4 a5 a6)) (F.args_zip_next_1 _))))
theorem Ln {z TI TO i1 i2 l1 l2:Addr}{k:Nat}{xs ys:Array aB}{Q:Fin->aG->Prop}(hh:A.handled=none)(D:xA z TI TO i1 i2 l1 l2)(Z:A0 s.heap z TI TO i1 i2 l1 l2 k)
  (CF:s.heap.IsList l1 xs) (zW:s.heap.IsList l2 ys) (CN:xs[k]?=none\/ys[k]?=none)
  (hE:∀h' e,(∀c o,c≠z->c≠TO->c≠i1->c≠i2->s.heap.get? c=some o->h'.get? c=some o)->(∃o,h'.get? e=some o/\o.cls=.type "StopIteration")->E (.ref e) { s with heap:=h' }) :
  aM (aX prog w) A (iW.«zip.__next__» ⟨[.ref z],[]⟩) Q E s:=by
 obtain⟨hz,PU,⟨a,b,PV⟩,h1,h2⟩:=Z;show aM _ _ (field (.ref z) 2 >>= _) _ _ _;refine aA (eI hz rfl (x:=.bool false) rfl ?_);show aM _ _ (field (.ref z) 3 >>= _) _ _ _;refine aA (eI hz rfl (x:=.ref TI) rfl ?_);refine aA (jC PU rfl ?_);show aM _ _ (gB (.ref z) >>= _) _ _ _;refine aA ?_;unfold gB;refine aA (eI hz rfl (x:=.none) rfl (wpAny_pure ?_));simp only[if_true];refine aA (rJ ?_);refine aA (eI hz rfl (x:=.ref TO) rfl ?_);refine aA (fX hz (by simp) λha za sa=>?_)
 replace za:uM ha z TI TO .ellipsis:=za
 refine aA ?_;simp only[List.zipIdx_cons,List.zipIdx_nil,List.forIn_cons,List.forIn_nil];refine aA (aA (sJ ?_));show aM _ _ (iG (.ref i1) >>= _) _ _ _;cases hx:xs[k]? with
 |none=>
  refine aA (sW hh (h1.extBut sa.extBut D.i1z) (CF.extBut sa.extBut D.l1z) hx λhb e sb he=>?_);obtain⟨oe,IP,LF⟩:=he;have zb:uM hb z TI TO .ellipsis:=sb _ _ D.i1z.symm za;have PX:e≠z:=λq=>(by subst q;rw[zb]at IP;cases IP;simp at LF);refine fX zb (by simp) λhc _ sc=>hE hc e (λc o c1 _ c3 _ q=>sc.extBut _ _ c1 (sb _ _ c3 (sa.extBut _ _ c1 q))) ⟨oe,sc.extBut _ _ PX IP,LF⟩
 |some x=>
  have hy:ys[k]?=none:=by
   rcases CN with q | q
   ·rw[hx]at q;cases q
   ·exact q
  refine aA (pH (h1.extBut sa.extBut D.i1z) (CF.extBut sa.extBut D.l1z) hx λhb UF sb=>wpAny_pure ?_);have ob:qE hb TO a b:=sb.extBut _ _ D.TOi1 (sa.extBut _ _ D.TOz PV);refine aA (jC ob rfl ?_);refine aA (tR ob λhc oc sc=>?_);refine aA (uL (wpAny_pure ?_));refine aA (aA (sJ ?_));show aM _ _ (iG (.ref i2) >>= _) _ _ _;refine aA (sW hh (((h2.extBut sa.extBut D.i2z).extBut sb.extBut D.i12.symm).extBut sc.extBut D.TOi2.symm) (((zW.extBut sa.extBut D.l2z).extBut sb.extBut D.l2i1).extBut sc.extBut D.l2TO) hy λhd e sd he=>?_);obtain⟨oe,IP,LF⟩:=he;have zd:uM hd z TI TO .ellipsis:=sd _ _ D.i2z.symm (sc.extBut _ _ D.TOz.symm (sb.extBut _ _ D.i1z.symm za));have PX:e≠z:=λq=>(by subst q;rw[zd]at IP;cases IP;simp at LF);refine fX zd (by simp) λhf _ sf=>hE hf e (λc o c1 c2 c3 c4 q=>sf.extBut _ _ c1 (sd _ _ c4 (sc.extBut _ _ c2 (sb.extBut _ _ c3 (sa.extBut _ _ c1 q))))) ⟨oe,sf.extBut _ _ PX IP,LF⟩
theorem Oy {z TI TO i1 i2 l1 l2:Addr}{k:Nat}{xs ys:Array aB}{Q:Option aB->aG->Prop}(hh:A.handled=none)(D:xA z TI TO i1 i2 l1 l2)(Z:A0 s.heap z TI TO i1 i2 l1 l2 k)
  (CF:s.heap.IsList l1 xs) (zW:s.heap.IsList l2 ys) (CN:xs[k]?=none\/ys[k]?=none)
  (hQ:∀h',(∀c o,c≠z->c≠TO->c≠i1->c≠i2->s.heap.get? c=some o->h'.get? c=some o)->Q none { s with heap:=h' }):aM (aX prog w) A (lE (.ref z)) Q E s:=by
 have hT:s.TypeIs (.ref z) "zip":=⟨_,Z.zip,rfl⟩;unfold lE;refine aA (nX (gC (name:=iC "__next__") hT F.slot_zip_next (fV F.slot_zip_next hT F.entry_zip_next (Ln hh D Z CF zW CN λh' e kk he=>?_) (F.args_zip_next_1 _))));obtain⟨o,ho,hc⟩:=he;refine aA (lJ (T:="StopIteration") (b:=true) ⟨o,ho,hc⟩ uI ?_);exact wpAny_pure (hQ _ kk)
end
abbrev zL1 (h:Heap)(a:Addr):Heap:=h.push { cls:=.type "list_iterator",data:=.fields #[.ref a,.int 0 0] }
abbrev zL2 (h:Heap)(a b:Addr):Heap:=(zL1 h a).push { cls:=.type "list_iterator",data:=.fields #[.ref b,.int 0 0] }
abbrev zL3 (h:Heap)(a b:Addr):Heap:=(zL2 h a b).push { cls:=.type "tuple",data:=.seq #[.ref h.objs.size,.ref (zL1 h a).objs.size] }
abbrev zL4 (h:Heap)(a b:Addr):Heap:=(zL3 h a b).push { cls:=.type "tuple",data:=.seq #[.none,.none] }
abbrev zL5 (h:Heap)(a b:Addr):Heap:=(zL4 h a b).push { cls:=.type "zip",data:=.fields #[.none,.bool false,.bool false,.ref (zL2 h a b).objs.size,.ref (zL3 h a b).objs.size] }
theorem Jp (a b:Addr)(xs ys:Array aB) :
  Meets (iW.«zip.__new__» ⟨[.type "zip",.ref a,.ref b],[]⟩) (λ_ R s=>s.heap.IsList a xs/\s.heap.IsList b ys/\R (.ok (.ret (.ref (zL4 s.heap a b).objs.size))) { s with heap:=zL5 s.heap a b }):=
 .of_wp λprog w A R s h=>by
  obtain⟨hp,gs,dr,tk,os⟩:=s;obtain⟨h1,h2,h⟩:=h;have BB:=sub_zip;have k1:yH (wO ⟨hp,gs,dr,tk,os⟩) a xs:=h1;have k2:yH (wO ⟨hp.push { cls:=.type "list_iterator",data:=.fields #[.ref a,.int 0 0] },gs,dr,tk,os⟩) b ys:=pV h2 _
  wp_walk using iM k1,iM k2
  exact⟨_,rfl,h⟩
section
variable {prog:aP}{w:aW}{A:cQ}{E:aB->aG->Prop}{s:aG}
theorem Lo {a b:Addr}{xs ys:Array aB}{Q:aB->aG->Prop}(h1:s.heap.IsList a xs)(h2:s.heap.IsList b ys)
  (h:∀h',A0 h' (s.heap.objs.size+4) (s.heap.objs.size+2) (s.heap.objs.size+3) s.heap.objs.size (s.heap.objs.size+1) a b 0->(∀c o,s.heap.get? c=some o->h'.get? c=some o)->h'.objs.size=s.heap.objs.size+5->Q (.ref (s.heap.objs.size+4)) { s with heap:=h' }):aM (aX prog w) A (call (.type "zip") [.ref a,.ref b]) Q E s:=by
 refine xS F.called_zip (by decide) (F.typeCall_zip_2 _ _) (F.newCall_zip_2 _ _) (λobj=>F.args_object_init_3 obj _ _) F.entry_zip_new (Jp a b xs ys) ⟨h1,h2,?_⟩;have z1:(zL1 s.heap a).objs.size=s.heap.objs.size+1:=gK ..;have z2:(zL2 s.heap a b).objs.size=s.heap.objs.size+2:=(by rw[gK,z1]);have z3:(zL3 s.heap a b).objs.size=s.heap.objs.size+3:=(by rw[gK,z2]);have z4:(zL4 s.heap a b).objs.size=s.heap.objs.size+4:=(by rw[gK,z3]);have z5:(zL5 s.heap a b).objs.size=s.heap.objs.size+5:=(by rw[gK,z4]);have g5:(zL5 s.heap a b).get? (zL4 s.heap a b).objs.size=some _:=bV _ rfl;have g4:(zL5 s.heap a b).get? (zL3 s.heap a b).objs.size=some _:=aJ _ (bV _ rfl);have g3:(zL5 s.heap a b).get? (zL2 s.heap a b).objs.size=some _:=aJ _ (aJ _ (bV _ rfl));have g2:(zL5 s.heap a b).get? (zL1 s.heap a).objs.size=some _:=aJ _ (aJ _ (aJ _ (bV _ rfl)));have g1:(zL5 s.heap a b).get? s.heap.objs.size=some _:=aJ _ (aJ _ (aJ _ (aJ _ (bV _ rfl))));show _/\_;rw[z2,z3,z4]at g5;rw[z1,z2]at g3;rw[z3]at g4;rw[z1]at g2;rw[z4];exact⟨⟨_,g5,rfl⟩,h _ ⟨g5,g3,⟨_,_,g4⟩,⟨_,g1,rfl,rfl⟩,⟨_,g2,rfl,rfl⟩⟩ (λc o q=>aJ _ (aJ _ (aJ _ (aJ _ (aJ _ q))))) z5⟩
end
def Oz (K:aC)(a b:Addr):It:=
 ⟨λi H=>∃xs ys x y,SqL K H a xs/\SqL K H b ys/\xs[i]?=some x/\ys[i]?=some y,λi H v H'=>∃p x y,H p=none/\v=.ref p/\(∀xs,SqL K H a xs->xs[i]?=some x)/\(∀ys,SqL K H b ys->ys[i]?=some y)/\H'=upd H p (.tup [x,y]),λi H=>∃xs ys,SqL K H a xs/\SqL K H b ys/\(xs.length<=i\/ys.length<=i)⟩
theorem Lp {P:aP}{w:aW}{K:aC}{es:List Expr}{j:Nat}{pos:Pos}{z TI TO i1 i2 a b:Addr}(D:xA z TI TO i1 i2 a b) :
  tm P w K (.Tuple es j pos) (Oz K a b) [z,TI,TO,i1,i2] z (λk h=>A0 h z TI TO i1 i2 a b k) where
 mem:=by simp
 obj:=λk h Z c hc=>by
  obtain⟨u1,u2,⟨_,_,u3⟩,⟨o4,u4,_,v4⟩,⟨o5,u5,_,v5⟩⟩:=Z;simp only[aU,eY,or_false]at hc;rcases hc with q | q | q | q | q
  ·subst q;exact⟨_,u1,λv e=>by cases(show wL _=uR v from e)⟩
  ·subst q;exact⟨_,u2,λv e=>by cases(show zP _ _=uR v from e)⟩
  ·subst q;exact⟨_,u3,λv e=>by cases(show zP _ _=uR v from e)⟩
  ·subst q;exact⟨_,u4,λv e=>by rw[v4]at e;cases e⟩
  ·subst q;exact⟨_,u5,λv e=>by rw[v5]at e;cases e⟩
 keep:=λk h h' Z kk=>by
  obtain⟨u1,u2,⟨c1,c2,u3⟩,⟨o4,u4,r4⟩,⟨o5,u5,r5⟩⟩:=Z;exact⟨kk z (by simp) _ u1,kk TI (by simp) _ u2,⟨c1,c2,kk TO (by simp) _ u3⟩,⟨o4,kk i1 (by simp) _ u4,r4⟩,⟨o5,kk i2 (by simp) _ u5,r5⟩⟩
 item:=by
  intro X hP hw hK hc k f' s σ H E I hf Z hg;subst hP hw hK;obtain⟨xs,ys,x,y,hx,hy,ex,ey⟩:=hg;obtain⟨its,r1,p1,_⟩:=I.list hx;obtain⟨zM,r2,p2,_⟩:=I.list hy;obtain⟨u,eu,ru⟩:=r1.get ex;obtain⟨v,ev,rv⟩:=r2.get ey;refine Lm D Z (p1.isList) (p2.isList) (x:=u) (y:=v) (by simpa using eu) (by simpa using ev) λh1 b1 b2 b3 b4 b5 kk=>?_;refine⟨_,rfl,wpAny_letOwnedTupleGo_zip b1 λh2 c1 sb=>?_⟩;have ks:∀c o,c ∉ [z,TI,TO,i1,i2]->s.heap.get? c=some o->h2.get? c=some o:=λc o hc q=>by
   simp only[aU,eY,or_false,not_or]at hc;exact sb.extBut _ _ hc.1 (kk c o hc.1 hc.2.2.1 hc.2.2.2.1 hc.2.2.2.2 q)
  have nz:s.heap.objs.size≠z:=gN (aZ Z.zip);have b6:qE h2 s.heap.objs.size u v:=sb.extBut _ _ nz b5;have I2:Inv X f' σ H { s with heap:=h2 }:=I.turnedAll (t':=s.toks) hf ks;have fT:ij X f' H s.heap.objs.size:=I.fpOk (aN _) (I.hok.fresh (aN _));have I3:Inv X f' σ (upd H s.heap.objs.size (.tup [x,y])) { s with heap:=h2 }:=I2.track fT I.sz
   ⟨by show 2<=sizeLine;decide,[u,v],.cons ru (.cons rv .nil),⟨_,b6,rfl,_,rfl⟩⟩
  refine⟨.ref s.heap.objs.size,_,I3,rfl,⟨_,x,y,fT.1,rfl,λus hu=>by rw[I.list_inj hu hx];exact ex,λus hu=>by rw[I.list_inj hu hy];exact ey,rfl⟩,?_,λc hc=>?_⟩
  ·obtain⟨w3,v3,q3⟩:=b3;obtain⟨w4,v4,q4⟩:=b4;exact⟨c1,sb.extBut _ _ D.TIz (kk _ _ D.TIz D.TITO D.TIi1 D.TIi2 Z.its),⟨_,_,sb.extBut _ _ D.TOz b2⟩,⟨w3,sb.extBut _ _ D.i1z v3,q3⟩,⟨w4,sb.extBut _ _ D.i2z v4,q4⟩⟩
  ·obtain⟨o,q,_⟩:∃o,s.heap.get? c=some o/\True:=by
    obtain⟨u1,u2,⟨_,_,u3⟩,⟨o4,u4,_⟩,⟨o5,u5,_⟩⟩:=Z;simp only[aU,eY,or_false]at hc;rcases hc with q | q | q | q | q
    ·subst q;exact⟨_,u1,trivial⟩
    ·subst q;exact⟨_,u2,trivial⟩
    ·subst q;exact⟨_,u3,trivial⟩
    ·subst q;exact⟨_,u4,trivial⟩
    ·subst q;exact⟨_,u5,trivial⟩
   rw[ai (cK (aZ q))];exact(hf c hc).1
 done:=by
  intro X hP hw hK hc k f' s σ H E I hf Z hg;subst hP hw hK;obtain⟨xs,ys,hx,hy,CN⟩:=hg;obtain⟨its,r1,p1,_⟩:=I.list hx;obtain⟨zM,r2,p2,_⟩:=I.list hy;have l1:=r1.length;have l2:=r2.length;have en:its.toArray[k]?=none\/zM.toArray[k]?=none:=by
   rcases CN with q | q
   ·exact .inl (by simp;lia)
   ·exact .inr (by simp;lia)
  refine Oy (I.ok.hd hc) D Z (p1.isList) (p2.isList) en λh1 kk=>⟨rfl,I.turnedAll (t':=s.toks) hf λc o hc q=>?_⟩;simp only[aU,eY,or_false,not_or]at hc;exact kk c o hc.1 hc.2.2.1 hc.2.2.2.1 hc.2.2.2.2 q
 self:=λ_ _ _ _ _ Z h=>wpAny_pyIter_zip Z.zip h
section
variable {X:Cx}
def W5 (K:aC)(ta:TA):TI:=λσ H R=>ta σ H λvs H1=>∃a b xs ys,vs=[.ref a,.ref b]/\SqL K H1 a xs/\SqL K H1 b ys/\R (Oz K a b) H1
theorem A1 {e1 e2:Expr}{ta:TA}{p pos CI:Pos}{es:List Expr}{j:Nat}(hg:Gl X "zip")(hm:X.mg "zip"=none)(ha:PA X [e1,e2] ta)(hs:cW [e1,e2] X.env=[(false,eval e1 X.env),(false,eval e2 X.env)]:=by rfl)
  (BM:cW [e2] X.env=[(false,eval e2 X.env)]:=by rfl):PI X (.Tuple es j CI) (.Call (.Name "zip" p) [e1,e2] [] pos) (W5 X.K ta):=by
 intro f' s σ H R I h;refine Call_ (ip I hg hm (by kernel_rfl:jI (iC "zip")=some (.type "zip")) (iL (thn (ha pos f' s σ H _ I h) λus s1 ⟨vs,H1,I1,r1,q1⟩=>?_) (by rw[hs,BM]) (by rw[BM];rfl)));obtain⟨a,b,xs,ys,e,hx,hy,q⟩:=q1;subst e;obtain⟨u,v,rfl,ru,rv⟩:=yj r1;cases(show u=cE a from ru);cases(show v=cE b from rv);obtain⟨its,k1,p1,_⟩:=I1.list hx;obtain⟨zM,k2,p2,_⟩:=I1.list hy;have a1:a < s1.heap.objs.size:=(by obtain⟨_,e,_⟩:=p1.isList;exact aZ e);have a2:b < s1.heap.objs.size:=(by obtain⟨_,e,_⟩:=p2.isList;exact aZ e);refine Lo (p1.isList) (p2.isList) λh2 Z kk sz=>?_;have I2:Inv X f' σ H1 { s1 with heap:=h2 }:=I1.kept (t':=s1.toks) kk;refine wpAny_pyIter_zip Z.zip ⟨_,_,_,_,H1,rfl,I2,Lp (zipApart_new a1 a2),Z,λc hc=>?_,q⟩;refine I1.fpOk ?_ (I1.hok.fresh ?_)
 all_goals
  simp only[aU,eY,or_false]at hc;rcases hc with q | q | q | q | q<;>subst q<;>lia
end
open Sem (wp)
open AutoSeq1 (wpAny_loadPart')
theorem Ff (l:Addr)(items:Array aB) :
  Meets (iW.«enumerate.__new__» ⟨[.type "enumerate",.ref l],[]⟩) (λ_ R s=>s.heap.IsList l items/\R (.ok (.ret (.ref (s.heap.push { cls:=.type "list_iterator",data:=.fields #[.ref l,.int 0 0] }).objs.size))) { s with heap:=(s.heap.push { cls:=.type "list_iterator",data:=.fields #[.ref l,.int 0 0] }).push { cls:=.type "enumerate",data:=.fields #[.none,.bool false,.ref s.heap.objs.size,jF 0,.none,.none] } }):=
 .of_wp λprog w A R s h=>by
  obtain⟨hp,g,d,tk,os⟩:=s;obtain⟨hL,h⟩:=h;have BB:=sub_enumerate;have FE:yH (wO ⟨hp,g,d,tk,os⟩) l items:=hL
  wp_walk using iM FE
  refine wpAny_stack_any λst=>wpAny_pure ?_
  split
  ·rename_i c _ _ _ _ _
   cases(c == rC "enumerate")
   ·wp_walk using iM FE
    exact⟨_,rfl,h⟩
   ·wp_walk using iM FE
    exact⟨_,rfl,h⟩
  ·wp_walk using iM FE
   exact⟨_,rfl,h⟩
section
variable {prog:aP}{w:aW}{A:cQ}{E:aB->aG->Prop}{s:aG}
theorem Jq {l:Addr}{items:Array aB}{Q:aB->aG->Prop}(hL:s.heap.IsList l items)
  (h:∀h',lG h' (s.heap.objs.size+1) s.heap.objs.size 0 .none->h'.IsListIter s.heap.objs.size l 0->h'.objs.size=s.heap.objs.size+2->(∀b o,s.heap.get? b=some o->h'.get? b=some o)->Q (.ref (s.heap.objs.size+1)) { s with heap:=h' }) :
  aM (aX prog w) A (call (.type "enumerate") [.ref l]) Q E s:=by
 refine xS F.called_enumerate (by decide) (F.typeCall_enumerate_1 _) (F.newCall_enumerate_1 _) (λobj=>F.args_object_init_2 obj _) F.entry_enumerate_new (Ff l items) ⟨hL,?_⟩;have hz:(s.heap.push { cls:=.type "list_iterator",data:=.fields #[.ref l,.int 0 0] }).objs.size=s.heap.objs.size+1:=gK ..;show _/\_;rw[hz];have he:lG ((s.heap.push { cls:=.type "list_iterator",data:=.fields #[.ref l,.int 0 0] }).push { cls:=.type "enumerate",data:=.fields #[.none,.bool false,.ref s.heap.objs.size,jF 0,.none,.none] }) (s.heap.objs.size+1) s.heap.objs.size 0 .none:=by
  have z:=bV (s.heap.push { cls:=.type "list_iterator",data:=.fields #[.ref l,.int 0 0] }) (o:={ cls:=.type "enumerate",data:=.fields #[.none,.bool false,.ref s.heap.objs.size,jF 0,.none,.none] }) rfl;rw[hz]at z;exact z
 exact⟨⟨_,he,rfl⟩,h _ he ⟨_,aJ _ (bV _ rfl),rfl,rfl⟩ (by rw[gK,hz]) λb o x=>aJ _ (aJ _ x)⟩
theorem Jr {e it l:Addr}{i:Nat}{items:Array aB}{x old:aB}{Q:aB->aG->Prop}(he:lG s.heap e it i old)(BY:s.heap.IsListIter it l i)(hl:s.heap.IsList l items)(hx:items[i]?=some x)(zO:e≠it)
  (hQ:∀h',qY h' e it ((i:Int)+1) x s.heap.objs.size->h'.IsListIter it l (i+1)->h'.get? s.heap.objs.size=some { cls:=.type "tuple",data:=.seq #[.int i s.toks,x] }->h'.objs.size=s.heap.objs.size+1->(∀b o,b≠e->b≠it->s.heap.get? b=some o->h'.get? b=some o)->Q (.ref s.heap.objs.size) { s with heap:=h',toks:=s.toks+1 }) :
  aM (aX prog w) A (iW.«enumerate.__next__» ⟨[.ref e],[]⟩) (λzL s'=>∃v,zL=.done (.ret v)/\Q v s') E s:=by
 obtain⟨hp,g,d,tk,os⟩:=s;show aM _ _ (field (.ref e) 2 >>= _) _ _ _;refine aA (eI he rfl (x:=.ref it) rfl ?_);refine aA (pH BY hl hx λh1 i1 s1=>?_)
 replace s1:gG it hp h1:=s1
 have e1:lG h1 e it i old:=(s1.2 e zO).trans he;show aM _ _ (field (.ref e) 3 >>= _) _ _ ⟨h1,g,d,tk,os⟩;refine aA (eI e1 rfl (x:=jF i) rfl ?_);show aM _ _ (field (.ref e) 4 >>= _) _ _ ⟨h1,g,d,tk,os⟩;refine aA (eI e1 rfl (x:=.none) rfl ?_);show aM _ _ (mkInt i >>= _) _ _ ⟨h1,g,d,tk,os⟩;refine aA (wpAny_mkInt ?_);show aM _ _ (wZ (.ref e) 3 (jF ((i:Int)+1)) >>= _) _ _ ⟨h1,g,d,tk+1,os⟩;refine aA (fX e1 (by simp) λh2 e2 s2=>?_)
 replace s2:gG e h1 h2:=s2
 replace e2:lG h2 e it ((i:Int)+1) old:=e2
 show aM _ _ (wZ (.ref e) 4 .none >>= _) _ _ ⟨h2,g,d,tk+1,os⟩;refine aA (fX e2 (by simp) λh3 e3 s3=>?_)
 replace s3:gG e h2 h3:=s3
 replace e3:lG h3 e it ((i:Int)+1) old:=e3
 show aM _ _ (yK [.int i tk,x] >>= _) _ _ ⟨h3,g,d,tk+1,os⟩;refine aA (uH ?_);have e4:lG (h3.push { cls:=.type "tuple",data:=.seq #[.int i tk,x] }) e it ((i:Int)+1) old:=aJ _ e3;generalize EB:h3.push { cls:=.type "tuple",data:=.seq #[.int i tk,x] }=h4 at e4;have hsz:h3.objs.size=hp.objs.size:=(by rw[s3.1,s2.1,s1.1]);have IO:e < hp.objs.size:=aZ he;have t4:h4.get? hp.objs.size=some { cls:=.type "tuple",data:=.seq #[.int i tk,x] }:=(by rw[<-EB,<-hsz];exact bV _ rfl);have z4:h4.objs.size=hp.objs.size+1:=(by rw[<-EB,gK,hsz]);have k4:∀b o,b≠e->b≠it->hp.get? b=some o->h4.get? b=some o:=λb o AY HC hb=>by
  rw[<-EB];exact aJ _ (s3.extBut b o AY (s2.extBut b o AY (s1.extBut b o HC hb)))
 have i4:h4.IsListIter it l (i+1):=by
  rw[<-EB];obtain⟨o,ho,r⟩:=(i1.extBut s2.extBut (Ne.symm zO)).extBut s3.extBut (Ne.symm zO);exact⟨o,aJ _ ho,r⟩
 show aM _ _ (gB (.ref e) >>= _) _ _ ⟨h4,g,d,tk+1,os⟩;rw[hsz];clear EB e3 s3 e2 s2 e1 s1 i1 hsz h3 h2 h1;refine aA ?_;unfold gB;refine aA (eI e4 rfl (x:=.none) rfl (wpAny_pure ?_));simp only[if_true];refine aA (rJ ?_);refine aA (eI e4 rfl (x:=old) rfl ?_);refine aA (fX e4 (by simp) λh5 e5 s5=>?_)
 replace s5:gG e h4 h5:=s5
 replace e5:lG h5 e it ((i:Int)+1) x:=e5
 show aM _ _ (gX (.ref e) (.ref hp.objs.size) >>= _) _ _ ⟨h5,g,d,tk+1,os⟩;refine aA ?_;unfold gX;refine aA (fX e5 (by simp) λh6 e6 s6=>?_)
 replace s6:gG e h5 h6:=s6
 replace e6:qY h6 e it ((i:Int)+1) x hp.objs.size:=e6
 refine fX e6 (by simp) λh7 e7 s7=>?_
 replace s7:gG e h6 h7:=s7
 replace e7:qY h7 e it ((i:Int)+1) x hp.objs.size:=e7
 refine aA (uL (wpAny_pure ⟨_,rfl,hQ h7 e7 ?_ ?_ ?_ ?_⟩))
 ·exact((i4.extBut s5.extBut (Ne.symm zO)).extBut s6.extBut (Ne.symm zO)).extBut s7.extBut (Ne.symm zO)
 ·exact s7.extBut _ _ (gN IO) (s6.extBut _ _ (gN IO) (s5.extBut _ _ (gN IO) t4))
 ·rw[s7.1,s6.1,s5.1,z4]
 ·exact λb o AY HC hb=>s7.extBut b o AY (s6.extBut b o AY (s5.extBut b o AY (k4 b o AY HC hb)))
theorem Js {e it l:Addr}{i:Nat}{items:Array aB}{x old:aB}{Q:Option aB->aG->Prop}(he:lG s.heap e it i old)(BY:s.heap.IsListIter it l i)(hl:s.heap.IsList l items)(hx:items[i]?=some x)(zO:e≠it)
  (hQ:∀h',qY h' e it ((i:Int)+1) x s.heap.objs.size->h'.IsListIter it l (i+1)->h'.get? s.heap.objs.size=some { cls:=.type "tuple",data:=.seq #[.int i s.toks,x] }->h'.objs.size=s.heap.objs.size+1->(∀b o,b≠e->b≠it->s.heap.get? b=some o->h'.get? b=some o)->Q (some (.ref s.heap.objs.size)) { s with heap:=h',toks:=s.toks+1 }):aM (aX prog w) A (lE (.ref e)) Q E s:=by
 have hT:s.TypeIs (.ref e) "enumerate":=⟨_,he,rfl⟩;unfold lE;exact aA (nX (gC (name:=iC "__next__") hT F.slot_enumerate_next (fV F.slot_enumerate_next hT F.entry_enumerate_next (Jr he BY hl hx zO λh' a b c d k=>wpAny_pure (hQ h' a b c d k)) (F.args_enumerate_next_1 _))))
theorem Lq {e it l:Addr}{i:Nat}{items:Array aB}{old:aB}{Q:Option aB->aG->Prop}(hh:A.handled=none)(he:lG s.heap e it i old)(BY:s.heap.IsListIter it l i)(hl:s.heap.IsList l items)(hx:items[i]?=none)
  (hQ:∀h',uK it s.heap h'->Q none { s with heap:=h' }):aM (aX prog w) A (lE (.ref e)) Q E s:=by
 have hT:s.TypeIs (.ref e) "enumerate":=⟨_,he,rfl⟩;unfold lE;refine aA (nX (gC (name:=iC "__next__") hT F.slot_enumerate_next (fV F.slot_enumerate_next hT F.entry_enumerate_next ?_ (F.args_enumerate_next_1 _))));show aM _ _ (field (.ref e) 2 >>= _) _ _ _;refine aA (eI he rfl (x:=.ref it) rfl ?_);refine aA (sW hh BY hl hx λh' x ex AX=>?_);obtain⟨o,ho,hc⟩:=AX;refine aA (lJ (T:="StopIteration") (b:=true) ⟨o,ho,hc⟩ uI ?_);exact wpAny_pure (hQ _ ex)
end
structure W6 (h:Heap)(e it l:Addr)(k:Nat):Prop where
 en:∃old,lG h e it k old
 one:h.IsListIter it l k
def O0 (K:aC)(a:Addr):It:=
 ⟨λi H=>∃xs x,SqL K H a xs/\xs[i]?=some x,λi H v H'=>∃p x,H p=none/\v=.ref p/\(∀xs,SqL K H a xs->xs[i]?=some x)/\H'=upd H p (.tup [.int (i:Int),x]),λi H=>∃xs,SqL K H a xs/\xs.length<=i⟩
theorem Jt {P:aP}{w:aW}{K:aC}{es:List Expr}{j:Nat}{pos:Pos}{e it a:Addr}(zO:e≠it)(hae:a≠e)(hai:a≠it) :
  tm P w K (.Tuple es j pos) (O0 K a) [e,it] e (λk h=>W6 h e it a k) where
 mem:=by simp
 obj:=λk h Z c hc=>by
  obtain⟨⟨old,u1⟩,⟨o4,u4,_,v4⟩⟩:=Z;simp only[aU,eY,or_false]at hc;rcases hc with q | q
  ·subst q;exact⟨_,u1,λv e=>by cases(show wL _=uR v from e)⟩
  ·subst q;exact⟨_,u4,λv e=>by rw[v4]at e;cases e⟩
 keep:=λk h h' Z kk=>by
  obtain⟨⟨old,u1⟩,⟨o4,u4,r4⟩⟩:=Z;exact⟨⟨old,kk e (by simp) _ u1⟩,⟨o4,kk it (by simp) _ u4,r4⟩⟩
 item:=by
  intro X hP hw hK hc k f' s σ H E I hf Z hg;subst hP hw hK;obtain⟨xs,x,hx,ex⟩:=hg;obtain⟨its,r1,p1,_⟩:=I.list hx;obtain⟨u,eu,ru⟩:=r1.get ex;obtain⟨⟨old,u1⟩,u2⟩:=Z;refine Js u1 u2 (p1.isList) (x:=u) (by simpa using eu) zO λh1 b1 b2 b3 b4 kk=>?_;refine⟨_,rfl,wpAny_letOwnedTupleGo_enum b1 λh2 c1 sb=>?_⟩;have ks:∀c o,c ∉ [e,it]->s.heap.get? c=some o->h2.get? c=some o:=λc o hc q=>by
   simp only[aU,eY,or_false,not_or]at hc;exact sb.extBut _ _ hc.1 (kk c o hc.1 hc.2 q)
  have ne:s.heap.objs.size≠e:=gN (aZ u1);have b5:=sb.extBut _ _ ne b3;have I2:Inv X f' σ H { s with heap:=h2,toks:=s.toks+1 }:=I.turnedAll (t':=s.toks+1) hf ks;have fT:ij X f' H s.heap.objs.size:=I.fpOk (aN _) (I.hok.fresh (aN _));have I3:Inv X f' σ (upd H s.heap.objs.size (.tup [.int (k:Int),x])) { s with heap:=h2,toks:=s.toks+1 }:=I2.track fT I.sz
   ⟨by show 2<=sizeLine;decide,[.int k s.toks,u],.cons ⟨_,rfl⟩ (.cons ru .nil),⟨_,b5,rfl,_,rfl⟩⟩
  refine⟨.ref s.heap.objs.size,_,I3,rfl,⟨_,x,fT.1,rfl,λus hu=>by rw[I.list_inj hu hx];exact ex,rfl⟩,?_,λc hc=>?_⟩
  ·obtain⟨w3,v3,q3⟩:=b2;exact⟨⟨_,c1⟩,⟨w3,sb.extBut _ _ (Ne.symm zO) v3,q3⟩⟩
  ·obtain⟨o,q⟩:∃o,s.heap.get? c=some o:=by
    obtain⟨o4,u4,_⟩:=u2;simp only[aU,eY,or_false]at hc;rcases hc with q | q
    ·subst q;exact⟨_,u1⟩
    ·subst q;exact⟨_,u4⟩
   rw[ai (cK (aZ q))];exact(hf c hc).1
 done:=by
  intro X hP hw hK hc k f' s σ H E I hf Z hg;subst hP hw hK;obtain⟨xs,hx,CN⟩:=hg;obtain⟨its,r1,p1,_⟩:=I.list hx;obtain⟨⟨old,u1⟩,u2⟩:=Z;have l1:=r1.length;refine Lq (I.ok.hd hc) u1 u2 (p1.isList) (by simp;lia) λh1 kk=>⟨rfl,I.turnedAll (t':=s.toks) hf λc o hc q=>?_⟩;simp only[aU,eY,or_false,not_or]at hc;exact kk c o hc.2 q
 self:=λ_ _ _ _ _ Z h=>let ⟨_,u⟩:=Z.en;rV u h
section
variable {X:Cx}
def Va (K:aC)(ta:TA):TI:=λσ H R=>ta σ H λvs H1=>∃a xs,vs=[.ref a]/\SqL K H1 a xs/\R (O0 K a) H1
theorem xg {e1:Expr}{ta:TA}{p pos CI:Pos}{es:List Expr}{j:Nat}(hg:Gl X "enumerate")(hm:X.mg "enumerate"=none)(ha:PA X [e1] ta)(hs:cW [e1] X.env=[(false,eval e1 X.env)]:=by rfl)
  (BM:cW [] X.env=[]:=by rfl):PI X (.Tuple es j CI) (.Call (.Name "enumerate" p) [e1] [] pos) (Va X.K ta):=by
 intro f' s σ H R I h;refine Call_ (ip I hg hm (by kernel_rfl:jI (iC "enumerate")=some (.type "enumerate")) (iL (thn (ha pos f' s σ H _ I h) λus s1 ⟨vs,H1,I1,r1,q1⟩=>?_) (by rw[hs,BM]) (by rw[BM];rfl)));obtain⟨a,xs,e,hx,q⟩:=q1;subst e;obtain⟨u,rfl,ru⟩:=jf r1;cases(show u=cE a from ru);obtain⟨its,k1,p1,_⟩:=I1.list hx;have a1:a < s1.heap.objs.size:=(by obtain⟨_,e,_⟩:=p1.isList;exact aZ e);refine Jq (p1.isList) λh2 Z1 Z2 sz kk=>?_;have I2:Inv X f' σ H1 { s1 with heap:=h2 }:=I1.kept (t':=s1.toks) kk;refine rV Z1 ⟨_,_,_,_,H1,rfl,I2,Jt (e:=s1.heap.objs.size+1) (it:=s1.heap.objs.size) (a:=a) (Nat.succ_ne_self _) (cK (rW a1)) (cK a1),⟨⟨_,Z1⟩,Z2⟩,λc hc=>?_,q⟩;refine I1.fpOk ?_ (I1.hok.fresh ?_)
 all_goals
  simp only[aU,eY,or_false]at hc;rcases hc with q | q<;>subst q<;>lia
end
section
variable {k:Nat}{fr:List Nat}{g:TG}{tt:TT}{te:TE}{σ:St}{Q:VK}{D:Addr}{H:Hp}
theorem ua {K:aC}{a b:Addr}{xs ws:List V}(zJ:xs.length=ws.length)(Pv:Nat->List V->Hp->Prop)(h0:Pv 0 [] (upd H D (.lst [])))(hd:∀i ys H,Pv i ys H->H D=some (.lst ys))(hl:∀i ys H,i<=xs.length->Pv i ys H->SqL K H a xs/\SqL K H b ws)
  (hz:∀i ys H,i < xs.length->Pv i ys H->ys.length < sizeLine) (hs:∀i x y p ys H,xs[i]?=some x->ws[i]?=some y->Pv i ys H->H p=none->ve k fr g tt te σ D ys (Pv (i+1)) (.ref p) (upd H p (.tup [x,y]))) (he:∀ys H,Pv xs.length ys H->Q (.ref D) H):vf k fr g tt te σ Q (Oz K a b) H D:=by
 refine⟨λi m ys H=>i+m=xs.length/\Pv i ys H,⟨xs.length,by lia,h0⟩,?_⟩;intro i m ys H2 zE;obtain⟨e,p⟩:=zE;obtain⟨q1,q2⟩:=hl i ys H2 (by lia) p;refine⟨hd i ys H2 p,?_⟩;by_cases hi:i < xs.length
 ·have ex:xs[i]?=some xs[i]:=aK hi;have ey:ws[i]?=some ws[i]:=aK (by lia);refine .inr ⟨⟨xs,ws,_,_,q1,q2,ex,ey⟩,hz i ys H2 hi p,Pv (i+1),λFC H' p'=>⟨m - 1,by lia,by lia,p'⟩,?_⟩;intro x H3 zE;obtain⟨pp,x',y',fp,rfl,eu,ev,rfl⟩:=zE;exact hs i x' y' pp ys H2 (eu xs q1) (ev ws q2) p fp
 ·have e':i=xs.length:=(by lia);subst e';exact .inl ⟨⟨xs,ws,q1,q2,.inl (aN _)⟩,he ys H2 p⟩
theorem qt {K:aC}{a:Addr}{xs:List V}(Pv:Nat->List V->Hp->Prop)(h0:Pv 0 [] (upd H D (.lst [])))(hd:∀i ys H,Pv i ys H->H D=some (.lst ys))(hl:∀i ys H,i<=xs.length->Pv i ys H->SqL K H a xs)
  (hz:∀i ys H,i < xs.length->Pv i ys H->ys.length < sizeLine) (hs:∀i x p ys H,xs[i]?=some x->Pv i ys H->H p=none->ve k fr g tt te σ D ys (Pv (i+1)) (.ref p) (upd H p (.tup [.int (i:Int),x]))) (he:∀ys H,Pv xs.length ys H->Q (.ref D) H):vf k fr g tt te σ Q (O0 K a) H D:=by
 refine⟨λi m ys H=>i+m=xs.length/\Pv i ys H,⟨xs.length,by lia,h0⟩,?_⟩;intro i m ys H2 zE;obtain⟨e,p⟩:=zE;have q1:=hl i ys H2 (by lia) p;refine⟨hd i ys H2 p,?_⟩;by_cases hi:i < xs.length
 ·have ex:xs[i]?=some xs[i]:=aK hi;refine .inr ⟨⟨xs,_,q1,ex⟩,hz i ys H2 hi p,Pv (i+1),λFC H' p'=>⟨m - 1,by lia,by lia,p'⟩,?_⟩;intro x H3 zE;obtain⟨pp,x',fp,rfl,eu,rfl⟩:=zE;exact hs i x' pp ys H2 (eu xs q1) p fp
 ·have e':i=xs.length:=(by lia);subst e';exact .inl ⟨⟨xs,q1,aN _⟩,he ys H2 p⟩
end
theorem W7 {X:Cx}{ns ys:List Str}{fr:List Nat}{sc:gM}{cl:List (Str×Addr)}(L:List (Str×vS))(clos:yV sc X.env=pure cl)(kind:sc.kind=.function)(nocell:∀y∈sc.names,y.2≠.cell)(locs:∀y∈sc.names,y.2=.local->sc.names.lookup y.1=some .local)
  (sub:∀p∈cl,X.env.cells.lookup p.1=some p.2) (eL:(pK sc X.env).names=L) (hL:∀p∈L,p.2=.cell\/p.2=.free->∃c,cl.lookup p.1=some c) (len:fr.length=ys.length)
  (outs:∀(j:Nat)(y:Str),ys[j]?=some y->∃i:Nat,fr[j]?=some i/\X.N[i]?=some y/\(X.env.kindOf y=some .cell\/X.env.kindOf y=some .free)/\((pK sc X.env).names.lookup y=some .cell\/(pK sc X.env).names.lookup y=some .free)):bv X ns ys fr sc cl where
 clos:=clos
 kind:=kind
 nocell:=nocell
 locs:=locs
 sub:=sub
 has:=λy h=>by
  rw[eL]at h;rcases h with h | h
  ·exact hL _ (dt h) (.inl rfl)
  ·exact hL _ (dt h) (.inr rfl)
 len:=len
 outs:=outs
section
variable {X:Cx}
def W8:V->List V->Hp->VK->Prop:=λx vs H Q=>∃i,x=.int i/\vs=[]/\Q (.int (qK i:Nat)) H
theorem So:MtM X "int.bit_length" W8:=by
 intro f' s σ H x vs v us Q I rx rv h;obtain⟨i,rfl,rfl,q⟩:=h;obtain⟨t,rfl⟩:=rx;have OO:=rv.zero;subst OO;exact call_gives PySem.F.slot_int_bit_length (vI s i t) PySem.F.entry_int_bit_length (PySem.F.args_int_bit_length_1 _) (AutoIntG2.int_bit_length_int_0 i t) ⟨.int _,H,I.tok _,⟨_,rfl⟩,q⟩
def tTru (K:aC)(ta:TE):TT:=λσ H Q=>ta σ H λx H'=>∃k,Ny K x H' k/\Q k H'
theorem D0 {K:aC}{a:Expr}{ta:TE}(hK:X.K=K)(ha:PE X a ta)(he:∀AJ,wQ a X.env AJ=(do let v <-AJ;vK a.pos;rF [v] (truthy v))):PT X a (tTru K ta):=by
 subst hK;exact qg ha he
theorem O1 (k:Nat):qK ((2:Int) ^ k)=k+1:=by
 have e:((2:Int) ^ k)=((2 ^ k:Nat):Int):=(by simp);unfold qK;rw[e,if_neg (by have:=tS k;simp;lia)];rw[Int.natAbs_natCast,Nat.log2_two_pow]
end
def AllP {α:Type}(p:α->Prop):List α->Prop
 | []=>True
 |x::r=>p x/\AllP p r
theorem AllP.mem {α:Type}{p:α->Prop}:∀{l:List α}{x:α},AllP p l->x∈l->p x
 |y::r,x,h,hx=>by
  rcases aU.mp hx with e | e
  ·rw[e];exact h.1
  ·exact h.2.mem e
def OutsP (X:Cx)(sc:gM):List Str->List Nat->Prop
 | [],[]=>True
 |y::ys,i::fr=>(X.N[i]?=some y/\X.env.kindOf y=some .cell/\(pK sc X.env).names.lookup y=some .cell)/\OutsP X sc ys fr
 |_,_=>False
theorem OutsP.get {X:Cx}{sc:gM}:∀{ys:List Str}{fr:List Nat},OutsP X sc ys fr->fr.length=ys.length/\∀(j:Nat)(y:Str),ys[j]?=some y->∃i:Nat,fr[j]?=some i/\X.N[i]?=some y/\(X.env.kindOf y=some .cell\/X.env.kindOf y=some .free)/\((pK sc X.env).names.lookup y=some .cell\/(pK sc X.env).names.lookup y=some .free)
 | [],[],_=>⟨rfl,λj y e=>by cases j<;>cases e⟩
 |y::ys,i::fr,h=>by
  obtain⟨l,g⟩:=h.2.get;refine⟨by rw[cX,cX,l],λj z e=>?_⟩;cases j with
  |zero=>cases e;exact⟨i,rfl,h.1.1,.inl h.1.2.1,.inl h.1.2.2⟩
  |succ j=>exact g j z e
theorem csN {X:Cx}{ns ys:List Str}{fr:List Nat}{sc:gM}{cl:List (Str×Addr)}(L:List (Str×vS))(clos:yV sc X.env=pure cl:=by with_unfolding_all rfl)(kind:sc.kind=.function:=by rfl)(nocell:∀y∈sc.names,y.2≠.cell:=by decide +kernel)
  (locs:∀y∈sc.names,y.2=.local->sc.names.lookup y.1=some .local:=by decide +kernel) (sub:AllP (λp=>X.env.cells.lookup p.1=some p.2) cl:=by repeat' first | exact trivial | with_unfolding_all rfl | constructor)
  (eL:(pK sc X.env).names=L:=by with_unfolding_all rfl) (hL:AllP (λp=>(p.2≠.cell/\p.2≠.free)\/(cl.lookup p.1).isSome=true) L:=by repeat' first | exact trivial | exact .inl ⟨by decide,by decide⟩ | exact .inr (by with_unfolding_all rfl) | constructor)
  (outs:OutsP X sc ys fr:=by repeat' first | exact trivial | with_unfolding_all rfl | constructor):bv X ns ys fr sc cl:=
 W7 L clos kind nocell locs (λ_ hp=>sub.mem hp) eL (λp hp hk=>by
   rcases hL.mem hp with h | h
   · exact absurd hk (λz=>z.elim h.1 h.2)
   · exact oJ.mp h) outs.get.1 outs.get.2
theorem fsN {N ps:List Str}{sc:gM}(a:sc.kind=.function:=by rfl)(b:sc.isCoroutine=false:=by rfl)(c:sc.isGenerator=false:=by rfl)(d:N.Nodup:=by decide +kernel)(e:N.take ps.length=ps:=by rfl)
  (f:∀x∈ps,sc.names.lookup x=some .local\/sc.names.lookup x=some .cell:=by decide +kernel) (g:∀y∈sc.names,y.2≠.free:=by decide +kernel):au N ps sc:=⟨a,b,c,d,e,f,g⟩
theorem pg2 {X:Cx}{C:Addr}{s:aG}{H:Hp}{fp:List Addr}{cl:List (Str×Addr)}{sc:gM}{a b:Str}{ys:List Str}{k:Nat}{p1 p2 p3:Pos}(hc:X.calm=true)(nd:([a,b]++ys).Nodup:=by decide +kernel)
  (ha:Loc (cxC X ([a,b]++ys) sc cl C s H fp).env.scope a:=by exact cD rfl) (hb:Loc (cxC X ([a,b]++ys) sc cl C s H fp).env.scope b:=by exact cD rfl)
  (ka:(cxC X ([a,b]++ys) sc cl C s H fp).env.scope.names.lookup a=some .local:=by rfl) (kb:(cxC X ([a,b]++ys) sc cl C s H fp).env.scope.names.lookup b=some .local:=by rfl) :
  PG (cxC X ([a,b]++ys) sc cl C s H fp) (.Tuple [.Name a p1,.Name b p2] k p3) (Uj X.K 2 (Ho (mq 0) (Ho (mq 1) Ui))):=
 tj hc (fb (ba (i:=0) nd rfl ha (.inr ka)) (fb (ba (i:=1) nd rfl hb (.inr kb)) m9))
section
variable {κ:Type}[DecidableEq κ]
def ff (kvs:List (κ×V))(k:κ):Option V:=(kvs.find? λkv=>decide (kv.1=k)).map (·.2)
def j5 (kvs:List (κ×V))(k:κ)(v:V):List (κ×V):=
 if (kvs.any λkv=>decide (kv.1=k))=true then kvs.map (λkv=>if kv.1=k then (kv.1,v)else kv)else kvs++[(k,v)]
theorem fm {p:κ×V}{r:List (κ×V)}{k:κ}(e:p.1=k):ff (p::r) k=some p.2:=by simp[ff,nQ,e]
theorem fo {p:κ×V}{r:List (κ×V)}{k:κ}(e:¬p.1=k):ff (p::r) k=ff r k:=by simp[ff,nQ,e]
theorem qu (k:κ):∀kvs:List (κ×V),(kvs.any λkv=>decide (kv.1=k))=(ff kvs k).isSome
 | []=>rfl
 |p::r=>by
  rw[qD];by_cases e:p.1=k
  ·simp only[fm e,decide_eq_true e,Bool.true_or,Option.isSome_some]
  ·rw[fo e,decide_eq_false e,Bool.false_or];exact qu k r
theorem D1 (k j:κ)(y:V):∀kvs:List (κ×V),ff (kvs.map λkv=>if kv.1=k then (kv.1,y)else kv) j=(ff kvs j).map λx=>if j=k then y else x
 | []=>rfl
 |p::r=>by
  have ih:=D1 k j y r;rw[eO];by_cases h:p.1=k
  ·rw[if_pos h];by_cases e:p.1=j
   ·rw[fm (p:=(p.1,y)) e,fm e,qO,if_pos (e.symm.trans h)]
   ·rw[fo (p:=(p.1,y)) e,fo e,ih]
  ·rw[if_neg h];by_cases e:p.1=j
   ·rw[fm (p:=p) e,fm e,qO,if_neg (λz=>h (e.trans z))]
   ·rw[fo (p:=p) e,fo e,ih]
theorem Bs (k j:κ)(y:V):∀kvs:List (κ×V),ff kvs k=none->ff (kvs++[(k,y)]) j=if j=k then some y else ff kvs j
 | [],_=>by
  by_cases e:k=j
  ·rw[if_pos e.symm];exact fm (p:=(k,y)) e
  ·rw[if_neg (λz=>e z.symm)];exact fo (p:=(k,y)) e
 |p::r,hn=>by
  rw[sO];have hk:¬p.1=k:=λz=>(by rw[fm z]at hn;cases hn);rw[fo hk]at hn;have ih:=Bs k j y r hn;by_cases e:p.1=j
  ·rw[fm e,fm e,if_neg (λz=>hk (e.trans z))]
  ·rw[fo e,fo e,ih]
theorem D3 (kvs:List (κ×V))(k j:κ)(y:V):ff (j5 kvs k y) j=if j=k then some y else ff kvs j:=by
 unfold j5;by_cases a:(kvs.any λkv=>decide (kv.1=k))=true
 ·rw[if_pos a,D1];rw[qu]at a;by_cases e:j=k
  ·obtain⟨x,hx⟩:=oJ.mp a;rw[if_pos e,e,hx,qO,if_pos rfl]
  ·rw[if_neg e];cases ff kvs j with
   |none=>rfl
   |some x=>rw[qO,if_neg e]
 ·rw[if_neg a];refine Bs k j y kvs ?_;rw[qu]at a;cases q:ff kvs k with
  |none=>rfl
  |some x=>rw[q]at a;exact(a rfl).elim
theorem ou (kvs:List (κ×V))(k:κ)(v:V):(j5 kvs k v).length<=kvs.length+1:=by
 unfold j5
 split
 ·rw[aI];lia
 ·rw[aO,cX,qL];lia
theorem RelO.isSome_eq {o:Option V}{u:Option aB}(r:RelO o u):o.isSome=u.isSome:=by
 cases o with
 |none=>cases u with
  |none=>rfl
  |some _=>exact(show False from r).elim
 |some _=>cases u with
  |none=>exact(show False from r).elim
  |some _=>rfl
theorem KV.val {kvs:List (κ×V)}{vs:List (κ×aB)}(r:KV kvs vs)(k:κ):RelO (ff kvs k) (vN vs k):=by
 unfold KV at r
 induction r with
 |nil=>exact kQ
 |@cons p q ps qs h t ih=>
  obtain⟨h1,h2⟩:=h;by_cases e:p.1=k
  ·have e':q.1=k:=h1.symm.trans e;have b:vN (q::qs) k=some q.2:=(by simp[vN,nQ,e']);rw[fm e,b];exact h2
  ·have e':¬q.1=k:=λz=>e (h1.trans z);have b:vN (q::qs) k=vN qs k:=(by simp[vN,nQ,e']);rw[fo e,b];exact ih
theorem KV.any {kvs:List (κ×V)}{vs:List (κ×aB)}(r:KV kvs vs)(k:κ):(kvs.any λkv=>decide (kv.1=k))=vs.any λkv=>decide (kv.1=k):=by
 unfold KV at r
 induction r with
 |nil=>rfl
 |cons h t ih=>rw[qD,qD,ih,h.1]
theorem KV.repl {kvs:List (κ×V)}{vs:List (κ×aB)}(r:KV kvs vs)(k:κ){y:V}{u:aB}(ry:RelV y u) :
  KV (kvs.map λkv=>if kv.1=k then (kv.1,y)else kv) (vs.map λkv=>if kv.1=k then (kv.1,u)else kv):=by
 unfold KV at r ⊢
 induction r with
 |nil=>exact .nil
 |@cons p q ps qs h t ih=>
  rw[eO,eO];refine .cons ?_ ih;obtain⟨h1,h2⟩:=h;by_cases e:p.1=k
  ·rw[if_pos e,if_pos (h1.symm.trans e)];exact⟨h1,ry⟩
  ·rw[if_neg e,if_neg (λz=>e (h1.trans z))];exact⟨h1,h2⟩
theorem KV.put {kvs:List (κ×V)}{vs:List (κ×aB)}(r:KV kvs vs)(k:κ){y:V}{u:aB}(ry:RelV y u):KV (j5 kvs k y) (stored vs k u):=by
 unfold j5 stored;rw[r.any k];by_cases e:(vs.any λkv=>decide (kv.1=k))=true
 ·rw[if_pos e,if_pos e];exact r.repl k ry
 ·rw[if_neg e,if_neg e];exact Paired.snoc r ⟨rfl,ry⟩
theorem KV.length {kvs:List (κ×V)}{vs:List (κ×aB)}(r:KV kvs vs):kvs.length=vs.length:=Paired.length r
end
theorem Cj {P:aP}{w:aW}{k:Key}{u:aB}(r:RelV (kV k) u):(eh P w).is k u=true:=by
 cases k with
 |inl i=>obtain⟨t,e⟩:=(show ∃t,u=nI i t from r);subst e;exact Fb P w i t
 |inr x=>obtain⟨t,e⟩:=(show ∃t,u=uO x t from r);subst e;exact Fc P w x t
theorem Bt {P:aP}{w:aW}:∀{ks:List Key}{us:List aB},Vals (ks.map kV) us->ItemsAre (eh P w) ks us
 | [],_,r=>by rw[vV]at r;cases r;exact .nil
 |k::ks,_,r=>by
  rw[eO]at r;cases r with
  |cons h t=>exact .cons (Cj h) (Bt t)
abbrev KT (H:Hp):List (List Key×V)->List (List Key×Addr×aB)->Prop:=Paired λp q=>p.1=q.1/\H q.2.1=some (.tup (p.1.map kV))/\RelV p.2 q.2.2
theorem KT.val {H:Hp}{kvs:List (List Key×V)}{xs:List (List Key×Addr×aB)}(r:KT H kvs xs)(k:List Key):RelO (ff kvs k) ((oZ xs k).map (·.2)):=by
 induction r with
 |nil=>exact kQ
 |@cons p q ps qs h t ih=>
  obtain⟨h1,_,h2⟩:=h;by_cases e:p.1=k
  ·have e':q.1=k:=h1.symm.trans e;have b:oZ (q::qs) k=some q.2:=(by simp[oZ,nQ,e']);rw[fm e,b];exact h2
  ·have e':¬q.1=k:=λz=>e (h1.trans z);have b:oZ (q::qs) k=oZ qs k:=(by simp[oZ,nQ,e']);rw[fo e,b];exact ih
theorem KT.repl {H:Hp}{kvs:List (List Key×V)}{xs:List (List Key×Addr×aB)}(r:KT H kvs xs)(k:List Key){y:V}{u:aB}(ry:RelV y u) :
  KT H (kvs.map λkv=>if kv.1=k then (kv.1,y)else kv) (xs.map (putAt k u)):=by
 induction r with
 |nil=>exact .nil
 |@cons p q ps qs h t ih=>
  rw[eO,eO];refine .cons ?_ ih;obtain⟨h1,h2,h3⟩:=h;unfold putAt;by_cases e:p.1=k
  ·rw[if_pos e,if_pos (h1.symm.trans e)];exact⟨h1,h2,ry⟩
  ·rw[if_neg e,if_neg (λz=>e (h1.trans z))];exact⟨h1,h2,h3⟩
theorem KT.put {H:Hp}{kvs:List (List Key×V)}{xs:List (List Key×Addr×aB)}(r:KT H kvs xs)(k:List Key){b:Addr}{y:V}{u:aB}(hb:H b=some (.tup (k.map kV)))(ry:RelV y u) :
  KT H (j5 kvs k y) (zC xs k b u):=by
 have e:(kvs.any λkv=>decide (kv.1=k))=(oZ xs k).isSome:=by
  rw[qu,(r.val k).isSome_eq,vE]
 unfold j5 zC;rw[e];by_cases q:(oZ xs k).isSome=true
 ·rw[if_pos q,if_pos q];exact r.repl k ry
 ·rw[if_neg q,if_neg q];exact Paired.snoc r ⟨rfl,hb,ry⟩
theorem KT.keeps {H H':Hp}{kvs:List (List Key×V)}{xs:List (List Key×Addr×aB)}(r:KT H kvs xs)(ht:∀b ys,H b=some (.tup ys)->H' b=some (.tup ys)):KT H' kvs xs:=
 Paired.mapP r λ_ _ z=>⟨z.1,ht _ _ z.2.1,z.2.2⟩
section
variable {P:aP}{w:aW}{H:Hp}{h:Heap}{a:Addr}
theorem Qv {u:HO}(ok:HOk P w H h)(e:Rd H a u):ObjOk P w H h a u:=e.ok ok
theorem Ck {kvs:List (Key×V)}(ok:HOk P w H h)(e:Rd H a (.dK kvs)):kvs.length<=sizeLine/\(a == lR)=false/\∃vs,KV kvs vs/\h.DictOf (eh P w) a vs:=
 show ObjOk P w H h a (.dK kvs)from Qv ok e
theorem W9 {kvs:List (Key×V)}(ok:HOk P w H h)(e:H a=some (.dK kvs)):kvs.length<=sizeLine/\(a == lR)=false/\∃vs,KV kvs vs/\h.DictOf (eh P w) a vs:=Ck ok (.inl e)
theorem zi {ks:List Key}(ok:HOk P w H h)(e:H a=some (.tup (ks.map kV))):(wB (eh P w)).is h ks a:=by
 obtain⟨_,its,r,o,h1,h2,n,h3⟩:=(show ObjOk P w H h a (.tup (ks.map kV))from ok a _ e);exact⟨o,its.toArray,n,h1,h2,h3,by simpa using Bt r⟩
theorem Cl {kvs:List (List Key×V)}(ok:HOk P w H h)(e:Rd H a (.dT kvs)):kvs.length<=sizeLine/\(a == lR)=false/\
  ∃xs,KT H kvs xs/\h.DictOfH (wB (eh P w)) a xs:=by
 obtain⟨z,y,xs,r,o,es,ep,h1,h2,h3,h4,h5⟩:=(show ObjOk P w H h a (.dT kvs)from Qv ok e);refine⟨z,y,xs,r,o,es,ep,h1,h2,h3,h4,λx hx=>?_,h5⟩;have all:∀{l:List (List Key×V)}{m:List (List Key×Addr×aB)},KT H l m->∀x∈m,(wB (eh P w)).is h x.1 x.2.1:=by
  intro l m q
  induction q with
  |nil=>intro x hx;exact nomatch hx
  |@cons p q ps qs hq t ih=>
   intro x hx;rcases aU.mp hx with e | hx
   ·subst e;exact zi ok (by rw[<-hq.1];exact hq.2.1)
   ·exact ih x hx
 exact all r x hx
theorem Xa {kvs:List (List Key×V)}(ok:HOk P w H h)(e:H a=some (.dT kvs)):kvs.length<=sizeLine/\(a == lR)=false/\
  ∃xs,KT H kvs xs/\h.DictOfH (wB (eh P w)) a xs:=Cl ok (.inl e)
end
def DGet (H:Hp)(a:Addr)(y:V)(r:Option V):Prop:=
 (∃kvs k,Rd H a (.dK kvs)/\y=kV k/\r=ff kvs k)\/∃kvs k b,Rd H a (.dT kvs)/\y=.ref b/\H b=some (.tup (k.map kV))/\r=ff kvs k
def DPut (H:Hp)(a:Addr)(y v:V)(H':Hp):Prop:=
 (∃kvs k,H a=some (.dK kvs)/\y=kV k/\kvs.length < sizeLine/\H'=upd H a (.dK (j5 kvs k v)))\/
 ∃kvs k b,H a=some (.dT kvs)/\y=.ref b/\H b=some (.tup (k.map kV))/\kvs.length < sizeLine/\H'=upd H a (.dT (j5 kvs k v))
theorem DGet.k {H:Hp}{a:Addr}{kvs:List (Key×V)}{k:Key}(e:H a=some (.dK kvs)):DGet H a (kV k) (ff kvs k):=.inl ⟨kvs,k,.inl e,rfl,rfl⟩
theorem DPut.k {H:Hp}{a:Addr}{kvs:List (Key×V)}{k:Key}{v:V}(e:H a=some (.dK kvs))(hl:kvs.length < sizeLine):DPut H a (kV k) v (upd H a (.dK (j5 kvs k v))):=.inl ⟨kvs,k,e,rfl,hl,rfl⟩
section
variable {X:Cx}{f':List (Addr×Obj)}{σ:St}{H:Hp}{s:aG}{a:Addr}{y v:V}{u r:aB}{o:Option V}{A:cQ}{E:aB->aG->Prop}
theorem Inv.big (I:Inv X f' σ H s):lR < s.heap.objs.size:=by
 have h:aQ < s.heap.objs.size:=(I.mod.glob.keeps I.bk).lt;exact jK (by decide) h
theorem Lr {Q:aB->aG->Prop}(hu:A.units+1 < iK)(I:Inv X f' σ H s)(g:DGet H a y (some v))(ry:RelV y u)(h:∀w' s',Inv X f' σ H s'->RelV v w'->Q w' s') :
  aM (aX X.prog X.w) A (rG (.ref a) u) Q E s:=by
 rcases g with⟨kvs,k,e,ey,l⟩ | ⟨kvs,k,b,e,ey,eb,l⟩
 ·subst ey;obtain⟨z,hd,vs,BQ,dd⟩:=Ck I.hok e;obtain⟨w',hw,DB⟩:=RelO.some_of (v:=v) (o:=vN vs k) (by rw[l];exact BQ.val k);exact wpAny_getItem_of (Cj ry) dd.mapOf hw (h w' _ (I.tok _) DB)
 ·subst ey;cases(show u=cE b from ry);obtain⟨z,hd,xs,BQ,dd⟩:=Cl I.hok e;obtain⟨w',hw,DB⟩:=RelO.some_of (v:=v) (o:=(oZ xs k).map (·.2)) (by rw[l];exact BQ.val k);obtain⟨p,hp,zZ⟩:=iU.mp hw;refine wpAny_getItem_heap (uT hu) (zi I.hok eb) dd hp ?_;rw[zZ];exact h w' _ (I.tok _) DB
theorem Sq {Q:aB->aG->Prop}(hu:A.units+1 < iK)(I:Inv X f' σ H s)(g:DGet H a y o)(ry:RelV y u)(h:∀s',Inv X f' σ H s'->Q (.bool (!o.isSome)) s') :
  aM (aX X.prog X.w) A (lZ .NotIn u (.ref a)) Q E s:=by
 rcases g with⟨kvs,k,e,ey,l⟩ | ⟨kvs,k,b,e,ey,eb,l⟩
 ·subst ey;obtain⟨z,hd,vs,BQ,dd⟩:=Ck I.hok e;refine wpAny_notIn_of (Cj ry) hd dd.mapOf ?_;rw[<-(BQ.val k).isSome_eq,<-l];exact h _ (I.tok _)
 ·subst ey;cases(show u=cE b from ry);obtain⟨z,hd,xs,BQ,dd⟩:=Cl I.hok e;refine wpAny_notIn_heap (uT hu) (zi I.hok eb) hd dd ?_;have q:=(BQ.val k).isSome_eq;rw[vE]at q;rw[<-q,<-l];exact h _ (I.tok _)
theorem Ge {h':Heap}{t':Nat}{ob:HO}(I:Inv X f' σ H s)(mu:Mut (H a))(hs:gG a s.heap h')(he:∃q,h'.get? a=some q)(new:ObjOk X.prog X.w (upd H a ob) h' a ob) :
  Inv X f' σ (upd H a ob) { s with heap:=h',toks:=t' }:=
 I.write (x:=a) (e:=a) mu (.inl rfl) (λb q hb z=>(hs.2 b hb).trans z) he new
theorem Vb {P:aP}{w:aW}{H':Hp}{h':Heap}{kvs:List (Key×V)}{vs:List (Key×aB)}(z:kvs.length<=sizeLine)(hd:(a == lR)=false)(BQ:KV kvs vs)(dd:h'.DictOf (eh P w) a vs) :
  ObjOk P w H' h' a (.dK kvs):=⟨z,hd,vs,BQ,dd⟩
theorem Ls {H':Hp}{Q:Unit->aG->Prop}(hu:A.units+1 < iK)(I:Inv X f' σ H s)(g:DPut H a y v H')(ry:RelV y u)(rv:RelV v r)(h:∀s',Inv X f' σ H' s'->Q () s') :
  aM (aX X.prog X.w) A (setItem (.ref a) u r) Q E s:=by
 rcases g with⟨kvs,k,e,ey,l,eH⟩ | ⟨kvs,k,b,e,ey,eb,l,eH⟩
 ·subst ey eH;obtain⟨z,hd,vs,BQ,dd⟩:=W9 I.hok e;have hz:vs.length<=sizeLine:=(by rw[<-BQ.length];exact z);have hl:(j5 kvs k v).length<=sizeLine:=(by have:=ou kvs k v;lia);refine wpAny_setItem_pairs (hsz:=hz) (Cj ry) dd λh' IQ hs=>h _ ?_;have he:∃q,h'.get? a=some q:=let ⟨q,_,_,hq,_⟩:=IQ;⟨q,hq⟩;exact Ge I (by rw[e];exact kQ) hs he (Vb hl hd (BQ.put k rv) IQ)
 ·subst ey eH;cases(show u=cE b from ry);obtain⟨z,hd,xs,BQ,dd⟩:=Xa I.hok e;have hz:xs.length<=sizeLine:=(by rw[<-Paired.length BQ];exact z);have hl:(j5 kvs k v).length<=sizeLine:=(by have:=ou kvs k v;lia);refine wpAny_setItem_heap (hsz:=hz) (uT hu) (zi I.hok eb) dd λh' IQ hs=>h _ ?_;obtain⟨q,es,ep,hq,h2,h3,h4,_,h5⟩:=IQ;refine Ge I (by rw[e];exact kQ) hs ⟨q,hq⟩ ⟨hl,hd,_,(BQ.put k eb rv).keeps λc ys ec=>?_,q,es,ep,hq,h2,h3,h4,h5⟩;rw[ai (im ec e (λz=>nomatch z))];exact ec
end
section
variable {X:Cx}{f':List (Addr×Obj)}{σ:St}{H:Hp}{s:aG}{a:Addr}{kvs:List (Key×V)}{k:Key}{u:aB}{A:cQ}{E:aB->aG->Prop}
end
def Vc (i:Expr):Prop:=∀ov iv,wM i false ov iv=operate [ov,iv] (rG ov iv)
theorem Sr {prog:aP}{w:aW}{A:cQ}{E:aB->aG->Prop}{s:aG}{env:Env}{value slice:Expr}{pos:Pos}{T id:String}{Q:aB->aG->Prop}
  (hl:pT (.type T) "__getitem__"=pure (some (.builtin id))) (hs:Vc slice)
  (h:aM (aX prog w) A (eval value env) (λo s₁=>aM (aX prog w) A (eval slice env) (λi s₂=>s₂.TypeIs o T/\aM (aX prog w) A (rG o i) Q E s₂) E s₁) E s) :
  aM (aX prog w) A (eval (.Subscript value slice pos) env) Q E s:=by
 refine Subscript_ (iD h (λo s₁ h₁=>iD h₁ (λi s₂ h₂=>?_) λ_ _ x=>x) λ_ _ x=>x);obtain⟨hT,h₂⟩:=h₂;unfold uV;refine aA ?_;rw[getitemInPython_of_ne hT.not_modules];refine aA (lT hT hl ?_);have zL:aM (aX prog w) A (wM slice false o i) (λr s₃=>aM (aX prog w) A (letTemporaryGo value o r >>= λ_=>pure r) Q E s₃) E s₂:=by
  rw[hs o i];exact wpAny_operating (iD h₂ (λr s₃ h₃=>aA (wpAny_letTemporaryGo (wpAny_pure h₃))) λ_ _ x=>x)
 first
  |exact wpAny_pure (aA zL)
  |exact aA (wpAny_pure (aA zL))
  |exact aA zL
theorem Fg {X:Cx}{f':List (Addr×Obj)}{σ:St}{H:Hp}{s:aG}{a:Addr}{y:V}{o:Option V}(I:Inv X f' σ H s)(g:DGet H a y o):s.TypeIs (.ref a) "dict":=by
 rcases g with⟨kvs,k,e,_,_⟩ | ⟨kvs,k,b,e,_,_,_⟩
 ·obtain⟨_,_,vs,_,dd⟩:=Ck I.hok e;exact dd.typeIs
 ·obtain⟨_,_,xs,_,dd⟩:=Cl I.hok e;exact dd.typeIs
def Xb (td ty:TE):TE:=λσ H Q=>td σ H λx H1=>ty σ H1 λy H2=>∃a v,x=.ref a/\DGet H2 a y (some v)/\Q v H2
def Ss (ty td:TE):TE:=λσ H Q=>ty σ H λy H1=>td σ H1 λx H2=>∃a o,x=.ref a/\DGet H2 a y o/\Q (.bl (!o.isSome)) H2
def Xc (td ty tv:TE):TS:=λD σ H=>tv σ H λv H1=>td σ H1 λx H2=>ty σ H2 λy H3=>∃a H4,x=.ref a/\DPut H3 a y v H4/\D.nx σ H4
section
variable {X:Cx}{o i e value:Expr}{pos AQ CI:Pos}{td ty tv:TE}
theorem Su (hu:X.A.units+1 < iK)(ho:PE X o td)(hi:PE X i ty)(hs:Vc i):PE X (.Subscript o i pos) (Xb td ty):=by
 intro f' s σ H Q I h;refine Sr PySem.F.slot_dict_getitem.lookup hs (thn (ho f' s σ H _ I h) λu s1 zF=>?_);obtain⟨x,H1,I1,rx,q1⟩:=zF;refine thn (hi f' s1 σ H1 _ I1 q1) λiv s2 zF=>?_;obtain⟨y,H2,I2,ry,a,v,ex,g,q2⟩:=zF;subst ex;obtain rfl:u=cE a:=rx;exact⟨Fg I2 g,Lr hu I2 g ry λw' s3 I3 DB=>⟨v,H2,I3,DB,q2⟩⟩
theorem Lu (hu:X.A.units+1 < iK)(hi:PE X i ty)(ho:PE X o td):PC X .NotIn i o (Ss ty td):=by
 intro f' s σ H Q I h;refine thn (hi f' s σ H _ I h) λiv s1 zF=>?_;obtain⟨y,H1,I1,ry,q1⟩:=zF;refine thn (ho f' s1 σ H1 _ I1 q1) λu s2 zF=>?_;obtain⟨x,H2,I2,rx,a,ov,ex,g,q2⟩:=zF;subst ex;obtain rfl:u=cE a:=rx;exact Sq hu I2 g ry λs3 I3=>⟨.bl (!ov.isSome),H2,I3,rfl,q2⟩
theorem Sv (hu:X.A.units+1 < iK)(ho:PE X o td)(hi:PE X i ty)(hv:PE X value tv)(hs:uP value (some (.Subscript o i AQ)) pos.line X.env=pure false) :
  PS X (.Assign [.Subscript o i AQ] value pos) (Xc td ty tv):=by
 intro f' s σ H D I h;refine wpAny_Assign_Subscript (thn (hv f' s σ H _ I h) λr s1 zF=>?_) hs;obtain⟨v,H1,I1,rv,q1⟩:=zF;refine thn (ho f' s1 σ H1 _ I1 q1) λu s2 zF=>?_;obtain⟨x,H2,I2,rx,q2⟩:=zF;refine thn (hi f' s2 σ H2 _ I2 q2) λiv s3 zF=>?_;obtain⟨y,H3,I3,ry,a,H4,ex,g,q3⟩:=zF;subst ex;obtain rfl:u=cE a:=rx;exact Ls hu I3 g ry rv λs4 I4=>⟨σ,H4,I4,q3⟩
end
theorem O2 {P:aP}{w:aW}{H:Hp}(h:Heap)(hb:lR < h.objs.size):ObjOk P w H (h.push { cls:=.type "dict",data:=.dict #[] }) h.objs.size (.dK []):=
 ⟨eV _,beq_eq_false_iff_ne.mpr (Ne.symm (cK hb)),[],.nil,Heap.DictOf.new h⟩
def Vd:TE:=λ_ H Q=>∀p,H p=none->Q (.ref p) (upd H p (.dK []))
section
variable {X:Cx}{pos:Pos}
theorem O3:PE X (.Dict [] [] pos) Vd:=λf' s σ H Q I h=>
 wpAny_Dict_empty ⟨.ref s.heap.objs.size,_,I.laid (a:=s.heap.objs.size) (o:=.dK []) (t':=s.toks) (λ_ _ q=>aJ _ q) (aN _) (O2 s.heap I.big),rfl,h _ (I.hok.fresh (aN _))⟩
end
structure M1 (X:Cx)(o:Expr)(m:Str)(AA:Pos)(e:Expr)(zS:Pos):Prop where
 base:oR o m X.env (eval o X.env)=eval o X.env
 few:((jJ zS (cW [e] X.env)).all (λx=>!x.1) && (vR zS (rY [] X.env)).all (λx=>x.1.isSome) && decide (([e]:List Expr).length+([]:List vL).length+(if ([]:List vL).isEmpty then 0 else 1) < 30))=true
 line:(AA.endLine == zS.line)=true
 trees:jJ zS (cW [e] X.env)=[(false,eval e X.env)]
section
variable {X:Cx}{f':List (Addr×Obj)}{σ:St}{H:Hp}{s:aG}{a:Addr}{y d:V}{u r:aB}{o:Option V}{A:cQ}{E:aB->aG->Prop}
end
section
variable {X:Cx}{o e f:Expr}{AA zS:Pos}{td ty tx:TE}
end
section
variable {X:Cx}{f':List (Addr×Obj)}{σ:St}{H:Hp}{s:aG}{a:Addr}{kvs:List (Key×V)}{A:cQ}{E:aB->aG->Prop}
end
section
variable {X:Cx}{f':List (Addr×Obj)}{σ:St}{H:Hp}{s:aG}{a:Addr}{y:V}{u:aB}{A:cQ}{E:aB->aG->Prop}
end
section
variable {κ:Type}[DecidableEq κ]
end
end L2
namespace Bits
open PySem
theorem D4 (a b:Nat):(2 * a) &&& (2 * b+1)=2 * (a &&& b):=by
 apply pX;intro i;cases i with
 |zero=>simp
 |succ i=>
  rw[pA,jZ,jZ,jZ,show 2 * a / 2=a by lia,show(2 * b+1) / 2=b by lia,show 2 * (a &&& b) / 2=a &&& b by lia,pA]
theorem Gf (a b:Nat):(2 * a+1) &&& (2 * b)=2 * (a &&& b):=by
 rw[Nat.and_comm,D4,Nat.and_comm]
theorem Sx (a b:Nat):(2 * a) &&& (2 * b)=2 * (a &&& b):=by
 apply pX;intro i;cases i with
 |zero=>simp
 |succ i=>
  rw[pA,jZ,jZ,jZ,show 2 * a / 2=a by lia,show 2 * b / 2=b by lia,show 2 * (a &&& b) / 2=a &&& b by lia,pA]
theorem Sy:∀(m:Nat),0 < m->∃k,m - (m &&& (m - 1))=2 ^ k/\2 ^ k<=m/\m &&& 2 ^ k=2 ^ k:=by
 intro m
 induction m using Nat.strongRecOn with
 |ind m ih=>
  intro hm;rcases Nat.mod_two_eq_zero_or_one m with h | h
  ·obtain⟨q,rfl⟩:∃q,m=2 * q:=⟨m / 2,by lia⟩;obtain⟨k,h1,h2,h3⟩:=ih q (by lia) (by lia);have e:2 * q - 1=2 * (q - 1)+1:=(by lia);refine⟨k+1,?_,?_,?_⟩
   ·rw[e,D4,qZ];lia
   ·rw[qZ];lia
   ·rw[qZ,qU (2 ^ k) 2,Sx,h3]
  ·obtain⟨q,rfl⟩:∃q,m=2 * q+1:=⟨m / 2,by lia⟩;refine⟨0,?_,?_,?_⟩
   ·have e:2 * q+1 - 1=2 * q:=(by lia);rw[e,Gf,Nat.and_self];lia
   ·rw[Nat.pow_zero];lia
   ·rw[Nat.pow_zero];have:=Gf q 0;apply pX;intro i;cases i with
    |zero=>simp
    |succ i=>simp[jZ]
def ox (n:Nat)(m:Int):Prop:=0<=m/\m < 2 ^ n
theorem iz {n:Nat}{m:Int}(h:ox n m):∃k:Nat,m=(k:Int)/\k < 2 ^ n:=by
 obtain⟨h0,h1⟩:=h;refine⟨m.toNat,by lia,?_⟩;have:((2:Int) ^ n)=((2 ^ n:Nat):Int):=(by simp);rw[this]at h1;lia
theorem zj {n k:Nat}(h:k < 2 ^ n):ox n (k:Int):=by
 refine⟨by lia,?_⟩;have:((2:Int) ^ n)=((2 ^ n:Nat):Int):=(by simp);rw[this];lia
theorem Lv (n:Nat):ox n 0:=zj (k:=0) (tS n)
theorem O4 {n k:Nat}(h:k < n):ox n (2 ^ k):=by
 have e:((2:Int) ^ k)=((2 ^ k:Nat):Int):=(by simp);rw[e];exact zj (Nat.pow_lt_pow_right (by decide) h)
theorem Lw (a b:Nat):nV (a:Int) (b:Int)=((a ||| b:Nat):Int):=by
 unfold nV oF wT;have h1:decide (0<=-(a:Int) - 1)=false:=(by simp;lia);have h2:decide (0<=-(b:Int) - 1)=false:=(by simp;lia);rw[h1,h2];dsimp only;have e1:(-(-(a:Int) - 1) - 1).toNat=a:=(by lia);have e2:(-(-(b:Int) - 1) - 1).toNat=b:=(by lia);rw[e1,e2];lia
theorem Sz {n:Nat}{a b:Int}(ha:ox n a)(hb:ox n b):ox n (nV a b):=by
 obtain⟨x,rfl,hx⟩:=iz ha;obtain⟨y,rfl,hy⟩:=iz hb;rw[Lw];exact zj (Nat.or_lt_two_pow hx hy)
theorem Gg (a b:Nat):oF (a:Int) (b:Int)=((a &&& b:Nat):Int):=by
 rw[PyProof.Rows.bitAnd_pp (by lia) (by lia)];rfl
def MaskP (n:Nat)(m:Int)(p:Nat->Prop):Prop:=ox n m/\∀j,j < n->(m.toNat.testBit j=true↔p j)
theorem MaskP.iff {n:Nat}{m:Int}{p q:Nat->Prop}(h:MaskP n m p)(e:∀j,j < n->(p j↔q j)):MaskP n m q:=
 ⟨h.1,λj hj=>(h.2 j hj).trans (e j hj)⟩
theorem ja (n:Nat):MaskP n 0 (λ_=>False):=⟨Lv n,λj _=>by simp⟩
theorem S0 (k:Nat):((2:Int) ^ k).toNat=2 ^ k:=by
 have e:((2:Int) ^ k)=((2 ^ k:Nat):Int):=(by simp);rw[e,gE]
theorem oa {n k:Nat}(h:k < n):MaskP n (2 ^ k) (λj=>j=k):=⟨O4 h,λj _=>by
  rw[S0,Nat.testBit_two_pow];simp[eq_comm]⟩
theorem qv {n:Nat}{a b:Int}{p q:Nat->Prop}(ha:MaskP n a p)(hb:MaskP n b q):MaskP n (nV a b) (λj=>p j\/q j):=by
 refine⟨Sz ha.1 hb.1,λj hj=>?_⟩;have ea:=ha.2 j hj;have eb:=hb.2 j hj;obtain⟨x,rfl,hx⟩:=iz ha.1;obtain⟨y,rfl,hy⟩:=iz hb.1;rw[Lw,gE,Nat.testBit_or,tU];rw[gE]at ea eb;rw[ea,eb]
theorem MaskP.uniq {n:Nat}{a b:Int}{p:Nat->Prop}(ha:MaskP n a p)(hb:MaskP n b p):a=b:=by
 have ea:=ha.2;have eb:=hb.2;obtain⟨x,rfl,hx⟩:=iz ha.1;obtain⟨y,rfl,hy⟩:=iz hb.1;rw[gE]at ea eb;congr 1;apply pX;intro j;by_cases hj:j < n
 ·have:=(ea j hj).trans (eb j hj).symm;cases h1:x.testBit j<;>cases h2:y.testBit j<;>simp_all
 ·have hp:2 ^ n<=2 ^ j:=pY (by decide) (by lia);rw[Nat.testBit_lt_two_pow (by lia),Nat.testBit_lt_two_pow (by lia)]
theorem MaskP.zero_iff {n:Nat}{a:Int}{p:Nat->Prop}(ha:MaskP n a p):a=0↔∀j,j < n->¬p j:=by
 constructor
 ·intro zE j hj h;subst zE;have:=(ha.2 j hj).mpr h;simp at this
 ·intro h;exact ha.uniq ((ja n).iff λj hj=>⟨λz=>z.elim,λz=>h j hj z⟩)
theorem S2 (x k:Nat)(h:x &&& 2 ^ k=2 ^ k)(j:Nat):(x - 2 ^ k).testBit j=(x.testBit j && decide (j≠k)):=by
 have hb:x.testBit k=true:=by
  have:=congrArg (λz=>Nat.testBit z k) h;simp only[pA,Nat.testBit_two_pow_self,uX]at this;exact this
 have hp:=tS k;have ho:x / 2 ^ k % 2=1:=by
  rw[Nat.testBit_eq_decide_div_mod_eq]at hb;exact of_decide_eq_true hb
 have ex:=Nat.div_add_mod x (2 ^ k);have hl:x % 2 ^ k < 2 ^ k:=pB _ hp;generalize x / 2 ^ k=a at ho ex;generalize x % 2 ^ k=b at ex hl;obtain⟨c,rfl⟩:∃c,a=2 * c+1:=⟨a / 2,by lia⟩;have e2:x - 2 ^ k=2 ^ k * (2 * c)+b:=by
  rw[<-ex,Nat.mul_add,Nat.mul_one];lia
 rw[e2,<-ex,Nat.testBit_two_pow_mul_add _ hl,Nat.testBit_two_pow_mul_add _ hl];by_cases hj:j < k
 ·rw[if_pos hj,if_pos hj];have:decide (j≠k)=true:=(by simp;lia);rw[this,uX]
 ·rw[if_neg hj,if_neg hj];by_cases e:j=k
  ·subst e;simp
  ·obtain⟨d,rfl⟩:∃d,j=k+(d+1):=⟨j - k - 1,by lia⟩;have e3:k+(d+1) - k=d+1:=(by lia);rw[e3,jZ,jZ,show 2 * c / 2=c by lia,show(2 * c+1) / 2=c by lia];have:decide (k+(d+1)≠k)=true:=(by simp);rw[this,uX]
theorem Lx {n:Nat}{m:Int}{p:Nat->Prop}(h:MaskP n m p)(h0:m≠0):∃k:Nat,oF m (-m)=2 ^ k/\k < n/\p k/\MaskP n (tZ m (2 ^ k)) (λj=>p j/\j≠k)/\tZ m (2 ^ k) < m:=by
 have hm:=h.2;obtain⟨x,rfl,hx⟩:=iz h.1;have CO:0 < x:=(by lia);obtain⟨k,h1,h2,h3⟩:=Sy x CO;have hk:k < n:=(Nat.pow_lt_pow_iff_right (by decide)).mp (jY h2 hx);have e:((2:Int) ^ k)=((2 ^ k:Nat):Int):=(by simp);rw[gE]at hm;have hb:x.testBit k=true:=by
  have:=congrArg (λz=>Nat.testBit z k) h3;simp only[pA,Nat.testBit_two_pow_self,uX]at this;exact this
 have e3:tZ (x:Int) (2 ^ k)=((x - 2 ^ k:Nat):Int):=by
  rw[e,PyProof.Rows.bitXor_and,Gg,h3];lia
 refine⟨k,?_,hk,(hm k hk).mp hb,?_,?_⟩
 ·rw[PyProof.Rows.bitAnd_pn (by lia) (by lia)];have e1:(wT (-(x:Int))).toNat=x - 1:=(by unfold wT;lia);rw[e1,e,<-h1];have:=Nat.and_le_left (n:=x) (m:=x - 1);simp only[gE];lia
 ·rw[e3];refine⟨zj (by lia),λj hj=>?_⟩;rw[gE,S2 x k h3 j,hZ,hm j hj,decide_eq_true_iff]
 ·rw[e3];have:0 < 2 ^ k:=tS k;lia
theorem Ly {n:Nat}{m:Int}(h:ox n m)(j:Nat):(oF (m / 2 ^ ((j:Int)).toNat) 1 != 0)=m.toNat.testBit j:=by
 obtain⟨x,rfl,hx⟩:=iz h;rw[gE,gE];have e:((x:Int)) / 2 ^ j=((x / 2 ^ j:Nat):Int):=(by simp);rw[e,show(1:Int)=((1:Nat):Int)from rfl,Gg,Nat.and_one_is_mod,Nat.testBit_eq_decide_div_mod_eq];have:=Nat.mod_two_eq_zero_or_one (x / 2 ^ j);rcases this with z | z<;>rw[z]<;>simp
def RelP (n:Nat)(ns:List Int)(R:Nat->Nat->Prop):Prop:=ns.length=n/\∀i m,ns[i]?=some m->MaskP n m (R i)
theorem RelP.iff {n:Nat}{ns:List Int}{R S:Nat->Nat->Prop}(h:RelP n ns R)(e:∀i j,i < n->j < n->(R i j↔S i j)):RelP n ns S:=
 ⟨h.1,λi m hm=>(h.2 i m hm).iff λj hj=>e i j (by rw[<-h.1];exact(aL.mp hm).1) hj⟩
def PartP (n:Nat)(ns:List Int)(i:Nat)(R:Nat->Nat->Prop):Prop:=ns.length=i/\∀i m,ns[i]?=some m->MaskP n m (R i)
theorem PartP.nil {n:Nat}{R:Nat->Nat->Prop}:PartP n [] 0 R:=⟨rfl,λi m e=>by simp at e⟩
theorem PartP.snoc {n:Nat}{os:List Int}{i:Nat}{R:Nat->Nat->Prop}{y:Int}(h:PartP n os i R)(hy:MaskP n y (R i)):PartP n (os++[y]) (i+1) R:=by
 refine⟨by rw[aO,h.1];rfl,λj m e=>?_⟩;by_cases hj:j < os.length
 ·rw[eB hj]at e;exact h.2 j m e
 ·rw[fZ (by lia)]at e;have hl:=(aL.mp e).1;simp only[cX,qL]at hl;have e0:j - os.length=0:=(by lia);rw[e0]at e;have ej:j=i:=(by have:=h.1;lia);subst ej;cases e;exact hy
theorem RelP.at {n:Nat}{ns:List Int}{R:Nat->Nat->Prop}(h:RelP n ns R){k:Nat}(hk:k < n):∃m,ns[k]?=some m/\MaskP n m (R k):=by
 have BZ:k < ns.length:=(by rw[h.1];exact hk);exact⟨ns[k],aK BZ,h.2 k _ (aK BZ)⟩
inductive Star (n:Nat)(R:Nat->Nat->Prop):Nat->Nat->Prop
 |refl {i:Nat}:Star n R i i
 |step {i k j:Nat}:R i k->k < n->Star n R k j->Star n R i j
theorem Star.trans {n:Nat}{R:Nat->Nat->Prop}{i j k:Nat}(a:Star n R i j)(b:Star n R j k):Star n R i k:=by
 induction a with
 |refl=>exact b
 |step r h _ ih=>exact .step r h (ih b)
inductive Thru (n:Nat)(R:Nat->Nat->Prop)(m:Nat):Nat->Nat->Prop
 |refl {i:Nat}:Thru n R m i i
 |one {i j:Nat}:R i j->Thru n R m i j
 |step {i k j:Nat}:k < n->k < m->Thru n R m i k->Thru n R m k j->Thru n R m i j
theorem Thru.zero {n:Nat}{R:Nat->Nat->Prop}{i j:Nat}:Thru n R 0 i j↔j=i\/R i j:=by
 constructor
 ·intro h;cases h with
  |refl=>exact .inl rfl
  |one r=>exact .inr r
  |step _ h _ _=>exact absurd h (nR _)
 ·rintro(rfl | h)
  ·exact .refl
  ·exact .one h
theorem Thru.mono {n:Nat}{R:Nat->Nat->Prop}{m m':Nat}(hm:m<=m'){i j:Nat}(h:Thru n R m i j):Thru n R m' i j:=by
 induction h with
 |refl=>exact .refl
 |one r=>exact .one r
 |step h1 h2 _ _ HD HE=>exact .step h1 (by lia) HD HE
theorem Thru.succ {n:Nat}{R:Nat->Nat->Prop}{m:Nat}(hm:m < n){i j:Nat}:Thru n R (m+1) i j↔Thru n R m i j\/(Thru n R m i m/\Thru n R m m j):=by
 constructor
 ·intro h
  induction h with
  |refl=>exact .inl .refl
  |one r=>exact .inl (.one r)
  |@step i k j h1 h2 _ _ HD HE=>
   by_cases hk:k=m
   ·subst hk;refine .inr ⟨?_,?_⟩
    ·rcases HD with a | a
     ·exact a
     ·exact a.1
    ·rcases HE with a | a
     ·exact a
     ·exact a.2
   ·have BZ:k < m:=(by lia);rcases HD with a | a<;>rcases HE with b | b
    ·exact .inl (.step h1 BZ a b)
    ·exact .inr ⟨.step h1 BZ a b.1,b.2⟩
    ·exact .inr ⟨a.1,.step h1 BZ a.2 b⟩
    ·exact .inr ⟨a.1,b.2⟩
 ·rintro(a | ⟨a,b⟩)
  ·exact a.mono (by lia)
  ·exact .step hm (by lia) (a.mono (by lia)) (b.mono (by lia))
theorem Thru.star {n:Nat}{R:Nat->Nat->Prop}{i j:Nat}(hj:j < n):Thru n R n i j↔Star n R i j:=by
 constructor
 ·intro h
  induction h with
  |refl=>exact .refl
  |one r=>exact .step r hj .refl
  |step h1 _ _ _ HD HE=>exact(HD h1).trans (HE hj)
 ·intro h
  induction h with
  |refl=>exact .refl
  |step r h _ ih=>exact .step h h (.one r) (ih hj)
def pick {α:Type}(m:Int)(xs:List α)(k:Nat):List α:=(eE k).filterMap λi=>if m.toNat.testBit i=true then xs[i]? else none
theorem xh {α:Type}{m:Int}{xs:List α}{k:Nat}{x:α}(h:m.toNat.testBit k=true)(e:xs[k]?=some x):pick m xs (k+1)=pick m xs k++[x]:=by
 unfold pick;rw[lU,pL];simp[h,e]
theorem A2 {α:Type}{m:Int}{xs:List α}{k:Nat}(h:m.toNat.testBit k=false):pick m xs (k+1)=pick m xs k:=by
 unfold pick;rw[lU,pL];simp[h]
theorem O5 {α:Type}{m:Int}{xs:List α}{k:Nat}{x:α}:x∈pick m xs k↔∃i,i < k/\m.toNat.testBit i=true/\xs[i]?=some x:=by
 unfold pick;rw[List.mem_filterMap];constructor
 ·intro zE;obtain⟨i,hi,e⟩:=zE
  split at e
  ·exact⟨i,iI.mp hi,by assumption,e⟩
  ·cases e
 ·intro zE;obtain⟨i,hi,h,e⟩:=zE;exact⟨i,iI.mpr hi,by rw[if_pos h];exact e⟩
theorem S3 {α:Type}(m:Int)(xs:List α)(k:Nat):(pick m xs k).length<=k:=by
 unfold pick;have:=List.length_filterMap_le (λi=>if m.toNat.testBit i=true then xs[i]? else none) (eE k)
 rw[gR]at this;exact this
end Bits
namespace S23
open PySem L2 Bits
def A3 (n:Nat)(R:Nat->Nat->Prop)(H:Hp)(Q:VK):Prop:=∀(r:Addr)(ns:List Int) (H':Hp),Same H H'->H r=none->H' r=some (.lst (ns.map V.int))->RelP n ns R->Q (.ref r) H'
def Ju:Sp:=λvs H Q _=>∃n:Nat,vs=[.int (n:Int)]/\n<=300/\A3 n (λ_ _=>False) H Q
def Jv:Sp:=λvs H Q _=>∃n:Nat,vs=[.int (n:Int)]/\n<=300/\A3 n (λi j=>j=i) H Q
def Lz (T:Nat->(Nat->Nat->Prop)->(Nat->Nat->Prop)->Nat->Nat->Prop)(K:aC):Sp:=λvs H Q _=>∃(n:Nat)(a b:Addr) (ns ms:List Int) (R S:Nat->Nat->Prop),vs=[.ref a,.ref b]/\SqL K H a (ns.map V.int)/\RelP n ns R/\SqL K H b (ms.map V.int)/\RelP n ms S/\n<=300/\A3 n (T n R S) H Q
def orR:Nat->(Nat->Nat->Prop)->(Nat->Nat->Prop)->Nat->Nat->Prop:=λ_ R S i j=>R i j\/S i j
def jg:Nat->(Nat->Nat->Prop)->(Nat->Nat->Prop)->Nat->Nat->Prop:=λn R S i j=>∃k,k < n/\R i k/\S k j
def nq:Nat->(Nat->Nat->Prop)->Nat->Nat->Prop:=λn R i j=>j=i/\∀k,k < n->¬R i k
abbrev zm:=Lz orR
abbrev Jw:=Lz jg
def Gh (K:aC):Sp:=λvs H Q _=>∃(n:Nat)(m:Int) (a:Addr) (ns:List Int) (p:Nat->Prop) (S:Nat->Nat->Prop),vs=[.int m,.ref a]/\MaskP n m p/\SqL K H a (ns.map V.int)/\RelP n ns S/\∀z:Int,MaskP n z (λj=>∃k,k < n/\p k/\S k j)->Q (.int z) H
def Cm (T:Nat->(Nat->Nat->Prop)->Nat->Nat->Prop)(K:aC):Sp:=λvs H Q _=>∃(n:Nat)(a:Addr) (ns:List Int) (R:Nat->Nat->Prop),vs=[.ref a]/\SqL K H a (ns.map V.int)/\RelP n ns R/\n<=300/\A3 n (T n R) H Q
def Gi (K:aC):Sp:=λvs H Q _=>∃(a:Addr)(n:Nat) (m:Int) (xs:List V),vs=[.ref a,.int m]/\ox n m/\SqL K H a xs/\xs.length<=300/\
 ∀(r:Addr)(H':Hp),Same H H'->H r=none->H' r=some (.lst (pick m xs xs.length))->Q (.ref r) H'
theorem D5 (n:Nat):(dQ n [V.int 0]).flatten=(dQ n (0:Int)).map V.int:=by
 induction n with
 |zero=>rfl
 |succ n ih=>rw[iX,nZ,ih,iX];rfl
theorem g8 {ns:List Int}{i:Nat}{x:V}(h:(ns.map V.int)[i]?=some x):∃m,ns[i]?=some m/\x=.int m:=by
 rw[cY]at h;obtain⟨m,e,rfl⟩:=iU.mp h;exact⟨m,e,rfl⟩
def Ve:gM:={ kind:=.function,names:=[(".0",.local),("place",.local)],isGenerator:=false,isCoroutine:=false,more:=[] }
def Vf:gM:={ kind:=.function,names:=[(".0",.local),("mask",.local),("another",.local)],isGenerator:=false,isCoroutine:=false,more:=[] }
def Vg:gM:={ kind:=.function,names:=[(".0",.local),("place",.local),("mask",.local)],isGenerator:=false,isCoroutine:=false,more:=[] }
section
variable {P:aP}{w:aW}{K:aC}{mg:Str->Option aB}{base:Heap}
theorem scNh:au ["size"] ["size"] (aj sNo):=fsN
theorem Xd {f:Addr}{fd:bX}(F:Fun K "nothing" "nothing" sNo f fd):FnOk P w K mg base CX0 1 f fd ["size"] Ju:=by
 refine F.ok scNh (λvs H Q E h=>?_) (λzH A outer s H vs Q E hr h=>?_)
 ·obtain⟨n,rfl,_⟩:=h;rfl
 obtain⟨n,rfl,AT,q⟩:=h;refine⟨_,ah (ax (ay C1 (az (bz af ae)) (pv 0))),?_⟩;refine⟨sz1,λl hl=>⟨_,rfl,l,_,_,rfl,rfl,ac,by lia,by lia,?_,λp hp=>?_⟩⟩
 ·show 1 * ((n:Int)).toNat<=sizeLine;exact small (by lia)
 ·have s1:=Same.trans (ad hl (.lst [.int 0])) (ad hp (.lst (dQ ((n:Int)).toNat [V.int 0]).flatten));have e:((n:Int)).toNat=n:=(by lia);refine q p (dQ n 0) _ s1 (Same.free (ad hl (.lst [.int 0])) hp) ?_ ⟨gO,λi m hm=>?_⟩
  ·rw[ac,e,D5]
  ·rw[List.eq_of_mem_replicate (bK hm)];exact ja n
theorem csSm {X:Cx}:bv X ["place"] [] [] Ve []:=iw rfl (by decide +kernel) (by decide +kernel) (by decide +kernel)
theorem scSz:au ["size"] ["size"] (aj Iy):=fsN
theorem S4 {f:Addr}{fd:bX}(F:Fun K "the_same" "the_same" Iy f fd)(mr:mg "range"=none):FnOk P w K mg base CX0 1 f fd ["size"] Jv:=by
 refine F.ok scSz (λvs H Q E h=>?_) (λzH A outer s H vs Q E hr h=>?_)
 ·obtain⟨n,rfl,_⟩:=h;rfl
 obtain⟨n,rfl,AT,q⟩:=h;refine⟨_,ah (ax (dy (ns:=["place"]) (ys:=[]) (sc:=Ve) csSm rfl (jo rfl mr (aa (pv 0) ae)) (λC s H fp=>ba (i:=0) (by show(["place"]:List Str).Nodup;decide +kernel) rfl (cD rfl)) (λC s H fp=>cx) (λC s H fp=>ay yg af (pv 0)))),?_⟩;refine⟨_,rfl,(n:Int),rfl,by lia,by lia,λD hD=>?_⟩;have e:((n:Int)).toNat=n:=(by lia);refine qj (n:=((n:Int)).toNat) (λj ys G=>Same H G/\G D=some (.lst ys)/\ys=((eE j).map λi:Nat=>(2:Int) ^ i).map V.int) ⟨ad hD _,ac,rfl⟩ (λj ys G z=>z.2.1) ?_ ?_
 ·intro j ys G hj zE;obtain⟨sG,gD,rfl⟩:=zE;refine⟨be (by rw[aI,aI,gR];lia),⟨[some _],rfl,rfl⟩,?_⟩;refine⟨_,rfl,_,_,rfl,rfl,⟨by lia,by lia,by decide⟩,gD,Same.put sG hD _,ac,?_⟩;rw[lU,cU,cU];have z:(1:Int) * 2 ^ (0+(j:Int)).toNat=2 ^ j:=by
   rw[wP,show(0+(j:Int)).toNat=j by lia]
  show _++[V.int ((1:Int) * 2 ^ (0+(j:Int)).toNat)]=_;rw[z];rfl
 ·intro ys G zE;obtain⟨sG,gD,rfl⟩:=zE;rw[e]at gD;refine q D _ G sG hD gD ⟨by rw[aI,gR],λi m hm=>?_⟩;rw[cY]at hm;obtain⟨i',hi,rfl⟩:=iU.mp hm;obtain⟨h1,h2⟩:=aL.mp hi;rw[List.getElem_range]at h2;subst h2;rw[gR]at h1;exact oa h1
theorem csEi {X:Cx}:bv X ["mask","another"] [] [] Vf []:=iw rfl (by decide +kernel) (by decide +kernel) (by decide +kernel)
theorem scEh:au ["one","other"] ["one","other"] (aj Iz):=fsN
theorem S5 {f:Addr}{fd:bX}(F:Fun K "either_of" "either_of" Iz f fd)(mz:mg "zip"=none):FnOk P w K mg base CX0 1 f fd ["one","other"] (zm K):=by
 refine F.ok scEh (λvs H Q E h=>?_) (λzH A outer s H vs Q E hr h=>?_)
 ·obtain⟨n,a,b,ns,ms,R,S,rfl,_⟩:=h;rfl
 obtain⟨n,a,b,ns,ms,R,S,rfl,ha,rn,hb,rm,AT,q⟩:=h;refine⟨_,ah (ax (dy (ns:=["mask","another"]) (ys:=[]) (sc:=Vf) csEi rfl (A1 rfl mz (aa (pv 0) (aa (pv 1) ae))) (λC s H fp=>pg2 rfl) (λC s H fp=>cx) (λC s H fp=>ay Ht (pv 0) (pv 1)))),?_⟩;dsimp only[bb,Cx.nox];refine⟨_,rfl,_,rfl,a,b,_,_,rfl,ha,hb,λD hD=>?_⟩;have l1:=rn.1;have l2:=rm.1;refine ua (K:=K) (a:=a) (b:=b) (xs:=ns.map V.int) (ws:=ms.map V.int) (by rw[aI,aI,l1,l2]) (λi ys G=>Same H G/\G D=some (.lst ys)/\∃os:List Int,ys=os.map V.int/\PartP n os i (orR n R S))
  ⟨ad hD _,ac,[],rfl,.nil⟩ (λi ys G z=>z.2.1) (λi ys G _ z=>⟨z.1.seq ha,z.1.seq hb⟩) ?_ ?_ ?_
 ·intro i ys G hi zE;obtain⟨sG,gD,os,rfl,op⟩:=zE;rw[aI]at hi;have ol:=op.1;exact be (by rw[aI];lia)
 ·intro i x y t ys G hx hy zE ht;obtain⟨sG,gD,os,rfl,op⟩:=zE;obtain⟨u,eu,rfl⟩:=g8 hx;obtain⟨v,ev,rfl⟩:=g8 hy;have mu:=rn.2 i u eu;have mv:=rm.2 i v ev;have Dt:D≠t:=am gD ht;refine⟨t,_,rfl,SqT.of ac,rfl,_,_,rfl,_,_,rfl,rfl,⟨[some _,some _],rfl,rfl⟩,?_⟩;refine⟨_,rfl,_,rfl,_,_,rfl,rfl,(by rw[ai Dt];exact gD),Same.put (Same.put sG (Same.free sG ht) _) hD _,ac,os++[nV u v],(by rw[cU];rfl),op.snoc (qv mu mv)⟩
 ·intro ys G zE;obtain⟨sG,gD,os,rfl,op⟩:=zE;rw[aI,l1]at op;exact q D os G sG hD gD op
theorem D6:au ["mask","relation","reached","lowest"] ["mask","relation"] (aj Dj):=fsN
theorem O6 {f:Addr}{fd:bX}(F:Fun K "reached_from" "reached_from" Dj f fd):FnOk P w K mg base CX0 1 f fd ["mask","relation"] (Gh K):=by
 refine F.ok D6 (λvs H Q E h=>?_) (λzH A outer s H vs Q E hr h=>?_)
 ·obtain⟨n,m,a,ns,p,S,rfl,_⟩:=h;rfl
 obtain⟨n,m0,a,ns,p0,S,rfl,mm0,ha,rn,q⟩:=h;refine⟨_,ag (av (i:=2) D6.nd rfl (cD rfl) af) (ag (nh eU (qg (pv 0) (λ_=>rfl)) (ag (av (i:=3) D6.nd rfl (cD rfl) (ay Cu (pv 0) (n8 kq (pv 0)))) (ag (Ks (i:=2) D6.nd rfl (cD rfl) (aq ar (pv 1) (ay Kv (yp PySem.F.plainAttrs_int PySem.F.slot_int_bit_length PySem.F.type_int_bit_length So (pv 3)) af) (λ_ _=>rfl)) Um) (ah (Ks (i:=0) D6.nd rfl (cD rfl) (pv 3) Rr))))) (ah (ax (pv 2)))),?_⟩;dsimp only[bb,Cx.nox];refine⟨λk σ G=>∃(m z:Int)(v:Option V) (p r:Nat->Prop),σ=[some (.int m),some (.ref a),some (.int z),v]/\G=H/\MaskP n m p/\MaskP n z r/\(∀j,j < n->((∃k,k < n/\p0 k/\S k j)↔r j\/∃k,k < n/\p k/\S k j))/\k=m.toNat,⟨_,m0,0,none,p0,λ_=>False,rfl,rfl,mm0,ja n,λj hj=>⟨.inr,λz=>z.elim (λf=>f.elim) id⟩,rfl⟩,?_⟩;intro k σ G zE;obtain⟨m,z,v,p,r,rfl,rfl,mm,mz,UH,rfl⟩:=zE;refine⟨_,rfl,(m != 0),rfl,?_⟩;refine cz (λc=>?_) (λc=>?_)
 ·have m0:m≠0:=(by simpa using c);obtain⟨k,e1,k1,kp,k2,k3⟩:=Lx mm m0;refine⟨λσ' G'=>∃(m' z:Int)(v:Option V) (p r:Nat->Prop),σ'=[some (.int m'),some (.ref a),some (.int z),v]/\G'=G/\MaskP n m' p/\MaskP n z r/\(∀j,j < n->((∃k,k < n/\p0 k/\S k j)↔r j\/∃k,k < n/\p k/\S k j))/\m'.toNat < m.toNat,λσ' G' y=>?_,?_⟩
  ·obtain⟨m',z',v',p',r',y1,y2,y3,y4,y5,y6⟩:=y;exact⟨_,y6,m',z',v',p',r',y1,y2,y3,y4,y5,rfl⟩
  ·obtain⟨rr,er,mr⟩:=rn.at k1;have vr:(ns.map V.int)[k]?=some (.int rr):=(by rw[cY,er];rfl);refine⟨_,rfl,_,rfl,_,rfl,_,_,rfl,rfl,?_⟩;show mq 3 (V.int (oF m (-m))) _ _ _;rw[e1];have ek:(((qK ((2:Int) ^ k):Nat):Int)) - 1=(k:Int):=(by rw[O1];lia);refine⟨_,rfl,_,rfl,_,rfl,rfl,_,rfl,rfl,_,_,rfl,rfl,a,_,_,_,rfl,rfl,ha,(by rw[ek];exact bf vr),_,_,rfl,rfl,?_⟩;refine⟨_,rfl,_,rfl,_,_,rfl,rfl,_,_,_,_,_,rfl,rfl,k2,qv mz mr,λj hj=>?_,?_⟩
   ·rw[UH j hj];constructor
    ·rintro(h | ⟨i,hi,h1,h2⟩)
     ·exact .inl (.inl h)
     ·by_cases e:i=k
      ·subst e;exact .inl (.inr h2)
      ·exact .inr ⟨i,hi,⟨h1,e⟩,h2⟩
    ·rintro((h | h) | ⟨i,hi,h1,h2⟩)
     ·exact .inl h
     ·exact .inr ⟨k,k1,kp,h⟩
     ·exact .inr ⟨i,hi,h1.1,h2⟩
   ·have:=k2.1.1;have:=mm.1.1;lia
 ·have m0:m=0:=(by simpa using c);refine⟨_,rfl,q z (mz.iff λj hj=>?_)⟩;rw[UH j hj];constructor
  ·exact .inl
  ·rintro(h | ⟨i,hi,h1,_⟩)
   ·exact h
   ·exact absurd h1 (mm.zero_iff.mp m0 i hi)
end
def Vh:gM:={ kind:=.function,names:=[(".0",.local),("mask",.local),("known",.free)],isGenerator:=false,isCoroutine:=false,more:=[] }
def Vi:gM:={ kind:=.function,names:=[(".0",.local),("row",.local),("middle",.free),("through",.free)],isGenerator:=false,isCoroutine:=false,more:=[] }
def Vj:gM:={ kind:=.function,names:=[(".0",.local),("place",.local),("letter",.local),("mask",.free)],isGenerator:=false,isCoroutine:=false,more:=[] }
abbrev nOn:List Str:=["first","second","known","mask"]
abbrev nAg:List Str:=["relation","rows","middle","through"]
abbrev nLi:List Str:=["letters","mask"]
section
variable {P:aP}{w:aW}{K:aC}{mg:Str->Option aB}{base:Heap}
theorem O7:au nOn ["first","second"] (aj I0):=fsN
theorem cOn {CX:CXT}{f:Addr}{zH:aB}{A:cQ}{outer:List Env}{s:aG}{H:Hp}{E:XK} :
  bv (bb CX P w K mg base nOn "one_then_other" (aj I0) f zH A outer s H E).nox ["mask"] ["known"] [2] Vh [("known",s.heap.objs.size+1)]:=csN [(".0",.local),("mask",.local),("known",.cell)]
theorem Vk {f fR:Addr}{fd dR:bX}(F:Fun K "one_then_other" "one_then_other" I0 f fd)
  (GR:FnOk P w K mg base CX0 1 fR dR ["mask","relation"] (Gh K)) (bR:Binds K dR ["mask","relation"] []) (kR:aV K (.ref fR)=true) (mR:mg "reached_from"=some (.ref fR)) :
  FnOk P w K mg base CX0 2 f fd ["first","second"] (Jw K):=by
 refine F.ok O7 (λvs H Q E h=>?_) (λzH A outer s H vs Q E hr h=>?_)
 ·obtain⟨n,a,b,ns,ms,R,S,rfl,_⟩:=h;rfl
 obtain⟨n,a,b,ns,ms,R,S,rfl,ha,rn,hb,rm,AT,q⟩:=h;refine⟨_,ag (av (i:=2) O7.nd rfl (mZ rfl) O3) (ag (dv eU rfl (cf (pv 0)) (ba (i:=3) O7.nd rfl (cD rfl)) (ah (cn (Ue (Lu (Ii hr) (pv 3) (pv 2)) (by with_unfolding_all rfl)) (ah (Sv (Ii hr) (pv 2) (pv 3) (ao GR hr rfl mR kR bR .nil aw (aa (pv 3) (aa (pv 1) ae))) rfl)) bo))) (ah (ax (dy (ns:=["mask"]) (ys:=["known"]) (sc:=Vh) cOn rfl (cf (pv 0)) (λC s H fp=>ba (i:=0) (by show(["mask","known"]:List Str).Nodup;decide +kernel) rfl (cD rfl)) (λC s H fp=>cx) (λC s H fp=>Su (Ii hr) (pv 1) (pv 0) (λ_ _=>rfl)))))),?_⟩
 dsimp only[bb,Cx.nox];intro d hd;have l1:=rn.1;have s0:Same H (upd H d (.dK [])):=ad hd _;refine⟨_,rfl,a,rfl,⟨_,s0.seq ha⟩,fe (K:=K) (a:=a) (xs:=ns.map V.int) (λi σ G=>∃(kvs:List (Key×V))(v:Option V),σ=[some (.ref a),some (.ref b),some (.ref d),v]/\Same H G/\G d=some (.dK kvs)/\kvs.length<=i/\(∀(m:Int) z,ff kvs (Sum.inl m)=some z->∃y,z=.int y/\MaskP n y (λj=>∃k,k < n/\m.toNat.testBit k=true/\S k j))/\∀j,j < i->∀m,ns[j]?=some m->∃z,ff kvs (Sum.inl m)=some z) ⟨[],none,rfl,s0,ac,aN _,(λk z e=>nomatch e),λj hj=>absurd hj (nR _)⟩ (λi σ G _ zF=>by obtain⟨_,_,_,sG,_⟩:=zF;exact sG.seq ha) ?_ ?_⟩
 ·intro i x σ G hx zE;obtain⟨kvs,v,rfl,sG,gd,kl,kv,kj⟩:=zE;obtain⟨m,em,rfl⟩:=g8 hx;have mm:=rn.2 i m em;have hi:i < ns.length:=(aL.mp em).1;refine⟨_,rfl,_,rfl,d,_,rfl,DGet.k (k:=Sum.inl m) gd,_,rfl,?_⟩;have old:∀z,ff kvs (Sum.inl m)=some z->∀j,j < i+1->∀m',ns[j]?=some m'->∃z,ff kvs (Sum.inl m')=some z:=λz ez j hj m' IR=>by
   by_cases PY:j < i
   ·exact kj j PY m' IR
   ·have:j=i:=(by lia);subst this;rw[em]at IR;cases IR;exact⟨z,ez⟩
  cases ev:ff kvs (Sum.inl m)with
  |some z=>exact de ⟨kvs,_,rfl,sG,gd,by lia,kv,old z ev⟩
  |none=>
   refine jj ⟨_,rfl,_,rfl,n,m,b,ms,_,S,rfl,⟨mm.1,λj _=>zD⟩,sG.seq hb,rm,λz mz=>?_⟩;refine⟨_,rfl,_,rfl,d,_,rfl,DPut.k (k:=Sum.inl m) gd (be (by lia)),?_⟩;refine⟨_,_,rfl,Same.put sG hd _,ac,?_,λk y e=>?_,λj hj m' IR=>?_⟩
   ·have:=ou kvs (Sum.inl m) (.int z);lia
   ·rw[D3]at e
    split at e
    ·rename_i ek
     cases ek;cases e;exact⟨z,rfl,mz⟩
    ·exact kv k y e
   ·rw[D3]
    split
    ·exact⟨_,rfl⟩
    ·rename_i zO
     by_cases PY:j < i
     ·exact kj j PY m' IR
     ·have:j=i:=(by lia);subst this;rw[em]at IR;cases IR;exact absurd rfl zO
 ·intro σ G zE;obtain⟨kvs,v,rfl,sG,gd,kl,kv,kj⟩:=zE;rw[aI]at kl kj;refine⟨_,rfl,a,rfl,⟨_,sG.seq ha⟩,λD hD=>?_⟩;refine di (K:=K) (a:=a) (xs:=ns.map V.int) (λi ys G2=>Same G G2/\G2 D=some (.lst ys)/\∃os:List Int,ys=os.map V.int/\PartP n os i (jg n R S)) ⟨ad hD _,ac,[],rfl,.nil⟩ (λi ys G2 z=>z.2.1) (λi ys G2 _ z=>(Same.trans sG z.1).seq ha) ?_ ?_
  ·intro i x ys G2 hx zE;obtain⟨s2,gD,os,rfl,op⟩:=zE;obtain⟨m,em,rfl⟩:=g8 hx;have hi:i < ns.length:=(aL.mp em).1;have ol:=op.1;obtain⟨z,ez⟩:=kj i hi m em;obtain⟨m',rfl,mm'⟩:=kv _ _ ez;have dg:=DGet.k (k:=Sum.inl m) (s2 _ _ gd);rw[ez]at dg;refine⟨be (by rw[aI];lia),⟨[some _],rfl,rfl⟩,?_⟩;refine⟨_,rfl,_,rfl,d,_,rfl,dg,gD,Same.put s2 hD _,ac,os++[m'],(by rw[cU];rfl),op.snoc (mm'.iff λj hj=>?_)⟩;have pm:=rn.2 i m em;constructor
   ·intro zE;obtain⟨k,hk,h1,h2⟩:=zE;exact⟨k,hk,(pm.2 k hk).mp h1,h2⟩
   ·intro zE;obtain⟨k,hk,h1,h2⟩:=zE;exact⟨k,hk,(pm.2 k hk).mpr h1,h2⟩
  ·intro ys G2 zE;obtain⟨s2,gD,os,rfl,op⟩:=zE;rw[aI,l1]at op;exact q D os G2 (Same.trans sG s2) (Same.free sG hD) gD op
theorem D7:au nAg ["relation"] (aj yw):=fsN
theorem cAg {CX:CXT}{f:Addr}{zH:aB}{A:cQ}{outer:List Env}{s:aG}{H:Hp}{E:XK} :
  bv (bb CX P w K mg base nAg "again_and_again" (aj yw) f zH A outer s H E).nox ["row"] ["middle","through"] [2,3] Vi [("through",s.heap.objs.size+1+1),("middle",s.heap.objs.size+1)]:=csN [(".0",.local),("row",.local),("middle",.cell),("through",.cell)]
theorem O8 {f fE fS:Addr}{fd dE dS:bX}(F:Fun K "again_and_again" "again_and_again" yw f fd)
  (GE:FnOk P w K mg base CX0 1 fE dE ["one","other"] (zm K)) (bE:Binds K dE ["one","other"] []) (kE:aV K (.ref fE)=true) (mE:mg "either_of"=some (.ref fE))
  (GS:FnOk P w K mg base CX0 1 fS dS ["size"] Jv) (bS:Binds K dS ["size"] []) (kS:aV K (.ref fS)=true) (mS:mg "the_same"=some (.ref fS))
  (ml:mg "len"=none) (mr:mg "range"=none):FnOk P w K mg base CX0 2 f fd ["relation"] (Cm Star K):=by
 refine F.ok D7 (λvs H Q E h=>?_) (λzH A outer s H vs Q E hr h=>?_)
 ·obtain⟨n,a,ns,R,rfl,_⟩:=h;rfl
 obtain⟨n,a,ns,R,rfl,ha,rn,AT,q⟩:=h;refine⟨_,ag (av (i:=1) D7.nd rfl (cD rfl) (ao GE hr rfl mE kE bE .nil aw (aa (ao GS hr rfl mS kS bS .nil aw (aa (bn bj rfl ml gF (aa (pv 0) ae)) ae)) (aa (pv 0) ae)))) (ag (dv eU rfl (jo rfl mr (aa (bn bj rfl ml gF (aa (pv 1) ae)) ae)) (ba (i:=2) D7.nd rfl (mZ rfl)) (ag (av (i:=3) D7.nd rfl (mZ rfl) (aq ar (pv 1) (pv 2) (λ_ _=>rfl))) (ah (i9 (i0:=1) (ns:=["row"]) (ys:=["middle","through"]) (sc:=Vi) D7.nd rfl rfl cAg rfl (cf (pv 1)) (λC s H fp=>ba (i:=0) (by show(["row","middle","through"]:List Str).Nodup;decide +kernel) rfl (cD rfl)) (λC s H fp=>cx) (λC s H fp=>wz (D0 (K:=K) rfl (ay Cu (ay Kw (pv 0) (pv 1)) af) (λ_=>rfl)) (ay Ht (pv 0) (pv 2)) (pv 0)))))) (ah (ax (pv 1)))),?_⟩;dsimp only[bb,Cx.nox];have l1:=rn.1;refine⟨_,rfl,a,_,rfl,.inl ha,n,(by rw[aI,l1];rfl),AT,λr1 n1 G1 s1 h1 g1 FG=>?_⟩;refine⟨_,rfl,n,r1,a,n1,ns,_,R,rfl,SqL.of g1,FG,s1.seq ha,rn,AT,λr2 n2 G2 s2 h2 g2 JU=>?_⟩;have BD:=Same.trans s1 s2;have l2:=JU.1;refine⟨_,rfl,r2,_,rfl,.inl (SqL.of g2),_,rfl,by lia,(by rw[aI];lia),tq (n:=((((n2.map V.int).length:Nat):Int)).toNat) (λi σ G=>∃(r:Addr)(os:List Int) (v2 v3:Option V),σ=[some (.ref a),some (.ref r),v2,v3]/\Same H G/\H r=none/\G r=some (.lst (os.map V.int))/\RelP n os (Thru n R i)) ⟨r2,n2,none,none,rfl,BD,Same.free s1 h2,g2,JU.iff λi j _ _=>Thru.zero.symm⟩ ?_ ?_⟩
 ·intro i σ G hi zE;obtain⟨r,os,v2,v3,rfl,sG,BN,gr,ro⟩:=zE;have e0:((((n2.map V.int).length:Nat):Int)).toNat=n:=(by rw[aI];lia);rw[e0]at hi;obtain⟨t,et,mt⟩:=ro.at hi;have vt:(os.map V.int)[i]?=some (.int t):=(by rw[cY,et];rfl);refine⟨_,rfl,_,rfl,r,_,_,_,rfl,rfl,SqL.of gr,(by rw[Int.zero_add];exact bf vt),?_⟩;refine⟨_,rfl,r,rfl,⟨_,SqL.of gr⟩,λD hD=>?_⟩;have lo:=ro.1;refine di (K:=K) (a:=r) (xs:=os.map V.int) (λj ys G2=>Same G G2/\G2 D=some (.lst ys)/\∃us:List Int,ys=us.map V.int/\PartP n us j (Thru n R (i+1))) ⟨ad hD _,ac,[],rfl,.nil⟩ (λi ys G2 z=>z.2.1) (λi ys G2 _ z=>SqL.of (z.1 _ _ gr)) ?_ ?_
  ·intro j x ys G2 hx zE;obtain⟨s2,gD,us,rfl,up⟩:=zE;obtain⟨m,em,rfl⟩:=g8 hx;have mm:=ro.2 j m em;have hj:j < os.length:=(aL.mp em).1;have ul:=up.1;refine⟨be (by rw[aI];lia),⟨[some _],rfl,rfl⟩,?_⟩;refine⟨_,rfl,_,rfl,_,_,rfl,rfl,(by show(0:Int)<=0+(i:Int);lia),_,_,rfl,rfl,_,rfl,?_⟩;have bt:(oF (m / 2 ^ (0+(i:Int)).toNat) 1 != 0)=m.toNat.testBit i:=(by rw[Int.zero_add];exact Ly mm.1 i);have zL:∀y:Int,MaskP n y (Thru n R (i+1) j)->G2 D=some (.lst (us.map V.int))/\Same G (upd G2 D (.lst (us.map V.int++[.int y])))/\upd G2 D (.lst (us.map V.int++[.int y])) D=some (.lst (us.map V.int++[.int y]))/\∃ws:List Int,us.map V.int++[.int y]=ws.map V.int/\PartP n ws (j+1) (Thru n R (i+1)):=λy my=>
    ⟨gD,Same.put s2 hD _,ac,us++[y],(by rw[cU];rfl),up.snoc my⟩
   refine cz (λc=>?_) (λc=>?_)
   ·have c':m.toNat.testBit i=true:=bt ▸ c;have ci:=(mm.2 i hi).mp c';refine⟨_,rfl,_,rfl,_,_,rfl,rfl,zL _ ((qv mm mt).iff λl hl=>?_)⟩;rw[Thru.succ hi];constructor
    ·rintro(h | h)
     ·exact .inl h
     ·exact .inr ⟨ci,h⟩
    ·rintro(h | h)
     ·exact .inl h
     ·exact .inr h.2
   ·have c':m.toNat.testBit i=false:=by
     rw[<-bt];exact Bool.eq_false_iff.mpr c
    refine⟨_,rfl,zL _ (mm.iff λl hl=>?_)⟩;rw[Thru.succ hi];constructor
    ·exact .inl
    ·rintro(h | h)
     ·exact h
     ·have:=(mm.2 i hi).mpr h.1;rw[c']at this;cases this
  ·intro ys G2 zE;obtain⟨s2,gD,us,rfl,up⟩:=zE;rw[aI,lo]at up;exact⟨D,us,_,_,rfl,Same.trans sG s2,Same.free sG hD,gD,up⟩
 ·intro σ G zE;obtain⟨r,os,v2,v3,rfl,sG,BN,gr,ro⟩:=zE;have e0:((((n2.map V.int).length:Nat):Int)).toNat=n:=(by rw[aI];lia);rw[e0]at ro;exact⟨_,rfl,q r os G sG BN gr (ro.iff λi j _ hj=>Thru.star hj)⟩
theorem csWh {X:Cx}:bv X ["place","mask"] [] [] Vg []:=iw rfl (by decide +kernel) (by decide +kernel) (by decide +kernel)
theorem scWn:au ["relation"] ["relation"] (aj Dk):=fsN
theorem O9 {f:Addr}{fd:bX}(F:Fun K "where_nothing" "where_nothing" Dk f fd)(me:mg "enumerate"=none):FnOk P w K mg base CX0 1 f fd ["relation"] (Cm nq K):=by
 refine F.ok scWn (λvs H Q E h=>?_) (λzH A outer s H vs Q E hr h=>?_)
 ·obtain⟨n,a,ns,R,rfl,_⟩:=h;rfl
 obtain⟨n,a,ns,R,rfl,ha,rn,AT,q⟩:=h;refine⟨_,ah (ax (dy (ns:=["place","mask"]) (ys:=[]) (sc:=Vg) csWh rfl (xg rfl me (aa (pv 0) ae)) (λC s H fp=>pg2 rfl) (λC s H fp=>cx) (λC s H fp=>wz (D0 (K:=K) rfl (pv 1) (λ_=>rfl)) af (ay yg af (pv 0))))),?_⟩;dsimp only[bb,Cx.nox];have l1:=rn.1;refine⟨_,rfl,a,_,rfl,ha,λD hD=>?_⟩;refine qt (K:=K) (a:=a) (xs:=ns.map V.int) (λi ys G=>Same H G/\G D=some (.lst ys)/\∃us:List Int,ys=us.map V.int/\PartP n us i (nq n R)) ⟨ad hD _,ac,[],rfl,.nil⟩ (λi ys G z=>z.2.1) (λi ys G _ z=>z.1.seq ha) ?_ ?_ ?_
 ·intro i ys G hi zE;obtain⟨sG,gD,us,rfl,up⟩:=zE;rw[aI]at hi;have ul:=up.1;exact be (by rw[aI];lia)
 ·intro i x t ys G hx zE ht;obtain⟨sG,gD,us,rfl,up⟩:=zE;obtain⟨m,em,rfl⟩:=g8 hx;have hi:i < ns.length:=(aL.mp em).1;have mm:=rn.2 i m em;have Dt:D≠t:=am gD ht;refine⟨t,_,rfl,SqT.of ac,rfl,_,_,rfl,_,_,rfl,rfl,⟨[some _,some _],rfl,rfl⟩,?_⟩;refine⟨_,rfl,_,rfl,?_⟩;generalize CG:upd G t (.tup [.int (i:Int),.int m])=G2;have JV:Same H G2:=(by rw[<-CG];exact Same.put sG (Same.free sG ht) _);have CP:G2 D=some (.lst (us.map V.int)):=(by rw[<-CG,ai Dt];exact gD);have zL:∀y:Int,MaskP n y (nq n R i)->G2 D=some (.lst (us.map V.int))/\Same H (upd G2 D (.lst (us.map V.int++[.int y])))/\upd G2 D (.lst (us.map V.int++[.int y])) D=some (.lst (us.map V.int++[.int y]))/\∃ws:List Int,us.map V.int++[.int y]=ws.map V.int/\PartP n ws (i+1) (nq n R):=λy my=>
   ⟨CP,Same.put JV hD _,ac,us++[y],(by rw[cU];rfl),up.snoc my⟩
  refine cz (λc=>?_) (λc=>?_)
  ·have m0:¬m=0:=(by simpa using c);refine zL _ ((ja n).iff λj hj=>⟨λf=>f.elim,λh=>m0 (mm.zero_iff.mpr h.2)⟩)
  ·have m0:m=0:=(by simpa using c);refine⟨_,rfl,_,_,rfl,rfl,⟨by lia,by lia,by decide⟩,?_⟩;have z:(1:Int) * 2 ^ ((i:Int)).toNat=2 ^ i:=(by rw[wP,gE]);have f1:=zL _ ((oa (n:=n) (k:=i) (by lia)).iff λj hj=>⟨λe=>⟨e,mm.zero_iff.mp m0⟩,λe=>e.1⟩);rw[<-z]at f1;exact f1
 ·intro ys G zE;obtain⟨sG,gD,us,rfl,up⟩:=zE;rw[aI,l1]at up;exact q D us G sG hD gD up
theorem scLi:au nLi ["letters","mask"] (aj yx):=fsN
theorem cLi {CX:CXT}{f:Addr}{zH:aB}{A:cQ}{outer:List Env}{s:aG}{H:Hp}{E:XK} :
  bv (bb CX P w K mg base nLi "letters_in" (aj yx) f zH A outer s H E).nox ["place","letter"] ["mask"] [1] Vj [("mask",s.heap.objs.size+1)]:=csN [(".0",.local),("place",.local),("letter",.local),("mask",.cell)]
theorem Pa {f:Addr}{fd:bX}(F:Fun K "letters_in" "letters_in" yx f fd)(me:mg "enumerate"=none):FnOk P w K mg base CX0 1 f fd ["letters","mask"] (Gi K):=by
 refine F.ok scLi (λvs H Q E h=>?_) (λzH A outer s H vs Q E hr h=>?_)
 ·obtain⟨a,n,m,xs,rfl,_⟩:=h;rfl
 obtain⟨a,n,m,xs,rfl,mm,ha,AT,q⟩:=h;refine⟨_,ah (ax (dy (ns:=["place","letter"]) (ys:=["mask"]) (sc:=Vj) cLi rfl (xg rfl me (aa (pv 0) ae)) (λC s H fp=>pg2 rfl) (λC s H fp=>pw (D0 (K:=K) rfl (ay Cu (ay Kw (pv 2) (pv 0)) af) (λ_=>rfl))) (λC s H fp=>pv 1))),?_⟩;dsimp only[bb,Cx.nox];refine⟨_,rfl,a,_,rfl,ha,λD hD=>?_⟩;refine qt (K:=K) (a:=a) (xs:=xs) (λi ys G=>Same H G/\G D=some (.lst ys)/\ys=pick m xs i) ⟨ad hD _,ac,rfl⟩ (λi ys G z=>z.2.1) (λi ys G _ z=>z.1.seq ha) ?_ ?_ ?_
 ·intro i ys G hi zE;obtain⟨sG,gD,rfl⟩:=zE;have:=S3 m xs i;exact be (by lia)
 ·intro i x t ys G hx zE ht;obtain⟨sG,gD,rfl⟩:=zE;have Dt:D≠t:=am gD ht;refine⟨t,_,rfl,SqT.of ac,rfl,_,_,rfl,_,_,rfl,rfl,⟨[some _,some _],rfl,rfl⟩,?_⟩;refine⟨_,rfl,_,rfl,_,_,rfl,rfl,(by show(0:Int)<=(i:Int);lia),_,_,rfl,rfl,_,rfl,?_⟩;have JV:Same H (upd G t (.tup [.int (i:Int),x])):=Same.put sG (Same.free sG ht) _;have CP:upd G t (.tup [.int (i:Int),x]) D=some (.lst (pick m xs i)):=(by rw[ai Dt];exact gD);have bt:=Ly mm i;refine cz (λc=>?_) (λc=>?_)
  ·have c':m.toNat.testBit i=true:=bt ▸ c;exact⟨_,rfl,CP,Same.put JV hD _,ac,(xh c' hx).symm⟩
  ·have c':m.toNat.testBit i=false:=by
    rw[<-bt];exact Bool.eq_false_iff.mpr c
   exact⟨JV,CP,(A2 c').symm⟩
 ·intro ys G zE;obtain⟨sG,gD,rfl⟩:=zE;exact q D G sG hD gD
end
open S1
def fj (l:List Int):Da:=.tup (l.map λv=>.flat (.int v))
theorem gg (l:List Int):(fj l).fix=true:=by
 unfold fj;rw[Da.fix];exact df (λ_=>by rw[Da.fix]) l
def LetAt (K:aC)(H:Hp)(r:Addr)(ls:List (List Int)):Prop:=∃xs,H r=some (.lst xs)/\Holds K H xs (ls.map fj)
def D8 (K:aC):Sp:=λvs H Q _=>∃(r:Addr)(c:Nat) (ls:List (List Int)),vs=[.ref r,.int (c:Int)]/\LetAt K H r ls/\c<=6/\ls.length<=100/\(∀l∈ls,l.length<=10)/\
 ∀(r':Addr)(H':Hp),Same H H'->H r'=none->LetAt K H' r' (longer ls c)->Q (.ref r') H'
def Bu (K:aC):Sp:=λvs H Q _=>∃(a:Addr)(ws:List (Str×Nat)),vs=[.ref a]/\Hold K H (.ref a) (cy ws)/\br ws/\
 ∀(r':Addr)(H':Hp),Same H H'->H r'=none->LetAt K H' r' (c7 (ws.map (·.2)))->Q (.ref r') H'
def L0:gM:={ kind:=.function,names:=[(".0",.local),("value",.local),("letter",.free)],isGenerator:=false,isCoroutine:=false,more:=[] }
section
variable {P:aP}{w:aW}{K:aC}{mg:Str->Option aB}{base:Heap}
theorem Pb:au ["letters","count","longer","letter"] ["letters","count"] (aj vi):=fsN
theorem cLo {CX:CXT}{f:Addr}{zH:aB}{A:cQ}{outer:List Env}{s:aG}{H:Hp}{E:XK} :
  bv (bb CX P w K mg base ["letters","count","longer","letter"] "each_longer" (aj vi) f zH A outer s H E).nox ["value"] ["letter"] [3] L0 [("letter",s.heap.objs.size+1)]:=csN [(".0",.local),("value",.local),("letter",.cell)]
theorem L1 {f:Addr}{fd:bX}(F:Fun K "each_longer" "each_longer" vi f fd)(mr:mg "range"=none):FnOk P w K mg base CX0 1 f fd ["letters","count"] (D8 K):=by
 refine F.ok Pb (λvs H Q E h=>?_) (λzH A outer s H vs Q E hr h=>?_)
 ·obtain⟨r,c,ls,rfl,_⟩:=h;rfl
 obtain⟨r,c,ls,rfl,⟨vs,AF,BK⟩,c6,l100,KY,q⟩:=h;refine⟨_,ag (av (i:=2) Pb.nd rfl (cD rfl) (az ae)) (ag (dv eU rfl (cf (pv 0)) (ba (i:=3) Pb.nd rfl (mZ rfl)) (ah (cw (mw fQ PySem.F.slot_list_extend PySem.F.type_list_extend K6 (pv 2) (aa (dy (ns:=["value"]) (ys:=["letter"]) (sc:=L0) cLo rfl (jo rfl mr (aa (pv 1) ae)) (λC s H fp=>ba (i:=0) (by show(["value","letter"]:List Str).Nodup;decide +kernel) rfl (cD rfl)) (λC s H fp=>cx) (λC s H fp=>ay (r:=λx y H Q=>io K x y H Q\/fz K x y H Q) j3 (pv 1) (c9 (aa (pv 0) ae)))) ae))))) (ah (ax (pv 2)))),?_⟩;dsimp only[bb,Cx.nox];refine⟨sz0,λu hu=>?_⟩;have ll:vs.length=ls.length:=(by rw[BK.length,aI]);refine⟨_,rfl,r,rfl,⟨_,SqL.of (ad hu _ _ _ AF)⟩,fe (K:=K) (a:=r) (xs:=vs) (λi σ G=>∃(xs:List V)(v:Option V),σ=[some (.ref r),some (.int (c:Int)),some (.ref u),v]/\Same H G/\G u=some (.lst xs)/\Holds K G xs ((longer (ls.take i) c).map fj)) ⟨[],none,rfl,ad hu _,ac,.nil⟩ (λi σ G _ zF=>by obtain⟨_,_,_,sG,_⟩:=zF;exact SqL.of (sG _ _ AF)) ?_ ?_⟩
 ·intro i x σ G hx zE;obtain⟨xs,v,rfl,sG,gu,hd⟩:=zE;generalize zI:d6.mk _ _ _ _=zV;revert zI zV;refine id ?_;intro zV zI;obtain⟨l,el,hl⟩:=BK.getm hx;obtain⟨a,ys,rfl,ha,AO⟩:=Hold.tupI hl;have ey:ys=l.map V.int:=AO.ints;subst ey;have NH:i < ls.length:=(aL.mp el).1;have lw:l.length<=10:=KY l (bK el);have xl:xs.length<=600:=by
   rw[hd.length,aI,mf,dJ];exact bQ (Nat.mul_le_mul (show min i ls.length<=100 by lia) c6) (by decide)
  refine⟨_,rfl,.inl ⟨rfl,_,SqL.of gu⟩,_,rfl,(c:Int),rfl,by lia,by lia,λD hD=>?_⟩;have uD:u≠D:=am gu hD;refine qj (n:=(c:Int).toNat) (λj zs G'=>Same G G'/\G' D=some (.lst zs)/\Holds K G' zs (((eE j).map λ(v:Nat)=>l++[(v:Int)]).map fj)) ⟨ad hD _,ac,.nil⟩ (λj zs G' h=>h.2.1) ?_ ?_
  ·intro j zs G' hj zE;obtain⟨s1,d1,k1⟩:=zE;have zl:zs.length=j:=(by rw[k1.length,aI,aI,gR]);refine⟨be (by lia),⟨[some _],rfl,rfl⟩,?_⟩;refine⟨_,rfl,_,rfl,sz1,λt ht=>?_⟩;have Dt:D≠t:=am d1 ht;have PZ:G D=none:=hD;have zL:∀(p:Addr)(G2:Hp),Same G' G2->G2 p=some (.tup ((l++[(j:Int)]).map V.int))->G2 D=some (.lst zs)/\Same G (upd G2 D (.lst (zs++[.ref p])))/\upd G2 D (.lst (zs++[.ref p])) D=some (.lst (zs++[.ref p]))/\
     Holds K (upd G2 D (.lst (zs++[.ref p]))) (zs++[.ref p]) (((eE (j+1)).map λ(v:Nat)=>l++[(v:Int)]).map fj):=λp G2 s2 hp=>by
    have EF:G2 D=some (.lst zs):=s2 _ _ d1;refine⟨EF,Same.put (Same.trans s1 s2) PZ _,ac,?_⟩;rw[lU,cU,cU];refine Holds.append (Holds.stay ((Tups.of s2).trans (Tups.put EF _)) (by rw[rA];exact df (λ_=>gg _) _) k1) (.one (.tup (SqT.of ?_) (d0 _)));rw[ai (im hp EF (by intro z;cases z))];exact hp
   have DN:SqT K G' a (l.map V.int):=ha.same (Same.trans sG s1);by_cases CM:l=[]
   ·subst CM;refine .inr ⟨a,t,[.int (0+(j:Int))],rfl,rfl,DN.same (ad ht _),SqT.of ac,zL t _ (ad ht _) ?_⟩;rw[ac];simp
   ·refine .inl ⟨a,t,l.map V.int,[.int (0+(j:Int))],rfl,rfl,DN.same (ad ht _),SqT.of ac,(by simpa using CM),small (by rw[aI];show l.length+1<=1000;lia),(λe=>by cases e),λ_ p hp=>zL p _ (Same.trans (ad ht _) (ad hp _)) ?_⟩;rw[ac];simp
  ·intro zs G' zE;obtain⟨s1,d1,k1⟩:=zE;have ct:(c:Int).toNat=c:=(by lia);rw[ct]at k1;have zl:zs.length=c:=(by rw[k1.length,aI,aI,gR]);have HF:G' u=some (.lst xs):=s1 _ _ gu;subst zI;refine⟨u,D,xs,zs,rfl,rfl,HF,d1,small (by lia),xs++zs,_,rfl,Same.put (Same.trans sG s1) hu _,ac,?_⟩;have tk:ls.take (i+1)=ls.take i++[l]:=(by rw[eJ,el];rfl);rw[tk,wa,cU];refine Holds.append (Holds.stay ((Tups.of s1).trans (Tups.put HF _)) ?_ hd) (Holds.stay (Tups.put HF _) ?_ k1)
   ·exact df gg _
   ·exact df gg _
 ·intro σ G zE;obtain⟨xs,v,rfl,sG,gu,hd⟩:=zE;refine⟨_,rfl,q u G sG hu ⟨xs,gu,?_⟩⟩;rw[ll,eZ]at hd;exact hd
theorem Jx:au ["speech","letters","pair"] ["speech"] (aj Di):=fsN
theorem Jy {f g:Addr}{fd gd:bX}(F:Fun K "letters_of" "letters_of" Di f fd)(G:FnOk P w K mg base CX0 1 g gd ["letters","count"] (D8 K))(bG:Binds K gd ["letters","count"] [])(kG:aV K (.ref g)=true)
  (mG:mg "each_longer"=some (.ref g)):FnOk P w K mg base CX0 2 f fd ["speech"] (Bu K):=by
 refine F.ok Jx (λvs H Q E h=>?_) (λzH A outer s H vs Q E hr h=>?_)
 ·obtain⟨a,ws,rfl,_⟩:=h;rfl
 obtain⟨a,ws,rfl,hs,sk,q⟩:=h;refine⟨_,ag (av (i:=1) Jx.nd rfl (cD rfl) (az (aa (c9 ae) ae))) (ag (dv eU rfl (pb (pv 0)) (ba (i:=2) Jx.nd rfl (cD rfl)) (ah (av (i:=1) Jx.nd rfl (cD rfl) (ao G hr rfl mG kG bG .nil aw (aa (pv 1) (aa (aq bx (pv 2) af (λ_ _=>rfl)) ae)))))) (ah (ax (pv 1)))),?_⟩;dsimp only[bb,Cx.nox];refine⟨sz0,λt ht=>⟨sz1,λr DM=>?_⟩⟩;have tr:t≠r:=am ac DM;have BN:H r=none:=Same.free (ad ht _) DM;obtain⟨a',vs,ea,ha,hd⟩:=Hold.tupI hs;cases ea;have ll:vs.length=ws.length:=(by rw[hd.length,aI]);have s0:Same H (upd (upd H t (.tup [])) r (.lst [.ref t])):=Same.put (ad ht _) BN _;refine⟨_,rfl,a,rfl,⟨_,ha.same s0⟩,Aj (K:=K) (a:=a) (xs:=vs) (λi σ G=>∃(r:Addr)(v:Option V),σ=[some (.ref a),some (.ref r),v]/\Same H G/\H r=none/\LetAt K G r (c7 ((ws.take i).map (·.2)))) ⟨r,none,rfl,s0,BN,[.ref t],ac,.one (.tup (SqT.of (by rw[ai tr,ac])) .nil)⟩ (λi σ G _ zF=>by obtain⟨_,_,_,sG,_⟩:=zF;exact ha.same sG) ?_ ?_⟩
 ·intro i x σ G hx zE;obtain⟨r,v,rfl,sG,BN,lt⟩:=zE;generalize AV:d6.mk _ _ _ _=LG;revert AV LG;refine id ?_;intro LG AV;obtain⟨w',ew,hw⟩:=hd.getm hx;obtain⟨b,ys,rfl,hb,AO⟩:=Hold.tupI hw;have hi:i < ws.length:=(aL.mp ew).1;have wm:w'∈ws:=bK ew;have h6:=sk.cnt w' wm;cases AO with
  |cons h1 r1=>
   cases r1 with
   |cons h2 r2=>
    cases r2;cases h1.flatI;cases h2.flatI;have i3:=sk.hi;have lm:(c7 ((ws.take i).map (·.2))).length<=36:=by
     rw[i8];refine bQ (Db _ λc hc=>?_) ?_
     ·obtain⟨z,hz,rfl⟩:=jD.mp hc;exact(sk.cnt z (lX hz)).2
     ·rw[aI,dJ];exact bQ (pY (by decide) (show min i ws.length<=2 by lia)) (by decide)
    refine⟨_,rfl,_,rfl,b,_,_,_,rfl,rfl,hb.same sG,rfl,r,w'.2,_,rfl,lt,h6.2,by lia,λl hl=>?_,λr' G' s' DM lt'=>?_⟩
    ·rw[(fk _).wide l hl,aI,dJ];lia
    ·subst AV;refine⟨r',_,rfl,Same.trans sG s',Same.free sG DM,?_⟩;have tk:(ws.take (i+1)).map (·.2)=(ws.take i).map (·.2)++[w'.2]:=(by rw[eJ,ew];simp);rw[tk,nn];exact lt'
 ·intro σ G zE;obtain⟨r,v,rfl,sG,BN,lt⟩:=zE;refine⟨_,rfl,q r G sG BN ?_⟩;rw[ll,eZ]at lt;exact lt
end
def LstP (P:Nat->V->Prop)(k:Nat)(xs:List V):Prop:=xs.length=k/\∀c y,xs[c]?=some y->P c y
theorem LstP.nil {P:Nat->V->Prop}:LstP P 0 []:=⟨rfl,λc y e=>by simp at e⟩
theorem LstP.imp {P P':Nat->V->Prop}{k:Nat}{xs:List V}(h:LstP P k xs)(e:∀c y,c < k->P c y->P' c y):LstP P' k xs:=
 ⟨h.1,λc y hc=>e c y (by rw[<-h.1];exact(aL.mp hc).1) (h.2 c y hc)⟩
theorem LstP.append {P P':Nat->V->Prop}{k k':Nat}{xs ys:List V}(h:LstP P k xs)(h2:LstP P' k' ys)(e:∀c y,c < k'->P' c y->P (k+c) y):LstP P (k+k') (xs++ys):=by
 refine⟨by rw[aO,h.1,h2.1],λc y hc=>?_⟩;by_cases hl:c < xs.length
 ·rw[eB hl]at hc;exact h.2 c y hc
 ·rw[fZ (by lia)]at hc;have h3:=(aL.mp hc).1;have:=e _ y (by have:=h2.1;lia) (h2.2 _ y hc);have h1:=h.1;rw[show k+(c - xs.length)=c by lia]at this;exact this
theorem LstP.one {P:Nat->V->Prop}{x:V}(h:P 0 x):LstP P 1 [x]:=⟨rfl,λc y hc=>by
  have:=(aL.mp hc).1;simp only[cX,qL]at this;have e:c=0:=(by lia);subst e;cases hc;exact h⟩
theorem LstP.snoc {P:Nat->V->Prop}{k:Nat}{xs:List V}{y:V}(h:LstP P k xs)(hy:P k y):LstP P (k+1) (xs++[y]):=
 h.append (P':=λc=>P (k+c)) (.one (by rw[Nat.add_zero];exact hy)) λ_ _ _ z=>z
theorem LstP.drop1 {P:Nat->V->Prop}{k:Nat}{xs:List V}(h:LstP P (k+1) xs):LstP (λc=>P (c+1)) k (xs.drop 1):=by
 refine⟨by rw[hX,h.1];lia,λc y hc=>?_⟩;rw[List.getElem?_drop,jB]at hc;exact h.2 _ y hc
theorem LstP.take1 {P:Nat->V->Prop}{k:Nat}{xs:List V}(h:LstP P (k+1) xs):LstP P 1 (xs.take 1):=by
 refine⟨by rw[dJ,h.1];lia,λc y hc=>?_⟩;rw[List.getElem?_take]at hc
 split at hc
 ·exact h.2 _ y hc
 ·cases hc
theorem LstP.rep {P:Nat->V->Prop}{k:Nat}{x:V}(h:∀c,c < k->P c x):LstP P k (dQ k x):=by
 refine⟨gO,λc y hc=>?_⟩;have h1:=(aL.mp hc).1;rw[gO]at h1;rw[mK,if_pos h1]at hc;cases hc;exact h c h1
theorem LstP.at {P:Nat->V->Prop}{k:Nat}{xs:List V}(h:LstP P k xs){c:Nat}(hc:c < k):∃y,xs[c]?=some y/\P c y:=by
 have BZ:c < xs.length:=(by rw[h.1];exact hc);exact⟨xs[c],aK BZ,h.2 c _ (aK BZ)⟩
theorem LstP.set {P P':Nat->V->Prop}{k:Nat}{xs:List V}{j:Nat}{x:V}(h:LstP P k xs)(hx:P' j x)(e:∀c y,c < k->c≠j->P c y->P' c y):LstP P' k (xs.set j x):=by
 refine⟨by rw[wG,h.1],λc y hc=>?_⟩;rw[List.getElem?_set]at hc
 split at hc
 ·rename_i hj
  subst hj
  split at hc
  ·cases hc;exact hx
  ·cases hc
 ·rename_i hj
  exact e c y (by rw[<-h.1];exact(aL.mp hc).1) (λz=>hj z.symm) (h.2 c y hc)
theorem m4 (xs:List V):cr xs (some 1) none=xs.drop 1:=by
 unfold cr;rw[HT.sIx_none,show(some (1:Int))=some ((1:Nat):Int)from rfl,HT.sIx_nat];cases xs with
 |nil=>rfl
 |cons x xs=>simp[Nat.min_def]
theorem Qw (xs:List V):cr xs none (some 1)=xs.take 1:=by
 unfold cr;rw[HT.sIx_none,show(some (1:Int))=some ((1:Nat):Int)from rfl,HT.sIx_nat];cases xs with
 |nil=>rfl
 |cons x xs=>simp[Nat.min_def]
def bi (G:Hp)(D:Addr):Hp:=λb=>if b=D then none else G b
theorem bp {G:Hp}{D b:Addr}(h:b≠D):bi G D b=G b:=by unfold bi;rw[if_neg h]
theorem gh {G:Hp}{D:Addr}{o:HO}:bi (upd G D o) D=bi G D:=by
 funext b
 by_cases h:b=D
 ·unfold bi;rw[if_pos h,if_pos h]
 ·rw[bp h,bp h,ai h]
theorem hide_le {G:Hp}{D:Addr}:Same (bi G D) G:=λb o e=>by
 by_cases h:b=D
 ·unfold bi at e;rw[if_pos h]at e;cases e
 ·rw[bp h]at e;exact e
theorem dj {G G':Hp}{D:Addr}(s:Same G G'):Same (bi G D) (bi G' D):=λb o e=>by
 by_cases h:b=D
 ·unfold bi at e;rw[if_pos h]at e;cases e
 ·rw[bp h]at e ⊢;exact s _ _ e
theorem qc {H G:Hp}{D:Addr}(s:Same H G)(h:H D=none):Same H (bi G D):=λb o e=>by
 rw[bp (am e h)];exact s _ _ e
theorem D9 {G:Hp}{D:Addr}{o:HO}:Same (bi G D) (upd G D o):=λb u e=>by
 by_cases h:b=D
 ·unfold bi at e;rw[if_pos h]at e;cases e
 ·rw[bp h]at e;rw[ai h];exact e
def jc (H G:Hp):Hp:=λb=>match H b with | none=>G b | some _=>none
theorem A4 {H G:Hp}{b:Addr}(h:H b=none):jc H G b=G b:=by unfold jc;rw[h]
theorem og {H G:Hp}{b:Addr}{o:HO}(h:jc H G b=some o):H b=none/\G b=some o:=by
 unfold jc at h;cases e:H b with
 |none=>rw[e]at h;exact⟨rfl,h⟩
 |some _=>rw[e]at h;cases h
theorem Bv {H G G':Hp}(s:Same G G'):Same (jc H G) (jc H G'):=λb o e=>by
 obtain⟨h1,h2⟩:=og e;rw[A4 h1];exact s _ _ h2
theorem Gj {H G:Hp}:Same (jc H G) G:=λb o e=>(og e).2
theorem L3 {H G:Hp}{D:Addr}{o:HO}:bi (jc H (upd G D o)) D=bi (jc H G) D:=by
 funext b
 by_cases h:b=D
 ·unfold bi;rw[if_pos h,if_pos h]
 ·rw[bp h,bp h];unfold jc;rw[ai h]
theorem ub {H G X:Hp}{D:Addr}{o:HO}(h:H D=some o)(s:Same (jc H G) X):Same (jc H G) (bi X D):=λb u e=>by
 have:b≠D:=λz=>(by subst z;have:=(og e).1;rw[h]at this;cases this);rw[bp this];exact s _ _ e
abbrev Rl:=Nat->Nat->Prop
def RelAt (H:Hp)(n:Nat)(R:Rl)(x:V):Prop:=∃a ns,x=.ref a/\H a=some (.lst (ns.map V.int))/\RelP n ns R
def RowAt (H:Hp)(n k:Nat)(W:Nat->Rl)(x:V):Prop:=∃a xs,x=.ref a/\H a=some (.lst xs)/\LstP (λc=>RelAt H n (W c)) k xs
def WaysAt (H:Hp)(n k:Nat)(W:Nat->Nat->Rl)(x:V):Prop:=∃a xs,x=.ref a/\H a=some (.lst xs)/\LstP (λr=>RowAt H n k (W r)) k xs
theorem RelAt.mono {H H':Hp}{n:Nat}{R:Rl}{x:V}(e:Same H H')(h:RelAt H n R x):RelAt H' n R x:=by
 obtain⟨a,ns,rfl,g,r⟩:=h;exact⟨a,ns,rfl,e _ _ g,r⟩
abbrev qw (H:Hp)(n k:Nat)(W:Nat->Rl)(xs:List V):Prop:=LstP (λc=>RelAt H n (W c)) k xs
theorem cu {H H':Hp}{n k:Nat}{W:Nat->Rl}{xs:List V}(e:Same H H')(h:qw H n k W xs):qw H' n k W xs:=h.imp λ_ _ _ z=>z.mono e
theorem RowAt.mono {H H':Hp}{n k:Nat}{W:Nat->Rl}{x:V}(e:Same H H')(h:RowAt H n k W x):RowAt H' n k W x:=by
 obtain⟨a,xs,rfl,g,r⟩:=h;exact⟨a,xs,rfl,e _ _ g,cu e r⟩
theorem RowAt.eq {H:Hp}{n k:Nat}{W W':Nat->Rl}{x:V}(h:RowAt H n k W x)(e:∀c,c < k->W c=W' c):RowAt H n k W' x:=by
 obtain⟨a,xs,rfl,g,r⟩:=h;exact⟨a,xs,rfl,g,r.imp λc y hc z=>by rw[<-e c hc];exact z⟩
theorem WaysAt.mono {H H':Hp}{n k:Nat}{W:Nat->Nat->Rl}{x:V}(e:Same H H')(h:WaysAt H n k W x):WaysAt H' n k W x:=by
 obtain⟨a,xs,rfl,g,r⟩:=h;exact⟨a,xs,rfl,e _ _ g,r.imp λc y _ z=>z.mono e⟩
def Ea (n k:Nat)(W:Nat->Nat->Rl)(H:Hp)(Q:VK):Prop:=∀(x:V)(H':Hp),Same H H'->WaysAt H' n k W x->Q x H'
def j6 (k1:Nat)(W2:Nat->Nat->Rl)(r c:Nat):Rl:=if c=0 then W2 (r - k1+1) 0 else if c < k1 then λ_ _=>False else W2 (r - k1+1) (c - k1+1)
def jh (n k1:Nat)(W1 W2:Nat->Nat->Rl)(r c:Nat):Rl:=
 if r < k1 then if c=0/\r=0 then orR n (W1 0 0) (W2 0 0)else if c < k1 then W1 r c else if r=0 then W2 0 (c - k1+1)else λ_ _=>False
 else j6 k1 W2 r c
def ki (n k1:Nat)(W1 W2:Nat->Nat->Rl)(r c:Nat):Rl:=
 if r < k1 then if c=0 then jg n (W1 r 0) (W2 0 0)else if c < k1 then W1 r c else jg n (W1 r 0) (W2 0 (c - k1+1))
 else j6 k1 W2 r c
def nv (n:Nat)(W:Nat->Nat->Rl)(r c:Nat):Rl:=
 if c=0 then if r=0 then Star n (W 0 0)else jg n (W r 0) (Star n (W 0 0))
 else orR n (W r c) (jg n (jg n (W r 0) (Star n (W 0 0))) (W 0 c))
def Qx (r c:Nat):Rl:=if r=c then λ_ _=>False else λi j=>j=i
def Has (P:aP)(w:aW)(K:aC)(mg:Str->Option aB)(base:Heap)(k:Nat)(x:Str)(ps:List Str)(sp:Sp):Prop:=
 ∃f d,FnOk P w K mg base CX0 k f d ps sp/\Binds K d ps []/\aV K (.ref f)=true/\mg x=some (.ref f)
def Eb:Sp:=λvs H Q _=>∃(n k:Nat)(W:Nat->Nat->Rl) (x:V),vs=[x]/\WaysAt H n (k+1) W x/\k<=300/\n<=300/\
 ∀(r:Addr)(xs:List V) (H':Hp),Same H H'->H r=none->H' r=some (.lst xs)->qw H' n k (λ_ _ _=>False) xs->Q (.ref r) H'
def Gk:Sp:=λvs H Q _=>∃n:Nat,vs=[.int (n:Int)]/\n<=300/\Ea n 2 Qx H Q
section
variable {P:aP}{w:aW}{K:aC}{mg:Str->Option aB}{base:Heap}
theorem scNw:au ["size"] ["size"] (aj Dr):=fsN
theorem Pc {f:Addr}{fd:bX}(F:Fun K "note_ways" "note_ways" Dr f fd)
  (hN:Has P w K mg base 1 "nothing" ["size"] Ju) (hS:Has P w K mg base 1 "the_same" ["size"] Jv) :
  FnOk P w K mg base CX0 2 f fd ["size"] Gk:=by
 obtain⟨fN,dN,GN,bN,kN,mN⟩:=hN;obtain⟨fS,dS,GS,bS,kS,mS⟩:=hS;refine F.ok scNw (λvs H Q E h=>?_) (λzH A outer s H vs Q E hr h=>?_)
 ·obtain⟨n,rfl,_⟩:=h;rfl
 obtain⟨n,rfl,AT,q⟩:=h;refine⟨_,ah (ax (az (aa (az (aa (ao GN hr rfl mN kN bN .nil aw (aa (pv 0) ae)) (aa (ao GS hr rfl mS kS bS .nil aw (aa (pv 0) ae)) ae))) (aa (az (aa (ao GS hr rfl mS kS bS .nil aw (aa (pv 0) ae)) (aa (ao GN hr rfl mN kN bN .nil aw (aa (pv 0) ae)) ae))) ae)))),?_⟩;refine⟨_,rfl,n,rfl,AT,λr1 n1 G1 s1 _ g1 v1=>⟨_,rfl,n,rfl,AT,λr2 n2 G2 s2 _ g2 v2=>⟨sz2,λp hp=>?_⟩⟩⟩;refine⟨_,rfl,n,rfl,AT,λr3 n3 G3 s3 _ g3 v3=>⟨_,rfl,n,rfl,AT,λr4 n4 G4 s4 _ g4 v4=>⟨sz2,λp2 zZ=>⟨sz2,λp3 AG=>?_⟩⟩⟩⟩;have a1:Same G2 (upd G2 p (.lst [.ref r1,.ref r2])):=ad hp _;have a2:Same (upd G2 p (.lst [.ref r1,.ref r2])) G4:=Same.trans s3 s4;have a3:Same G4 (upd (upd G4 p2 (.lst [.ref r3,.ref r4])) p3 (.lst [.ref p,.ref p2])):=Same.trans (ad zZ _) (ad AG _);have HG:=Same.trans a1 (Same.trans a2 a3);refine q _ _ (Same.trans (Same.trans s1 s2) HG) ⟨p3,_,rfl,ac,?_⟩;refine(LstP.one ?_).snoc ?_
 ·refine⟨p,_,rfl,(Same.trans a2 a3) _ _ ac,(LstP.one ?_).snoc ?_⟩
  ·exact⟨r1,n1,rfl,(Same.trans s2 HG) _ _ g1,v1⟩
  ·exact⟨r2,n2,rfl,HG _ _ g2,v2⟩
 ·refine⟨p2,_,rfl,ad AG _ _ _ ac,(LstP.one ?_).snoc ?_⟩
  ·exact⟨r3,n3,rfl,(Same.trans s4 a3) _ _ g3,v3⟩
  ·exact⟨r4,n4,rfl,a3 _ _ g4,v4⟩
theorem scFi:au ["ways"] ["ways"] (aj Jc):=fsN
theorem S6 (k:Nat)(x:V):(dQ k [x]).flatten=dQ k x:=by
 induction k with
 |zero=>rfl
 |succ k ih=>rw[iX,nZ,ih,iX];rfl
theorem S7 {f:Addr}{fd:bX}(F:Fun K "filling" "filling" Jc f fd)
  (hN:Has P w K mg base 1 "nothing" ["size"] Ju) (ml:mg "len"=none):FnOk P w K mg base CX0 2 f fd ["ways"] Eb:=by
 obtain⟨fN,dN,GN,bN,kN,mN⟩:=hN;refine F.ok scFi (λvs H Q E h=>?_) (λzH A outer s H vs Q E hr h=>?_)
 ·obtain⟨n,k,W,x,rfl,_⟩:=h;rfl
 obtain⟨n,k,W,x,rfl,⟨a,xs,rfl,ga,la⟩,AW,zQ,q⟩:=h;refine⟨_,ah (ax (ay C1 (az (aa (ao GN hr rfl mN kN bN .nil aw (aa (bn bj rfl ml gF (aa (aq ar (aq ar (pv 0) af (λ_ _=>rfl)) af (λ_ _=>rfl)) ae)) ae)) ae)) (ay Kv (bn bj rfl ml gF (aa (pv 0) ae)) af))),?_⟩;dsimp only[bb,Cx.nox];obtain⟨y0,e0,b,zs,rfl,gb,lb⟩:=la.at (c:=0) (by lia);obtain⟨z0,f0,c,ns,rfl,gc,rv⟩:=lb.at (c:=0) (by lia);have lc:=rv.1;have lx:=la.1;refine⟨_,rfl,a,_,_,_,rfl,rfl,SqL.of ga,bf (j:=0) e0,b,_,_,_,rfl,rfl,SqL.of gb,bf (j:=0) f0,c,_,rfl,.inl (SqL.of gc),n,(by rw[aI,lc];rfl),zQ,λr1 n1 G1 s1 h1 g1 v1=>?_⟩;refine⟨sz1,λl hl=>⟨_,rfl,a,_,rfl,.inl (SqL.of (ad hl _ _ _ (s1 _ _ ga))),_,_,rfl,rfl,l,_,_,rfl,rfl,ac,?_,?_,?_,λp hp=>?_⟩⟩
 ·rw[lx];lia
 ·rw[lx];lia
 ·rw[lx];show 1 * (((k+1:Nat):Int) - 1).toNat<=sizeLine;exact small (by lia)
 ·have sA:=Same.trans s1 (ad hl (.lst [.ref r1]));refine q p _ _ (Same.trans sA (ad hp _)) (Same.free sA hp) ac ?_;rw[S6,lx,show(((k+1:Nat):Int) - 1).toNat=k by lia];exact .rep λc _=>⟨r1,n1,rfl,ad hp _ _ _ (ad hl _ _ _ g1),v1⟩
end
def xi:Sp:=λvs H Q _=>∃(n k1 k2:Nat)(W1 W2:Nat->Nat->Rl) (x y:V),vs=[x,y]/\WaysAt H n (k1+1) W1 x/\WaysAt H n (k2+1) W2 y/\k1+k2<=300/\n<=300/\
 ∀(r:Addr)(xs:List V) (H':Hp),Same H H'->H r=none->H' r=some (.lst xs)->LstP (λd=>RowAt H' n (k1+k2+1) (j6 (k1+1) W2 (k1+1+d))) k2 xs->Q (.ref r) H'
def Cn (T:Nat->Nat->(Nat->Nat->Rl)->(Nat->Nat->Rl)->Nat->Nat->Rl):Sp:=λvs H Q _=>∃(n k1 k2:Nat)(W1 W2:Nat->Nat->Rl) (x y:V),vs=[x,y]/\WaysAt H n (k1+1) W1 x/\WaysAt H n (k2+1) W2 y/\k1+k2<=300/\n<=300/\
 Ea n (k1+k2+1) (T n (k1+1) W1 W2) H Q
section
variable {P:aP}{w:aW}{K:aC}{mg:Str->Option aB}{base:Heap}
theorem Vl:au ["first","second","fill"] ["first","second"] (aj vj):=fsN
def Vm:gM:={ kind:=.function,names:=[(".0",.local),("row",.local),("fill",.free)],isGenerator:=false,isCoroutine:=false,more:=[] }
theorem cBh {CX:CXT}{f:Addr}{zH:aB}{A:cQ}{outer:List Env}{s:aG}{H:Hp}{E:XK} :
  bv (bb CX P w K mg base ["first","second","fill"] "behind" (aj vj) f zH A outer s H E).nox ["row"] ["fill"] [2] Vm [("fill",s.heap.objs.size+1)]:=csN [(".0",.local),("row",.local),("fill",.cell)]
theorem L4 {f:Addr}{fd:bX}(F:Fun K "behind" "behind" vj f fd)(hF:Has P w K mg base 2 "filling" ["ways"] Eb):FnOk P w K mg base CX0 3 f fd ["first","second"] xi:=by
 obtain⟨fF,dF,GF,bF,kF,mF⟩:=hF;refine F.ok Vl (λvs H Q E h=>?_) (λzH A outer s H vs Q E hr h=>?_)
 ·obtain⟨n,k1,k2,W1,W2,x,y,rfl,_⟩:=h;rfl
 obtain⟨n,k1,k2,W1,W2,x,y,rfl,w1,w2,AW,zQ,q⟩:=h;refine⟨_,ag (av (i:=2) Vl.nd rfl (mZ rfl) (ao GF hr rfl mF kF bF .nil aw (aa (pv 0) ae))) (ah (ax (dy (ns:=["row"]) (ys:=["fill"]) (sc:=Vm) cBh rfl (cf (bq db (pv 1) (bw af) cq)) (λC s H fp=>ba (i:=0) (by show(["row","fill"]:List Str).Nodup;decide +kernel) rfl (cD rfl)) (λC s H fp=>cx) (λC s H fp=>ay dw (ay dw (bq (r:=N8 K) db (pv 0) cq (bw af)) (pv 1)) (bq (r:=N8 K) db (pv 0) (bw af) cq))))),?_⟩;dsimp only[bb,Cx.nox];refine⟨_,rfl,n,k1,W1,x,rfl,w1,by lia,zQ,λrf fl G1 s1 h1 g1 l1=>?_⟩;obtain⟨a2,CQ,rfl,JW,LH⟩:=w2.mono s1;refine⟨_,rfl,_,rfl,a2,CQ,rfl,SqL.of JW,λp hp=>⟨p,rfl,⟨_,SqL.of ac⟩,λD hD=>?_⟩⟩;rw[m4]at hD ⊢;have s2:Same G1 (upd G1 p (.lst (CQ.drop 1))):=ad hp _;have ld:=LH.drop1;have QA:G1 D=none:=Same.free s2 hD;refine di (K:=K) (a:=p) (xs:=CQ.drop 1) (λi ys G=>Same (upd G1 p (.lst (CQ.drop 1))) G/\G D=some (.lst ys)/\LstP (λd=>RowAt (bi G D) n (k1+k2+1) (j6 (k1+1) W2 (k1+1+d))) i ys)
  ⟨ad hD _,ac,.nil⟩ (λi ys G z=>z.2.1) (λi ys G _ z=>SqL.of (z.1 _ _ ac)) ?_ ?_
 ·intro i x ys G hx zE;obtain⟨sG,gD,ly⟩:=zE;have hi:i < k2:=(by rw[<-ld.1];exact(aL.mp hx).1);have sA:Same G1 G:=Same.trans s2 sG;obtain⟨b,zs,rfl,HH,DW⟩:=ld.2 i x hx;have gb:=sA _ _ HH;have yl:=ly.1;have fl1:=l1.1;have zl:=DW.1;refine⟨be (by lia),⟨[some _],rfl,rfl⟩,?_⟩;refine⟨_,rfl,_,rfl,b,zs,rfl,SqL.of gb,λp1 BC=>?_⟩;rw[Qw];have t1:=ad BC (.lst (zs.take 1));refine⟨_,rfl,p1,rf,_,fl,rfl,rfl,ac,t1 _ _ (sA _ _ g1),small (by rw[dJ];lia),λp2 zZ=>?_⟩;have t2:=ad zZ (.lst (zs.take 1++fl));have QB:=Same.trans t1 t2;refine⟨_,rfl,_,rfl,b,zs,rfl,SqL.of (QB _ _ gb),λp3 AG=>?_⟩;rw[m4];have t3:=ad AG (.lst (zs.drop 1));refine⟨p2,p3,_,_,rfl,rfl,t3 _ _ ac,ac,small (by rw[aO,dJ,hX];lia),λp4 ER=>?_⟩;have t4:=ad ER (.lst (zs.take 1++fl++zs.drop 1));have t:=Same.trans (Same.trans QB t3) t4;have IS:=t _ _ gD;have hp4D:p4≠D:=λe=>(by subst e;rw[Same.trans QB t3 _ _ gD]at ER;cases ER);refine⟨IS,Same.put (Same.trans sG t) hD _,ac,?_⟩;rw[gh];have sH:=qc (D:=D) (Same.trans sA t) QA;refine(ly.imp λd y _ z=>z.mono (dj t)).snoc ⟨p4,_,rfl,by rw[bp hp4D];exact ac,?_⟩;have hk:k1+k2+1=1+k1+k2:=(by lia);rw[hk];refine LstP.append (k:=1+k1) (k':=k2) (P':=λc=>RelAt (bi _ D) n (W2 (i+1) (c+1))) (LstP.append (k:=1) (k':=k1) (P':=λc=>RelAt (bi _ D) n (λ_ _=>False)) ((cu sH DW).take1.imp λc y hc z=>?_) (cu sH l1) λc y hc z=>?_) (cu sH DW).drop1 λc y hc z=>?_
  ·have:c=0:=(by lia);subst this;unfold j6;rw[if_pos rfl,show k1+1+i - (k1+1)+1=i+1 by lia];exact z
  ·unfold j6;rw[if_neg (by lia),if_pos (by lia)];exact z
  ·unfold j6;rw[if_neg (by lia),if_neg (by lia),show k1+1+i - (k1+1)+1=i+1 by lia,show 1+k1+c - (k1+1)+1=c+1 by lia];exact z
 ·intro ys G zE;obtain⟨sG,gD,ly⟩:=zE;rw[ld.1]at ly;exact q D ys G (Same.trans s1 (Same.trans s2 sG)) (Same.free s1 QA) gD (ly.imp λd y _ z=>z.mono hide_le)
theorem Pd:au ["one","other","start","fill"] ["one","other"] (aj y8):=fsN
def Qy:gM:={ kind:=.function,names:=[(".0",.local),("row",.local),("fill",.free)],isGenerator:=false,isCoroutine:=false,more:=[] }
theorem cEw_ {CX:CXT}{f:Addr}{zH:aB}{A:cQ}{outer:List Env}{s:aG}{H:Hp}{E:XK} :
  bv (bb CX P w K mg base ["one","other","start","fill"] "either_ways" (aj y8) f zH A outer s H E).nox ["row"] ["fill"] [3] Qy [("fill",s.heap.objs.size+1)]:=csN [(".0",.local),("row",.local),("fill",.cell)]
theorem Pe {f:Addr}{fd:bX}(F:Fun K "either_ways" "either_ways" y8 f fd)(hE:Has P w K mg base 1 "either_of" ["one","other"] (zm K))(hF:Has P w K mg base 2 "filling" ["ways"] Eb)
  (hB:Has P w K mg base 3 "behind" ["first","second"] xi):FnOk P w K mg base CX0 4 f fd ["one","other"] (Cn jh):=by
 obtain⟨fE,dE,GE,bE,kE,mE⟩:=hE;obtain⟨fF,dF,GF,bF,kF,mF⟩:=hF;obtain⟨fB,dB,GB,bB,kB,mB⟩:=hB;refine F.ok Pd (λvs H Q E h=>?_) (λzH A outer s H vs Q E hr h=>?_)
 ·obtain⟨n,k1,k2,W1,W2,x,y,rfl,_⟩:=h;rfl
 obtain⟨n,k1,k2,W1,W2,x,y,rfl,w1,w2,AW,zQ,q⟩:=h;refine⟨_,ag (av (i:=2) Pd.nd rfl (cD rfl) (ay dw (ay dw (az (aa (ao GE (hr.mono (by decide)) rfl mE kE bE .nil aw (aa (aq ar (aq ar (pv 0) af (λ_ _=>rfl)) af (λ_ _=>rfl)) (aa (aq ar (aq ar (pv 1) af (λ_ _=>rfl)) af (λ_ _=>rfl)) ae))) ae)) (bq db (aq ar (pv 0) af (λ_ _=>rfl)) (bw af) cq)) (bq db (aq ar (pv 1) af (λ_ _=>rfl)) (bw af) cq))) (ag (av (i:=3) Pd.nd rfl (mZ rfl) (ao GF (hr.mono (by decide)) rfl mF kF bF .nil aw (aa (pv 1) ae))) (ah (ax (ay dw (ay dw (az (aa (pv 2) ae)) (dy (ns:=["row"]) (ys:=["fill"]) (sc:=Qy) cEw_ rfl (cf (bq db (pv 0) (bw af) cq)) (λC s H fp=>ba (i:=0) (by show(["row","fill"]:List Str).Nodup;decide +kernel) rfl (cD rfl)) (λC s H fp=>cx) (λC s H fp=>ay dw (pv 0) (pv 1)))) (ao GB hr rfl mB kB bB .nil aw (aa (pv 0) (aa (pv 1) ae))))))),?_⟩;dsimp only[bb,Cx.nox];obtain⟨a1,xs1,rfl,HI,IT⟩:=id w1;obtain⟨a2,CQ,rfl,JW,LH⟩:=id w2;obtain⟨_,e1,b1,B',rfl,CA,FH⟩:=IT.at (c:=0) (by lia);obtain⟨_,f1,c1,IU,rfl,LI,FG⟩:=FH.at (c:=0) (by lia);obtain⟨_,e2,b2,ES,rfl,FI,JX⟩:=LH.at (c:=0) (by lia);obtain⟨_,f2,c2,QC,rfl,QD,JU⟩:=JX.at (c:=0) (by lia);have zl1:=FH.1;have QE:=JX.1;refine⟨_,rfl,a1,_,_,_,rfl,rfl,SqL.of HI,bf (j:=0) e1,b1,_,_,_,rfl,rfl,SqL.of CA,bf (j:=0) f1,_,rfl,a2,_,_,_,rfl,rfl,SqL.of JW,bf (j:=0) e2,b2,_,_,_,rfl,rfl,SqL.of FI,bf (j:=0) f2,n,c1,c2,IU,QC,_,_,rfl,SqL.of LI,FG,SqL.of QD,JU,zQ,λr0 n0 G1 s1 h1 g1 v1=>?_⟩;refine⟨sz1,λp0 IV=>?_⟩;have t0:=ad IV (.lst [.ref r0]);have GZ:=Same.trans s1 t0;refine⟨_,rfl,a1,_,_,_,rfl,rfl,SqL.of (GZ _ _ HI),bf (j:=0) e1,_,rfl,b1,B',rfl,SqL.of (GZ _ _ CA),λp1 BC=>?_⟩;rw[m4];have t1:=ad BC (.lst (B'.drop 1));refine⟨p0,p1,_,_,rfl,rfl,t1 _ _ ac,ac,small (by rw[hX];show 1+_<=_;lia),λp2 zZ=>?_⟩;have t2:=ad zZ (.lst ([.ref r0]++B'.drop 1));have BD:=Same.trans GZ (Same.trans t1 t2);refine⟨_,rfl,a2,_,_,_,rfl,rfl,SqL.of (BD _ _ JW),bf (j:=0) e2,_,rfl,b2,ES,rfl,SqL.of (BD _ _ FI),λp3 AG=>?_⟩;rw[m4];have t3:=ad AG (.lst (ES.drop 1));refine⟨p2,p3,_,_,rfl,rfl,t3 _ _ ac,ac,small (by rw[aO,hX,hX];show 1+_+_<=_;lia),λp4 ER=>?_⟩;have t4:=ad ER (.lst ([.ref r0]++B'.drop 1++ES.drop 1));have LJ:=Same.trans BD (Same.trans t3 t4);have UI:=(Same.trans t0 (Same.trans (Same.trans t1 t2) (Same.trans t3 t4))) _ _ g1;have UJ:(upd (upd (upd (upd (upd G1 p0 (.lst [.ref r0])) p1 (.lst (B'.drop 1))) p2 (.lst ([.ref r0]++B'.drop 1))) p3 (.lst (ES.drop 1))) p4 (.lst ([.ref r0]++B'.drop 1++ES.drop 1))) p4=some (.lst ([.ref r0]++B'.drop 1++ES.drop 1)):=ac;generalize upd (upd (upd (upd (upd G1 p0 (.lst [.ref r0])) p1 (.lst (B'.drop 1))) p2 (.lst ([.ref r0]++B'.drop 1))) p3 (.lst (ES.drop 1))) p4 (.lst ([.ref r0]++B'.drop 1++ES.drop 1))=G2 at LJ UI UJ ⊢;clear t4 t3 BD t2 t1 GZ t0;refine⟨_,rfl,n,k2,W2,.ref a2,rfl,w2.mono LJ,by lia,zQ,λrf fl G3 s3 h3 g3 l3=>?_⟩;have CS:=Same.trans LJ s3;refine⟨_,rfl,sz1,λp5 ET=>?_⟩;have t5:=ad ET (.lst [.ref p4]);have JY:=Same.trans CS t5;refine⟨_,rfl,_,rfl,a1,xs1,rfl,SqL.of (JY _ _ HI),λp6 hp6=>⟨p6,rfl,⟨_,SqL.of ac⟩,λD hD=>?_⟩⟩;rw[m4]at hD ⊢;have t6:=ad hp6 (.lst (xs1.drop 1));have IW:=Same.trans JY t6;have UK:=(Same.trans s3 (Same.trans t5 t6)) _ _ UJ;have UL:=(Same.trans s3 (Same.trans t5 t6)) _ _ UI;have UM:=(Same.trans t5 t6) _ _ g3;have EU:=cu (Same.trans t5 t6) l3;have UN:(upd (upd G3 p5 (.lst [.ref p4])) p6 (.lst (xs1.drop 1))) p5=some (.lst [.ref p4]):=t6 _ _ ac;have UO:(upd (upd G3 p5 (.lst [.ref p4])) p6 (.lst (xs1.drop 1))) p6=some (.lst (xs1.drop 1)):=ac;generalize upd (upd G3 p5 (.lst [.ref p4])) p6 (.lst (xs1.drop 1))=G6 at IW UK UL UM EU UN UO hD ⊢;clear t6 t5 JY;have ld:=IT.drop1;have fl1:=l3.1;refine di (K:=K) (a:=p6) (xs:=xs1.drop 1) (λi ys G=>Same G6 G/\G D=some (.lst ys)/\LstP (λd=>RowAt (bi G D) n (k1+k2+1) (jh n (k1+1) W1 W2 (1+d))) i ys)
  ⟨ad hD _,ac,.nil⟩ (λi ys G z=>z.2.1) (λi ys G _ z=>SqL.of (z.1 _ _ UO)) ?_ ?_
 ·intro i x ys G hx zE;obtain⟨sG,gD,ly⟩:=zE;have hi:i < k1:=(by rw[<-ld.1];exact(aL.mp hx).1);obtain⟨b,zs,rfl,HH,DW⟩:=(ld.2 i x hx).mono IW;have gb:=sG _ _ HH;have yl:=ly.1;have zl:=DW.1;refine⟨be (by lia),⟨[some _],rfl,rfl⟩,?_⟩;refine⟨_,rfl,_,rfl,b,rf,zs,fl,rfl,rfl,gb,sG _ _ UM,small (by lia),λp7 LK=>?_⟩;have t7:=ad LK (.lst (zs++fl));have IS:=t7 _ _ gD;have hpD:p7≠D:=λe=>(by subst e;rw[gD]at LK;cases LK);refine⟨IS,Same.put (Same.trans sG t7) hD _,ac,?_⟩;rw[gh];have sH:=qc (D:=D) (Same.trans sG t7) hD;refine(ly.imp λd y _ z=>z.mono (dj t7)).snoc ⟨p7,_,rfl,by rw[bp hpD];exact ac,?_⟩;rw[show k1+k2+1=k1+1+k2 by lia];refine LstP.append (k:=k1+1) (k':=k2) (P':=λc=>RelAt (bi _ D) n (λ_ _=>False)) ((cu sH DW).imp λc y hc z=>?_) (cu sH EU) λc y hc z=>?_
  ·unfold jh;rw[if_pos (by lia),if_neg (by lia),if_pos (by lia),jB 1 i];exact z
  ·unfold jh;rw[if_pos (by lia),if_neg (by lia),if_neg (by lia),if_neg (by lia)];exact z
 ·intro ys G zE;obtain⟨sG,gD,ly⟩:=zE;rw[ld.1]at ly;have QF:=ly.imp λd y _ z=>z.mono hide_le;have yl:=ly.1;refine⟨p5,D,_,_,rfl,rfl,sG _ _ UN,gD,small (by show 1+_<=_;lia),λp7 LK=>?_⟩;have t7:=ad LK (.lst ([.ref p4]++ys));have s7:=Same.trans IW (Same.trans sG t7);refine⟨_,rfl,_,rfl,n,k1,k2,W1,W2,.ref a1,.ref a2,rfl,w1.mono s7,w2.mono s7,AW,zQ,λrb bs G9 s9 h9 g9 l9=>?_⟩;have bl:=l9.1;refine⟨p7,rb,_,_,rfl,rfl,s9 _ _ ac,g9,small (by rw[aO];show 1+_+_<=_;lia),λp8 NI=>?_⟩;have t8:=ad NI (.lst ([.ref p4]++ys++bs));have sT:=Same.trans sG (Same.trans t7 (Same.trans s9 t8));refine q _ _ (Same.trans s7 (Same.trans s9 t8)) ⟨p8,_,rfl,ac,?_⟩;rw[show k1+k2+1=1+k1+k2 by lia];refine LstP.append (k:=1+k1) (k':=k2) (LstP.append (k:=1) (k':=k1) (.one ?_) (QF.imp λd y _ z=>z.mono (Same.trans t7 (Same.trans s9 t8))) λd y hd z=>?_) (l9.imp λd y _ z=>z.mono t8) λd y hd z=>?_
  ·refine⟨p4,_,rfl,sT _ _ UK,?_⟩;refine LstP.append (k:=1+k1) (k':=k2) (LstP.append (k:=1) (k':=k1) (.one ?_) (cu (Same.trans IW sT) FH).drop1 λc y hc z=>?_) (cu (Same.trans IW sT) JX).drop1 λc y hc z=>?_
   ·refine⟨r0,n0,rfl,sT _ _ UL,?_⟩;unfold jh;rw[if_pos (by lia),if_pos (by lia)];exact v1
   ·unfold jh;rw[if_pos (by lia),if_neg (by lia),if_pos (by lia),jB 1 c];exact z
   ·unfold jh;rw[if_pos (by lia),if_neg (by lia),if_neg (by lia),if_pos rfl,show 1+k1+c - (k1+1)+1=c+1 by lia];exact z
  ·rw[show 1+k1+k2=k1+k2+1 by lia];exact z
  ·rw[show 1+k1+k2=k1+k2+1 by lia];refine z.eq λc hc=>?_;unfold jh;rw[if_neg (by lia),jB k1 1]
theorem Jz:au ["first","second","rows","row","begun"] ["first","second"] (aj y9):=fsN
def Qz:gM:={ kind:=.function,names:=[(".0",.local),("relation",.local),("one_then_other",.globalImplicit),("row",.free)],isGenerator:=false,isCoroutine:=false,more:=[] }
theorem cTw_ {CX:CXT}{f:Addr}{zH:aB}{A:cQ}{outer:List Env}{s:aG}{H:Hp}{E:XK} :
  bv (bb CX P w K mg base ["first","second","rows","row","begun"] "then_ways" (aj y9) f zH A outer s H E).nox ["relation"] ["row"] [3] Qz [("row",s.heap.objs.size+1)]:=csN [(".0",.local),("relation",.local),("one_then_other",.globalImplicit),("row",.cell)]
theorem Pf {f:Addr}{fd:bX}(F:Fun K "then_ways" "then_ways" y9 f fd)(hO:Has P w K mg base 2 "one_then_other" ["first","second"] (Jw K))
  (hB:Has P w K mg base 3 "behind" ["first","second"] xi):FnOk P w K mg base CX0 4 f fd ["first","second"] (Cn ki):=by
 obtain⟨fO,dO,GO,bO,kO,mO⟩:=hO;obtain⟨fB,dB,GB,bB,kB,mB⟩:=hB;refine F.ok Jz (λvs H Q E h=>?_) (λzH A outer s H vs Q E hr h=>?_)
 ·obtain⟨n,k1,k2,W1,W2,x,y,rfl,_⟩:=h;rfl
 obtain⟨n,k1,k2,W1,W2,x,y,rfl,w1,w2,AW,zQ,q⟩:=h;refine⟨_,ag (av (i:=2) Jz.nd rfl (cD rfl) (az ae)) (ag (dv eU rfl (cf (pv 0)) (ba (i:=3) Jz.nd rfl (mZ rfl)) (ag (i9 (i0:=4) (ns:=["relation"]) (ys:=["row"]) (sc:=Qz) Jz.nd rfl rfl cTw_ rfl (cf (aq ar (pv 1) af (λ_ _=>rfl))) (λC s H fp=>ba (i:=0) (by show(["relation","row"]:List Str).Nodup;decide +kernel) rfl (cD rfl)) (λC s H fp=>cx) (λC s H fp=>ao GO (hr.mono (by decide)) rfl mO kO bO .nil aw (aa (aq (r:=An K) ar (pv 1) af (λ_ _=>rfl)) (aa (pv 0) ae)))) (ah (cw (mw fQ lV lW ir (pv 2) (aa (ay dw (ay dw (bq db (pv 4) cq (bw af)) (bq db (pv 3) (bw af) cq)) (bq db (pv 4) (bw af) cq)) ae)))))) (ah (ax (ay dw (pv 2) (ao GB hr rfl mB kB bB .nil aw (aa (pv 0) (aa (pv 1) ae))))))),?_⟩;dsimp only[bb,Cx.nox];obtain⟨a1,xs1,rfl,HI,IT⟩:=id w1;obtain⟨a2,CQ,rfl,JW,LH⟩:=id w2;obtain⟨_,e2,b2,ES,rfl,FI,JX⟩:=LH.at (c:=0) (by lia);have QE:=JX.1;have UP:=IT.1;refine⟨sz0,λu hu=>?_⟩;refine⟨_,rfl,a1,rfl,⟨_,SqL.of (ad hu _ _ _ HI)⟩,fe (K:=K) (a:=a1) (xs:=xs1) (λi σ G=>∃(ys:List V)(v3 v4:Option V),σ=[some (.ref a1),some (.ref a2),some (.ref u),v3,v4]/\Same H G/\G u=some (.lst ys)/\LstP (λd=>RowAt (bi G u) n (k1+k2+1) (ki n (k1+1) W1 W2 d)) i ys) ⟨[],none,none,rfl,ad hu _,ac,.nil⟩ (λi σ G _ zF=>by obtain⟨_,_,_,_,sG,_⟩:=zF;exact SqL.of (sG _ _ HI)) ?_ ?_⟩
 ·intro i x σ G hx zE;obtain⟨ys,v3,v4,rfl,sG,gu,ly⟩:=zE;generalize zI:d6.mk _ _ _ _=zV;revert zI zV;refine id ?_;intro zV zI;have hi:i < k1+1:=(by rw[<-UP];exact(aL.mp hx).1);have yl:=ly.1;obtain⟨b1,B',rfl,CA,FH⟩:=IT.2 i x hx;obtain⟨_,f1,c1,IU,rfl,LI,FG⟩:=FH.at (c:=0) (by lia);have zl1:=FH.1;refine⟨_,rfl,a2,_,_,_,rfl,rfl,SqL.of (sG _ _ JW),bf (j:=0) e2,b2,rfl,⟨_,SqL.of (sG _ _ FI)⟩,λD hD=>?_⟩;have QA:H D=none:=Same.free sG hD;refine di (K:=K) (a:=b2) (xs:=ES) (λj us G2=>Same G G2/\G2 D=some (.lst us)/\qw (bi (bi G2 D) u) n j (λc=>jg n (W1 i 0) (W2 0 c)) us)
   ⟨ad hD _,ac,.nil⟩ (λi ys G z=>z.2.1) (λi ys G _ z=>SqL.of (z.1 _ _ (sG _ _ FI))) ?_ ?_
  ·intro j x us G2 FJ zE;obtain⟨s2,gD,lu⟩:=zE;have hj:j < k2+1:=(by rw[<-QE];exact(aL.mp FJ).1);have ul:=lu.1;obtain⟨c2,QC,rfl,QD,JU⟩:=JX.2 j x FJ;have sA:=Same.trans sG s2;refine⟨be (by lia),⟨[some _],rfl,rfl⟩,?_⟩;refine⟨_,rfl,b1,_,_,_,rfl,rfl,SqL.of (sA _ _ CA),bf (j:=0) f1,_,rfl,n,c1,c2,IU,QC,_,_,rfl,SqL.of (sA _ _ LI),FG,SqL.of (sA _ _ QD),JU,zQ,λr3 n3 G3 s3 h3 g3 v3=>?_⟩;have QG:r3≠D:=λe=>(by subst e;rw[gD]at h3;cases h3);refine⟨s3 _ _ gD,Same.put (Same.trans s2 s3) hD _,ac,?_⟩;rw[gh];have hru:r3≠u:=λe=>(by subst e;rw[s2 _ _ gu]at h3;cases h3);exact(cu (dj (dj s3)) lu).snoc ⟨r3,n3,rfl,by rw[bp hru,bp QG];exact g3,v3⟩
  ·intro us G2 zE;obtain⟨s2,gD,lu⟩:=zE;rw[QE]at lu;have ul:=lu.1;have FK:=s2 _ _ gu;have uD:u≠D:=am gu hD;refine⟨_,rfl,.inl ⟨rfl,_,SqL.of FK⟩,?_⟩;refine⟨_,rfl,_,rfl,D,us,rfl,SqL.of gD,λp1 BC=>?_⟩;rw[Qw];have t1:=ad BC (.lst (us.take 1));have sA:=Same.trans (Same.trans sG s2) t1;refine⟨_,rfl,_,rfl,b1,B',rfl,SqL.of (sA _ _ CA),λp2 zZ=>?_⟩;rw[m4];have t2:=ad zZ (.lst (B'.drop 1));refine⟨p1,p2,_,_,rfl,rfl,t2 _ _ ac,ac,small (by rw[dJ,hX];lia),λp3 AG=>?_⟩;have t3:=ad AG (.lst (us.take 1++B'.drop 1));have QH:=Same.trans t1 (Same.trans t2 t3);refine⟨_,rfl,_,rfl,D,us,rfl,SqL.of (QH _ _ gD),λp4 ER=>?_⟩;rw[m4];have t4:=ad ER (.lst (us.drop 1));refine⟨p3,p4,_,_,rfl,rfl,t4 _ _ ac,ac,small (by rw[aO,dJ,hX,hX];lia),λp5 ET=>?_⟩;have t5:=ad ET (.lst (us.take 1++B'.drop 1++us.drop 1));have LM:=Same.trans QH (Same.trans t4 t5);have gu5:=LM _ _ FK;have pu:p5≠u:=λe=>(by subst e;rw[(Same.trans QH t4) _ _ FK]at ET;cases ET);refine⟨u,_,_,rfl,rfl,gu5,be (by lia),?_⟩;subst zI;refine⟨_,_,_,rfl,Same.put (Same.trans (Same.trans sG s2) LM) hu _,ac,?_⟩;rw[gh];have sH:Same H (bi _ u):=qc (D:=u) (Same.trans (Same.trans sG s2) LM) hu;have UQ:=cu (Same.trans (dj (hide_le:Same (bi G2 D) G2)) (dj (D:=u) LM)) lu;refine(ly.imp λd y _ z=>z.mono (dj (Same.trans s2 LM))).snoc ⟨p5,_,rfl,by rw[bp pu];exact ac,?_⟩;have hk:k1+k2+1=1+k1+k2:=(by lia);rw[hk];refine LstP.append (k:=1+k1) (k':=k2) (LstP.append (k:=1) (k':=k1) (UQ.take1.imp λc y hc z=>?_) (cu sH FH).drop1 λc y hc z=>?_) UQ.drop1 λc y hc z=>?_
   ·have:c=0:=(by lia);subst this;unfold ki;rw[if_pos hi,if_pos rfl];exact z
   ·unfold ki;rw[if_pos hi,if_neg (by lia),if_pos (by lia),jB 1 c];exact z
   ·unfold ki;rw[if_pos hi,if_neg (by lia),if_neg (by lia),show 1+k1+c - (k1+1)+1=c+1 by lia];exact z
 ·intro σ G zE;obtain⟨ys,v3,v4,rfl,sG,gu,ly⟩:=zE;rw[UP]at ly;have QF:=ly.imp λd y _ z=>z.mono hide_le;have yl:=ly.1;refine⟨_,rfl,_,rfl,_,rfl,n,k1,k2,W1,W2,.ref a1,.ref a2,rfl,w1.mono sG,w2.mono sG,AW,zQ,λrb bs G9 s9 h9 g9 l9=>?_⟩;have bl:=l9.1;refine⟨u,rb,_,_,rfl,rfl,s9 _ _ gu,g9,small (by lia),λp8 NI=>?_⟩;have t8:=ad NI (.lst (ys++bs));refine q _ _ (Same.trans sG (Same.trans s9 t8)) ⟨p8,_,rfl,ac,?_⟩;rw[show k1+k2+1=k1+1+k2 by lia];refine LstP.append (k:=k1+1) (k':=k2) (QF.imp λd y hd z=>?_) (l9.imp λd y _ z=>z.mono t8) λd y hd z=>?_
  ·rw[show k1+1+k2=k1+k2+1 by lia];exact z.mono (Same.trans s9 t8)
  ·rw[show k1+1+k2=k1+k2+1 by lia];refine z.eq λc hc=>?_;unfold ki;rw[if_neg (by lia)]
end
def m5 (n:Nat)(Wr:Nat->Rl)(A:Rl)(W0:Nat->Rl)(c:Nat):Rl:=if c=0 then jg n (Wr 0) A else orR n (Wr c) (jg n (jg n (Wr 0) A) (W0 c))
def Q0:Sp:=λvs H Q _=>∃(n k:Nat)(Wr W0:Nat->Rl) (A:Rl) (x y z:V),vs=[x,y,z]/\RowAt H n (k+1) Wr x/\RelAt H n A y/\RowAt H n (k+1) W0 z/\k<=300/\n<=300/\
 ∀(r:Addr)(xs:List V) (H':Hp),Same H H'->H r=none->H' r=some (.lst xs)->qw (bi (jc H H') r) n (k+1) (m5 n Wr A W0) xs->Q (.ref r) H'
def Q1:Sp:=λvs H Q _=>∃(n k:Nat)(W:Nat->Nat->Rl) (x:V),vs=[x]/\WaysAt H n (k+1) W x/\k<=300/\n<=300/\Ea n (k+1) (nv n W) H Q
section
variable {P:aP}{w:aW}{K:aC}{mg:Str->Option aB}{base:Heap}
theorem Pg:au ["row","anew","start","ended","later"] ["row","anew","start"] (aj vm):=fsN
def Q2:gM:={ kind:=.function,names:=[(".0",.local),("old",.local),("begun",.local),("either_of",.globalImplicit),("one_then_other",.globalImplicit),("ended",.free)],isGenerator:=false,isCoroutine:=false,more:=[] }
theorem cAr_ {CX:CXT}{f:Addr}{zH:aB}{A:cQ}{outer:List Env}{s:aG}{H:Hp}{E:XK} :
  bv (bb CX P w K mg base ["row","anew","start","ended","later"] "again_row" (aj vm) f zH A outer s H E).nox ["old","begun"] ["ended"] [3] Q2 [("ended",s.heap.objs.size+1)]:=csN [(".0",.local),("old",.local),("begun",.local),("either_of",.globalImplicit),("one_then_other",.globalImplicit),("ended",.cell)]
theorem Vn {f:Addr}{fd:bX}(F:Fun K "again_row" "again_row" vm f fd)(hO:Has P w K mg base 2 "one_then_other" ["first","second"] (Jw K))(hE:Has P w K mg base 1 "either_of" ["one","other"] (zm K))(mz:mg "zip"=none) :
  FnOk P w K mg base CX0 3 f fd ["row","anew","start"] Q0:=by
 obtain⟨fO,dO,GO,bO,kO,mO⟩:=hO;obtain⟨fE,dE,GE,bE,kE,mE⟩:=hE;refine F.ok Pg (λvs H Q E h=>?_) (λzH A outer s H vs Q E hr h=>?_)
 ·obtain⟨n,k,Wr,W0,R,x,y,z,rfl,_⟩:=h;rfl
 obtain⟨n,k,Wr,W0,R,x,y,z,rfl,wr,wy,w0,AW,zQ,q⟩:=h;refine⟨_,ag (av (i:=3) Pg.nd rfl (mZ rfl) (ao GO hr rfl mO kO bO .nil aw (aa (aq ar (pv 0) af (λ_ _=>rfl)) (aa (pv 1) ae)))) (ag (i9 (i0:=4) (ns:=["old","begun"]) (ys:=["ended"]) (sc:=Q2) Pg.nd rfl rfl cAr_ rfl (A1 rfl mz (aa (bq db (pv 0) (bw af) cq) (aa (bq db (pv 2) (bw af) cq) ae))) (λC s H fp=>pg2 rfl) (λC s H fp=>cx) (λC s H fp=>ao GE (hr.mono (by decide)) rfl mE kE bE .nil aw (aa (pv 0) (aa (ao GO hr rfl mO kO bO .nil aw (aa (pv 2) (aa (pv 1) ae))) ae)))) (ah (ax (ay dw (az (aa (pv 3) ae)) (pv 4))))),?_⟩;dsimp only[bb,Cx.nox];obtain⟨b,zs,rfl,gb,lb⟩:=wr;obtain⟨c,ns,rfl,gc,rc⟩:=wy;obtain⟨b0,FL,rfl,HH,DW⟩:=w0;obtain⟨_,e1,c1,IU,rfl,LI,FG⟩:=lb.at (c:=0) (by lia);have zl:=lb.1;have zl0:=DW.1;refine⟨_,rfl,b,_,_,_,rfl,rfl,SqL.of gb,bf (j:=0) e1,_,rfl,n,c1,c,IU,ns,_,_,rfl,SqL.of LI,FG,SqL.of gc,rc,zQ,λr1 n1 G1 s1 h1 g1 v1=>?_⟩;refine⟨_,rfl,_,rfl,b,zs,rfl,SqL.of (s1 _ _ gb),λp1 BC=>?_⟩;rw[m4];have t1:=ad BC (.lst (zs.drop 1));refine⟨_,rfl,_,rfl,b0,FL,rfl,SqL.of ((Same.trans s1 t1) _ _ HH),λp2 zZ=>?_⟩;rw[m4];have t2:=ad zZ (.lst (FL.drop 1));have s2:=Same.trans s1 (Same.trans t1 t2);have NJ:=(Same.trans t1 t2) _ _ g1;refine⟨p1,p2,_,_,rfl,SqL.of (t2 _ _ ac),SqL.of ac,λD hD=>?_⟩;have UR:(upd (upd G1 p1 (.lst (zs.drop 1))) p2 (.lst (FL.drop 1))) p1=some (.lst (zs.drop 1)):=t2 _ _ ac;have US:(upd (upd G1 p1 (.lst (zs.drop 1))) p2 (.lst (FL.drop 1))) p2=some (.lst (FL.drop 1)):=ac;generalize upd (upd G1 p1 (.lst (zs.drop 1))) p2 (.lst (FL.drop 1))=G2 at s2 NJ hD UR US ⊢;have ld:=lb.drop1;have UT:=DW.drop1;refine ua (K:=K) (a:=p1) (b:=p2) (xs:=zs.drop 1) (ws:=FL.drop 1) (by rw[ld.1,UT.1]) (λi ys G=>Same G2 G/\G D=some (.lst ys)/\qw (bi (jc H G) D) n i (λc=>m5 n Wr R W0 (c+1)) ys)
  ⟨ad hD _,ac,.nil⟩ (λi ys G z=>z.2.1) (λi ys G _ z=>⟨SqL.of (z.1 _ _ UR),SqL.of (z.1 _ _ US)⟩) ?_ ?_ ?_
 ·intro i ys G hi zE;obtain⟨sG,gD,ly⟩:=zE;have yl:=ly.1;rw[ld.1]at hi;exact be (by lia)
 ·intro i x y t ys G hx hy zE ht;obtain⟨sG,gD,ly⟩:=zE;obtain⟨c3,ns3,rfl,gc3,rv3⟩:=(ld.2 i x hx).mono (Same.trans s2 sG);obtain⟨c4,ns4,rfl,gc4,rv4⟩:=(UT.2 i y hy).mono (Same.trans s2 sG);have tt:=ad ht (.tup [.ref c3,.ref c4]);refine⟨t,_,rfl,SqT.of ac,rfl,_,_,rfl,_,_,rfl,rfl,⟨[some _,some _],rfl,rfl⟩,?_⟩;refine⟨_,rfl,_,rfl,_,rfl,n,r1,c4,n1,ns4,_,_,rfl,SqL.of ((Same.trans sG tt) _ _ NJ),v1,SqL.of (tt _ _ gc4),rv4,zQ,λr5 n5 G5 s5 h5 g5 v5=>?_⟩;have s3:=Same.trans tt s5;refine⟨n,c3,r5,ns3,n5,_,_,rfl,SqL.of (s3 _ _ gc3),rv3,SqL.of g5,v5,zQ,λr6 n6 G6 s6 h6 g6 v6=>?_⟩;have s4:=Same.trans s3 s6;have QG:r6≠D:=λe=>(by subst e;rw[s3 _ _ gD]at h6;cases h6);refine⟨s4 _ _ gD,Same.put (Same.trans sG s4) hD _,ac,?_⟩;rw[L3];refine(cu (dj (Bv s4)) ly).snoc ⟨r6,n6,rfl,by rw[bp QG,A4 (Same.free (Same.trans s2 (Same.trans sG s3)) h6)];exact g6,?_⟩;show RelP n n6 (m5 n Wr R W0 (i+1));unfold m5;rw[if_neg (by lia)];exact v6
 ·intro ys G zE;obtain⟨sG,gD,ly⟩:=zE;rw[ld.1]at ly;have yl:=ly.1;refine⟨_,rfl,sz1,λp3 AG=>?_⟩;have t3:=ad AG (.lst [.ref r1]);refine⟨_,rfl,p3,D,_,_,rfl,rfl,ac,t3 _ _ gD,small (by show 1+_<=_;lia),λp4 ER=>?_⟩;have t4:=ad ER (.lst ([.ref r1]++ys));have QI:=Same.trans t3 t4;have sT:=Same.trans s2 (Same.trans sG QI);have FM:G p4=none:=Same.free t3 ER;refine q p4 _ _ sT (Same.free (Same.trans s2 sG) FM) ac ?_;rw[jB k 1];have UU:jc H G p4=none:=by
   cases e:jc H G p4 with
   |none=>rfl
   |some o=>rw[(og e).2]at FM;cases FM
  refine LstP.append (k:=1) (k':=k) (.one ⟨r1,n1,rfl,?_,?_⟩) (cu (Same.trans hide_le (qc (Bv QI) UU)) ly) λc y hc z=>?_
  ·rw[bp (am NJ (Same.free sG FM)),A4 h1];exact(Same.trans sG QI) _ _ NJ
  ·unfold m5;rw[if_pos rfl];exact v1
  ·rw[jB 1 c];exact z
theorem Ph:au ["ways","anew","rows"] ["ways"] (aj vk):=fsN
def Q3:gM:={ kind:=.function,names:=[(".0",.local),("row",.local),("again_row",.globalImplicit),("anew",.free),("ways",.free)],isGenerator:=false,isCoroutine:=false,more:=[] }
theorem cAw_ {CX:CXT}{f:Addr}{zH:aB}{A:cQ}{outer:List Env}{s:aG}{H:Hp}{E:XK} :
  bv (bb CX P w K mg base ["ways","anew","rows"] "again_ways" (aj vk) f zH A outer s H E).nox ["row"] ["anew","ways"] [1,0] Q3 [("ways",s.heap.objs.size+1),("anew",s.heap.objs.size+1+1)]:=csN [(".0",.local),("row",.local),("again_row",.globalImplicit),("anew",.cell),("ways",.cell)]
theorem Vo {f:Addr}{fd:bX}(F:Fun K "again_ways" "again_ways" vk f fd)(hA:Has P w K mg base 2 "again_and_again" ["relation"] (Cm Star K))(hR:Has P w K mg base 3 "again_row" ["row","anew","start"] Q0) :
  FnOk P w K mg base CX0 4 f fd ["ways"] Q1:=by
 obtain⟨fA,dA,GA,bA,kA,mA⟩:=hA;obtain⟨fR,dR,GR,bR,kR,mR⟩:=hR;refine F.ok Ph (λvs H Q E h=>?_) (λzH A outer s H vs Q E hr h=>?_)
 ·obtain⟨n,k,W,x,rfl,_⟩:=h;rfl
 obtain⟨n,k,W,x,rfl,w1,AW,zQ,q⟩:=h;refine⟨_,ag (av (i:=1) Ph.nd rfl (mZ rfl) (ao GA (hr.mono (by decide)) rfl mA kA bA .nil aw (aa (aq ar (aq ar (pv 0) af (λ_ _=>rfl)) af (λ_ _=>rfl)) ae))) (ag (i9 (i0:=2) (ns:=["row"]) (ys:=["anew","ways"]) (sc:=Q3) Ph.nd rfl rfl cAw_ rfl (cf (pv 0)) (λC s H fp=>ba (i:=0) (by show(["row","anew","ways"]:List Str).Nodup;decide +kernel) rfl (cD rfl)) (λC s H fp=>cx) (λC s H fp=>ao GR hr rfl mR kR bR .nil aw (aa (pv 0) (aa (pv 1) (aa (aq (r:=An K) ar (pv 2) af (λ_ _=>rfl)) ae))))) (ag (fw (pv 1) (iq (aq ar (pv 2) af (λ_ _=>rfl)) af w8)) (ah (ax (pv 2))))),?_⟩;dsimp only[bb,Cx.nox];obtain⟨a,xs,rfl,ga,la⟩:=id w1;obtain⟨_,e0,b0,FL,rfl,HH,DW⟩:=la.at (c:=0) (by lia);obtain⟨_,f0,c0,ns0,rfl,gc0,rv0⟩:=DW.at (c:=0) (by lia);have xl:=la.1;refine⟨_,rfl,a,_,_,_,rfl,rfl,SqL.of ga,bf (j:=0) e0,b0,_,_,_,rfl,rfl,SqL.of HH,bf (j:=0) f0,n,c0,ns0,_,rfl,SqL.of gc0,rv0,zQ,λr1 n1 G1 s1 h1 g1 v1=>?_⟩;refine⟨_,rfl,a,rfl,⟨_,SqL.of (s1 _ _ ga)⟩,λD hD=>?_⟩;refine di (K:=K) (a:=a) (xs:=xs) (λi ys G=>Same G1 G/\G D=some (.lst ys)/\((i=0/\ys=[])\/∃(b:Addr)(us rest:List V),i=rest.length+1/\ys=.ref b::rest/\G1 b=none/\b≠D/\G b=some (.lst us)/\qw (bi (bi G D) b) n (k+1) (m5 n (W 0) (Star n (W 0 0)) (W 0)) us/\LstP (λd=>RowAt (bi (bi G D) b) n (k+1) (m5 n (W (d+1)) (Star n (W 0 0)) (W 0))) rest.length rest))
  ⟨ad hD _,ac,.inl ⟨rfl,rfl⟩⟩ (λi ys G z=>z.2.1) (λi ys G _ z=>SqL.of (z.1 _ _ (s1 _ _ ga))) ?_ ?_
 ·intro i x ys G hx zE;obtain⟨sG,gD,LN⟩:=zE;have hi:i < k+1:=(by rw[<-xl];exact(aL.mp hx).1);have sA:=Same.trans s1 sG;have yl:ys.length=i:=by
   rcases LN with⟨rfl,rfl⟩ | ⟨b,us,rest,e,rfl,_⟩
   ·rfl
   ·rw[e];rfl
  refine⟨be (by lia),⟨[some _],rfl,rfl⟩,?_⟩;refine⟨_,rfl,_,rfl,_,rfl,a,_,_,_,rfl,rfl,SqL.of (sA _ _ ga),bf (j:=0) e0,n,k,W i,W 0,_,x,.ref r1,.ref b0,rfl,(la.2 i x hx).mono sA,⟨r1,n1,rfl,sG _ _ g1,v1⟩,⟨b0,FL,rfl,sA _ _ HH,cu sA DW⟩,AW,zQ,λr us G2 s2 h2 g2 l2=>?_⟩;have rD:r≠D:=λe=>(by subst e;rw[gD]at h2;cases h2);refine⟨s2 _ _ gD,Same.put (Same.trans sG s2) hD _,ac,.inr ?_⟩;rcases LN with⟨rfl,rfl⟩ | ⟨b,us',rest,e,rfl,hb,bD,gb,lu,lr⟩
  ·refine⟨r,us,[],rfl,rfl,Same.free sG h2,rD,by rw[ai rD];exact g2,?_,.nil⟩;rw[gh];exact cu (dj (ub gD Gj)) l2
  ·have rb:r≠b:=λe=>(by subst e;rw[gb]at h2;cases h2);refine⟨b,us',rest++[.ref r],(by rw[aO,e];rfl),rfl,hb,bD,(by rw[ai bD];exact s2 _ _ gb),?_,?_⟩
   ·rw[gh];exact cu (dj (dj s2)) lu
   ·rw[gh,aO];refine(lr.imp λd y _ z=>z.mono (dj (dj s2))).snoc ⟨r,us,rfl,by rw[bp rb,bp rD];exact g2,?_⟩;have ei:W (rest.length+1)=W i:=(by rw[e]);rw[ei];exact cu (Same.trans hide_le (ub gb (ub gD Gj))) l2
 ·intro ys G zE;obtain⟨sG,gD,LN⟩:=zE;rw[xl]at LN;rcases LN with⟨z,_⟩ | ⟨b,us,rest,e,rfl,hb,bD,gb,lu,lr⟩
  ·lia
  have ul:=lu.1;have er:rest.length=k:=(by lia);refine⟨_,rfl,_,rfl,D,_,_,_,rfl,rfl,SqL.of gD,bf (j:=0) rfl,b,us,0,0,rfl,rfl,gb,?_,?_⟩
  ·unfold ixN;rw[ul,if_pos (by decide),if_pos (by lia)];rfl
  have hbH:H b=none:=Same.free s1 hb;refine⟨_,rfl,q _ _ (Same.put (Same.trans s1 sG) hbH _) ⟨D,.ref b::rest,rfl,by rw[ai (Ne.symm bD)];exact gD,?_⟩⟩;have sP:Same (bi (bi G D) b) (upd G b (.lst (us.set 0 (.ref r1)))):=λc o z=>by
   have hc:c≠b:=λw=>(by subst w;unfold bi at z;rw[if_pos rfl]at z;cases z);rw[ai hc];exact hide_le _ _ (hide_le _ _ z)
  have AF:r1≠b:=am g1 hb;rw[jB k 1];refine LstP.append (k:=1) (k':=k) (xs:=[.ref b]) (.one ⟨b,_,rfl,ac,?_⟩) (er ▸ lr) λd y hd z=>?_
  ·rw[jB 1 k];refine LstP.set lu ⟨r1,n1,rfl,by rw[ai AF];exact sG _ _ g1,?_⟩ λc y hc h0 z=>?_
   ·unfold nv;rw[if_pos rfl,if_pos rfl];exact v1
   ·unfold nv;unfold m5 at z;rw[if_neg h0]at z ⊢;exact z.mono sP
  ·rw[jB 1 k];refine(z.mono sP).eq λc hc=>?_;unfold nv m5;rw[jB 1 d];by_cases h0:c=0
   ·rw[if_pos h0,if_pos h0,if_neg (by lia)]
   ·rw[if_neg h0,if_neg h0]
end
end S23
namespace L2
open PySem PySem.Spec PyProof.Rows
def Itv (K:aC)(a:Addr)(n:Nat):It:=
 ⟨λi H=>∃xs x,SqL K H a xs/\xs.length=n/\i < n/\xs[n - 1 - i]?=some x,λi H x H'=>H'=H/\∀xs,SqL K H a xs->xs[n - 1 - i]?=some x,λi _=>n<=i⟩
theorem Pi {P:aP}{w:aW}{K:aC}{tg:Expr}(a it:Addr)(n:Nat):tm P w K tg (Itv K a n) [it] it (λi h=>i<=n/\h.IsRevIter it a ((n:Int) - 1 - (i:Int))) where
 mem:=by simp
 obj:=λi h st b hb=>by
  have e:b=it:=(by simpa using hb);subst e;obtain⟨_,o,e,c,d⟩:=st;exact⟨o,e,λv z=>by rw[d]at z;cases z⟩
 keep:=λi h h' st k=>⟨st.1,st.2.at λo e=>k it (by simp) o e⟩
 item:=by
  intro X hP hw hK hc i f' s σ H E I hf st hg;subst hP hw hK;obtain⟨xs,x,hq,hl,hi,hx⟩:=hg;obtain⟨its,rv,p,hz⟩:=I.list hq;obtain⟨u,hu,ru⟩:=rv.get hx;obtain⟨f0,f1,f2,f3,f4,f5⟩:=hf it (by simp);have e:(n:Int) - 1 - (i:Int)=((n - 1 - i:Nat):Int):=(by lia);have DJ:=st.2;rw[e]at DJ;refine wpAny_pyNext_rev_item DJ p.isList (x:=u) (by simpa using hu) λh' BT sb=>?_;have e2:((n - 1 - i:Nat):Int) - 1=(n:Int) - 1 - ((i+1:Nat):Int):=(by lia);rw[e2]at BT;have I1:Inv X f' σ H { s with heap:=h' }:=I.turned (t':=s.toks) (λb o hb e=>(sb.2 b hb).trans e) f0 f1 f3 f4 f5;obtain⟨o,e,c,d⟩:=id BT;exact⟨u,rfl,Cd (s:={ s with heap:=h' }) e c d (by decide) ⟨x,H,I1,ru,⟨rfl,λys hy=>by rw[I.list_inj hy hq];exact hx⟩,⟨hi,BT⟩,λb hb=>(hf b hb).1⟩⟩
 done:=by
  intro X hP hw hK hc i f' s σ H E I hf st hg;subst hP hw hK;have NK:n<=i:=hg;obtain⟨f0,f1,f2,f3,f4,f5⟩:=hf it (by simp);have e:(n:Int) - 1 - (i:Int)=-1:=(by have:=st.1;lia);have DJ:=st.2;rw[e]at DJ;exact wpAny_pyNext_rev_end (I.ok.hd hc) DJ λh' eb=>⟨rfl,I.turned (t':=s.toks) (λb o hb e=>eb b o hb e) f0 f1 f3 f4 f5⟩
 self:=λ_ _ _ _ _ st h=>wpAny_pyIter_revIter st.2 h
section
variable {X:Cx}
def iRev (K:aC)(ta:TA):TI:=λσ H R=>ta σ H λvs H1=>∃a xs,vs=[.ref a]/\SqL K H1 a xs/\R (Itv K a xs.length) H1
theorem Vp {tg e1:Expr}{ta:TA}{p pos:Pos}(hg:Gl X "reversed")(hm:X.mg "reversed"=none)(ha:PA X [e1] ta)(hs:cW [e1] X.env=[(false,eval e1 X.env)]:=by rfl)
  (BM:cW [] X.env=[]:=by rfl):PI X tg (.Call (.Name "reversed" p) [e1] [] pos) (iRev X.K ta):=by
 intro f' s σ H R I h;refine Call_ (ip I hg hm (by kernel_rfl:jI (iC "reversed")=some (.type "reversed")) (iL (thn (ha pos f' s σ H _ I h) λus s1 ⟨vs,H1,I1,r1,q1⟩=>?_) (by rw[hs,BM]) (by rw[BM];rfl)));obtain⟨a,xs,e,hx,q⟩:=q1;subst e;obtain⟨u,rfl,ru⟩:=jf r1;cases(show u=cE a from ru);obtain⟨its,k1,p1,_⟩:=I1.list hx;have l1:=k1.length;refine call_reversed_list (p1.isList) ?_;have e:((its.toArray.size:Nat):Int) - 1=((xs.length:Nat):Int) - 1 - ((0:Nat):Int):=(by simp;lia);rw[e];have rv:(s1.heap.push (revObj a (((xs.length:Nat):Int) - 1 - ((0:Nat):Int)))).IsRevIter s1.heap.objs.size a (((xs.length:Nat):Int) - 1 - ((0:Nat):Int)):=⟨_,bV _ rfl,rfl,rfl⟩;refine wpAny_pyIter_revIter rv ?_;refine⟨s1.heap.objs.size,[s1.heap.objs.size],_,_,H1,rfl,I1.kept (t':=s1.toks) λb o e=>aJ _ e,Pi a _ xs.length,⟨eV _,rv⟩,λb hb=>?_,q⟩;have e:b=s1.heap.objs.size:=(by simpa using hb);subst e;exact I1.fpOk (aN _) (I1.hok.fresh (aN _))
end
theorem S8 {K:aC}{a:Addr}{xs:List V}{g:TG}{tb:TS}{D:d6}{σ:St}{H:Hp}(Pv:Nat->St->Hp->Prop)(h0:Pv 0 σ H)(hl:∀i σ H,i<=xs.length->Pv i σ H->SqL K H a xs)
  (hs:∀i x σ H,xs.reverse[i]?=some x->Pv i σ H->g x σ H λσ2 H2=>tb { D with nx:=Pv (i+1),ct:=Pv (i+1),bk:=D.nx } σ2 H2) (hd:∀σ H,Pv xs.length σ H->D.nx σ H) :
  ∃W:Nat->Nat->St->Hp->Prop,(∃m,W 0 m σ H)/\∀i m σ H,W i m σ H->
   ((Itv K a xs.length).stop i H/\D.nx σ H)\/((Itv K a xs.length).go i H/\∃N:St->Hp->Prop,(∀σ' H',N σ' H'->∃m',m' < m/\W (i+1) m' σ' H')/\∀x H',(Itv K a xs.length).yld i H x H'->g x σ H' λσ2 H2=>tb { D with nx:=N,ct:=N,bk:=D.nx } σ2 H2):=by
 refine⟨λi m σ H=>i+m=xs.length/\Pv i σ H,⟨xs.length,by lia,h0⟩,?_⟩;intro i m σ H zE;obtain⟨e,p⟩:=zE;have q1:=hl i σ H (by lia) p;by_cases hi:i < xs.length
 ·have ex:xs[xs.length - 1 - i]?=some xs[xs.length - 1 - i]:=aK (by lia);refine .inr ⟨⟨xs,_,q1,rfl,hi,ex⟩,Pv (i+1),λσ' H' p'=>⟨m - 1,by lia,by lia,p'⟩,?_⟩;intro x H' zE;obtain⟨rfl,eu⟩:=zE;exact hs i x σ _ (by rw[sS hi];exact eu xs q1) p
 ·have e':i=xs.length:=(by lia);subst e';exact .inl ⟨aN _,hd σ H p⟩
section
variable {X:Cx}{f':List (Addr×Obj)}{σ:St}{H:Hp}{s:aG}
theorem zn {prog:aP}{w:aW}:∀{x:List Int}{its:List aB},Vals (x.map V.int) its->PySem.ItemsAre (eF prog w) x its
 | [],_,r=>by cases r;exact .nil
 |n::x,_,r=>by
  cases r with
  |cons h t=>
   obtain⟨tk,rfl⟩:=(show ∃t,_=nI n t from h);exact .cons (by show jL n (nI n tk)=true;simp[jL]) (zn t)
theorem Inv.key (I:Inv X f' σ H s)(prog:aP)(w:aW){a:Addr}{x:List Int}(h:SqT X.K H a (x.map V.int)):eQ (eF prog w) s.heap x a:=by
 obtain⟨its,r,p,_⟩:=I.tuple h;obtain⟨o,h1,h2,n,h3⟩:=p;exact⟨o,its.toArray,n,h1,h2,h3,by simpa using zn r⟩
theorem Inv.eqT (I:Inv X f' σ H s){A:cQ}(hu:A.units < iK){a b:Addr}{x y:List Int}(ha:SqT X.K H a (x.map V.int))(hb:SqT X.K H b (y.map V.int)):yR A s (.ref a) (.ref b) (decide (x=y)):=
 λprog w _ _ hq=>rB hu (I.key prog w ha) (I.key prog w hb) hq
theorem Inv.tup_inj (I:Inv X f' σ H s){a:Addr}{x y:List Int}(ha:SqT X.K H a (x.map V.int))(hb:SqT X.K H a (y.map V.int)):x=y:=
 (I.key X.prog X.w ha).inj (I.key X.prog X.w hb)
def Gm (K:aC):V->List V->Hp->VK->Prop:=λx vs H Q=>∃(a b:Addr)(xs:List V) (ls:List (List Int)) (l:List Int),x=.ref a/\vs=[.ref b]/\SqL K H a xs/\Paired (λy m=>∃c,y=.ref c/\SqT K H c (m.map V.int)) xs ls/\
 SqT K H b (l.map V.int)/\l∈ls/\Q (.int (ls.idxOf l:Nat)) H
theorem Bw {α β:Type}{F:α->β->Prop}:∀{xs:List α}{ys:List β},Paired F xs ys->∀{i:Nat}{x:α},xs[i]?=some x->∃y,ys[i]?=some y/\F x y
 |_,_,.nil,i,x,e=>by simp at e
 |_,_,.cons h _,0,x,e=>by simp at e;subst e;exact⟨_,rfl,h⟩
 |_,_,.cons _ t,i+1,x,e=>by simpa using Bw t (i:=i) (x:=x) (by simpa using e)
theorem Ec {α:Type}[BEq α][LawfulBEq α]{l:α}:∀{ls:List α}{m:Nat},m < ls.idxOf l->∀(hm:m < ls.length),ls[m]≠l
 | [],m,h,hm=>absurd hm (nR _)
 |x::xs,m,h,hm=>by
  rw[List.idxOf_cons]at h;by_cases e:x == l
  ·rw[e]at h;exact absurd h (nR _)
  ·have e':(x == l)=false:=(by simpa using e);rw[e']at h;cases m with
   |zero=>simpa using e
   |succ m=>exact Ec (ls:=xs) (m:=m) (by simpa using h) (by simpa using hm)
open Classical in
theorem Ed (hu:X.A.units+8 < iK):MtM X "list.index" (Gm X.K):=by
 intro f' s σ H x vs v us Q I rx rv h;obtain⟨a,b,xs,ls,l,rfl,rfl,hx,hp,hb,hm,q⟩:=h;cases rx;obtain⟨u,rfl,ru⟩:=jf rv;cases(show u=cE b from ru);obtain⟨its,r,p,hz⟩:=I.list hx;obtain⟨⟨cls,dd,data,sl⟩,ho,hc,n,hd⟩:=p.isList;simp only at hc hd;subst hc hd;have zJ:xs.length=ls.length:=Paired.length hp;have NH:=r.length;have hj:ls.idxOf l < ls.length:=kK.mpr hm
 let e:aB->Bool:=λy=>decide (∃c,y=.ref c/\SqT X.K H c (l.map V.int))
 have key:∀(m:Nat)(hm:m < its.length) (LO:m < ls.length),(∃c,its[m]=.ref c/\SqT X.K H c (ls[m].map V.int))/\e its[m]=decide (ls[m]=l):=λm hm LO=>by
  have NL:xs[m]?=some (xs[m]'(by lia)):=aK (by lia);obtain⟨y,ey,c,ec,sc⟩:=Bw hp NL;obtain⟨w,ew,DB⟩:=r.get NL;rw[aK LO]at ey;rw[aK hm]at ew;cases ey;have ew':its[m]=w:=eA ew;rw[ec]at DB;have UV:its[m]=.ref c:=ew'.trans DB;refine⟨⟨c,UV,sc⟩,?_⟩;show decide (∃c',its[m]=.ref c'/\SqT X.K H c' (l.map V.int))=decide (ls[m]=l);rw[decide_eq_decide,UV];constructor
  ·intro zE;obtain⟨c',e1,s1⟩:=zE;cases e1;exact I.tup_inj sc s1
  ·intro e1;exact⟨c,rfl,by rw[<-e1];exact sc⟩
 have hb63:=lg;refine pU mQ ⟨_,ho,rfl⟩ PySem.F.entry_list_index (PySem.F.args_list_index_2 _ _)
  (SeqAt.list_indexAt a its.toArray n dd sl (.ref b) e (ls.idxOf l) (by simp;lia) (by lia) ?_ ?_) ⟨ho,λy hy=>?_,⟨.int _,H,I.tok _,⟨_,rfl⟩,q⟩⟩
 ·rw[oE,(key _ (by lia) hj).2];simp[pC]
 ·intro m QJ zR;rw[oE,(key m (by simpa using QJ) (by lia)).2];rw[decide_eq_false_iff_not];exact λe1=>Ec zR (by lia) e1
 ·obtain⟨m,hm,rfl⟩:=Array.mem_iff_getElem.mp hy;have LP:m < its.length:=(by simpa using hm);obtain⟨⟨c,ec,sc⟩,ee⟩:=key m LP (by lia);rw[oE,ee,ec];refine I.eqT ?_ sc hb;show X.A.units+1 < iK;lia
theorem L5 {K:aC}(hK:X.K=K)(hu:X.A.units+8 < iK):MtR X "list.index" (Gm K):=by
 subst hK;exact Ed hu
theorem L6 {K:aC}{T:String}{name:Str}{id:String}{r:V->List V->Hp->VK->Prop}{o e:Expr}{es:List Expr}{to:TE}{t:TA}{AA zS:Pos}(hK:X.K=K)(pa:wY T)(slot:Slot T name id)(IF:typeOf (.builtin id)=pure (.type "method_descriptor"))(hm:MtR X id r)(ho:PE X o to)(ha:PA X (e::es) t)
  (A':oR o name X.env (eval o X.env)=eval o X.env:=by rfl)
  (IG:((jJ zS (cW (e::es) X.env)).all (λx=>!x.1) && (vR zS (rY [] X.env)).all (λx=>x.1.isSome) && decide ((e::es).length+([]:List vL).length+(if ([]:List vL).isEmpty then 0 else 1) < 30))=true:=by rfl)
  (BA:(AA.endLine == zS.line)=true:=by rfl) (hs:cW (e::es) X.env=(false,eval e X.env)::cW es X.env:=by rfl) (CK:(jJ zS (cW es X.env)).any (·.1)=false:=by rfl) :
  PE X (.Call (.Attribute o name AA) (e::es) [] zS) (tBM K T r to t):=by
 subst hK;exact mw pa slot IF hm ho ha A' IG BA hs CK
theorem S9 {K:aC}{T:String}{name:Str}{id:String}{r:V->List V->Hp->VK->Prop}{o:Expr}{to:TE}{AA zS:Pos}(hK:X.K=K)(pa:wY T)(slot:Slot T name id)(IF:typeOf (.builtin id)=pure (.type "method_descriptor"))(hm:MtR X id r)(ho:PE X o to)
  (A':oR o name X.env (eval o X.env)=eval o X.env:=by rfl) (BA:(AA.endLine == zS.line)=true:=by rfl):PE X (.Call (.Attribute o name AA) [] [] zS) (Ut K T r to):=by
 subst hK;exact yp pa slot IF hm ho A' BA
end
end L2
namespace S1
theorem A5 {zN:List (List Int)}{c:Nat}{m:List Int}:m∈longer zN c↔∃l∈zN,∃v:Nat,v < c/\m=l++[(v:Int)]:=by
 constructor
 ·exact m3
 ·intro zE;obtain⟨l,hl,v,hv,rfl⟩:=zE;exact List.mem_flatMap.mpr ⟨l,hl,List.mem_map.mpr ⟨v,iI.mpr hv,rfl⟩⟩
def J0 (cs:List Nat)(l:List Int):Prop:=l.length=cs.length/\∀(i:Nat)(v:Int),l[i]?=some v->∃c,cs[i]?=some c/\0<=v/\v < (c:Int)
theorem Bx {cs:List Nat}{c:Nat}{l:List Int}{v:Int}:J0 (cs++[c]) (l++[v])↔J0 cs l/\0<=v/\v < (c:Int):=by
 constructor
 ·intro zE;obtain⟨h1,h2⟩:=zE;have hl:l.length=cs.length:=(by simpa using h1);refine⟨⟨hl,λi u hi=>?_⟩,?_⟩
  ·have zR:=(aL.mp hi).1;obtain⟨d,hd,r⟩:=h2 i u (by rw[eB zR];exact hi);rw[eB (by lia)]at hd;exact⟨d,hd,r⟩
  ·obtain⟨d,hd,r⟩:=h2 l.length v (by simp);rw[hl]at hd;have:c=d:=(by simpa using hd);subst this;exact r
 ·intro zE;obtain⟨⟨h1,h2⟩,h3⟩:=zE;refine⟨by simp[h1],λi u hi=>?_⟩;rcases Nat.lt_trichotomy i l.length with q | q | q
  ·rw[eB q]at hi;obtain⟨d,hd,r⟩:=h2 i u hi;exact⟨d,by rw[eB (by lia)];exact hd,r⟩
  ·subst q;have e:v=u:=(by simpa using hi);subst e;exact⟨c,by rw[h1];simp,h3⟩
  ·rw[jV (by rw[aO,eX];lia)]at hi;cases hi
theorem Fh (cs:List Nat)(l:List Int):l∈c7 cs↔J0 cs l:=by
 suffices z:∀(ds:List Nat)(l:List Int),l∈c7 ds.reverse↔J0 ds.reverse l by
  have:=z cs.reverse l
  rwa [oC]at this
 intro ds
 induction ds with
 |nil=>
  intro l;show l∈[[]]↔_;rw[aY];constructor
  ·rintro rfl;exact⟨rfl,λi v e=>by simp at e⟩
  ·rintro⟨h,_⟩;exact iB.mp h
 |cons c cs ih=>
  intro l;rw[iZ,nn,A5];constructor
  ·intro zE;obtain⟨m,hm,v,hv,rfl⟩:=zE;exact Bx.mpr ⟨(ih m).mp hm,by lia,by lia⟩
  ·intro h;have hl:l≠[]:=λe=>(by rw[e]at h;have:=h.1;simp at this);obtain⟨m,v,rfl⟩:∃m v,l=m++[v]:=⟨l.dropLast,l.getLast hl,(List.dropLast_concat_getLast hl).symm⟩;obtain⟨h1,h2,h3⟩:=Bx.mp h;exact⟨m,(ih m).mpr h1,v.toNat,by lia,by rw[Int.toNat_of_nonneg h2]⟩
theorem Vq {a b:List Int}(h:HT.lexLt a b=true):a≠b:=by
 intro zE;subst zE
 induction a with
 |nil=>cases h
 |cons x r ih=>rw[HT.lexLt_cons,if_pos rfl]at h;exact ih h
theorem ig (cs:List Nat):(c7 cs).Nodup:=(fk cs).ord.imp λh=>Vq h
theorem Fi {cs:List Nat}{l:List Int}{i:Nat}{v:Int}{c:Nat}(hl:l∈c7 cs)(hc:cs[i]?=some c)(h0:0<=v)(h1:v < (c:Int)):l.set i v∈c7 cs:=by
 rw[Fh]at hl ⊢;refine⟨by rw[wG];exact hl.1,λj u e=>?_⟩;rw[List.getElem?_set]at e
 split at e
 ·rename_i hj
  subst hj
  split at e
  ·cases e;exact⟨c,hc,h0,h1⟩
  ·cases e
 ·exact hl.2 j u e
theorem J1 {cs:List Nat}(h6:∀c∈cs,c<=6)(h3:cs.length<=3):(c7 cs).length<=216:=by
 rw[i8];exact bQ (Db cs h6) (bQ (pY (by decide) h3) (by decide))
end S1
namespace S23
open PySem L2 Bits S1 Fly
theorem FnOk.calm {P:aP}{w:aW}{K:aC}{mg:Str->Option aB}{base:Heap}{k:Nat}{f:Addr}{fd:bX}{ps:List Str}{sp DO:Sp}(F:FnOk P w K mg base (CXx P w) k f fd ps sp)
  (h:∀vs H Q E,DO vs H Q E->sp vs H Q (λ_ _ _=>False)):FnOk P w K mg base CX0 k f fd ps DO where
 len:=λvs H Q E z=>F.len vs H Q _ (h vs H Q E z)
 run:=λA outer s H args us vs Q E hr e b r z=>nJ (F.run A outer s H args us vs Q _ hr e b r (h vs H Q E z)) λq s'=>by
  cases q with
  |error e=>intro hx;obtain⟨_,_,_,_,_,_,_,_,_,_,_,_,_,_,f⟩:=hx;exact f
  |ok fl=>cases fl<;>exact id
def isR (ls:List (List Int))(p:Nat)(v:Int):Rl:=λi j=>j=i/\∃l,ls[i]?=some l/\l[p]?=some v
def xj (ls:List (List Int))(p:Nat)(v:Int):Rl:=λi j=>∃l,ls[i]?=some l/\ls[j]?=some (l.set p v)
def Can (ls:List (List Int))(p:Nat)(v:Int):Prop:=ls.Nodup/\ls.length<=300/\∀l∈ls,l.length<=10/\p < l.length/\l.set p v∈ls
def Co (T:List (List Int)->Nat->Int->Rl)(K:aC):Sp:=λvs H Q _=>∃(r:Addr)(ls:List (List Int)) (p:Nat) (v:Int),vs=[.ref r,.int (p:Int),.int v]/\LetAt K H r ls/\Can ls p v/\A3 ls.length (T ls p v) H Q
theorem hu8 {A:cQ}{k:Nat}(hr:Room k A):A.units+8 < iK:=jY (Nat.add_le_add_left (by decide:8<=64) _) hr.units
theorem oy {K:aC}{H:Hp}:∀{xs:List V}{ls:List (List Int)},Holds K H xs (ls.map fj)->Paired (λy m=>∃c,y=.ref c/\SqT K H c (m.map V.int)) xs ls
 |_,[],h=>by cases h;exact .nil
 |_,l::ls,h=>by
  cases h with
  |cons h1 t=>
   obtain⟨a,zs,rfl,ha,AH⟩:=Hold.tupI h1;have ez:zs=l.map V.int:=AH.ints;subst ez;exact .cons ⟨a,rfl,ha⟩ (oy t)
section
variable {P:aP}{w:aW}{K:aC}{mg:Str->Option aB}{base:Heap}
theorem scIr:au ["letters","place","value"] ["letters","place","value"] (aj Jb):=fsN
def Q4:gM:={ kind:=.function,names:=[(".0",.local),("at",.local),("letter",.local),("place",.free),("value",.free)],isGenerator:=false,isCoroutine:=false,more:=[] }
theorem cIr_ {CX:CXT}{f:Addr}{zH:aB}{A:cQ}{outer:List Env}{s:aG}{H:Hp}{E:XK} :
  bv (bb CX P w K mg base ["letters","place","value"] "is_relation" (aj Jb) f zH A outer s H E).nox ["at","letter"] ["place","value"] [1,2] Q4 [("value",s.heap.objs.size+1+1),("place",s.heap.objs.size+1)]:=csN [(".0",.local),("at",.local),("letter",.local),("place",.cell),("value",.cell)]
theorem Vr {f:Addr}{fd:bX}(F:Fun K "is_relation" "is_relation" Jb f fd)(me:mg "enumerate"=none):FnOk P w K mg base CX0 1 f fd ["letters","place","value"] (Co isR K):=by
 refine F.ok scIr (λvs H Q E h=>?_) (λzH A outer s H vs Q E hr h=>?_)
 ·obtain⟨r,ls,p,v,rfl,_⟩:=h;rfl
 obtain⟨r,ls,p,v,rfl,⟨xs,AF,BK⟩,⟨nd,l300,JZ⟩,q⟩:=h;refine⟨_,ah (ax (dy (ns:=["at","letter"]) (ys:=["place","value"]) (sc:=Q4) cIr_ rfl (xg rfl me (aa (pv 0) ae)) (λC s H fp=>pg2 rfl) (λC s H fp=>cx) (λC s H fp=>wz (bc dh (aq (r:=Ie K) bx (pv 1) (pv 2) (λ_ _=>rfl)) (pv 3) (bg _)) (ay yg af (pv 0)) af))),?_⟩;dsimp only[bb,Cx.nox];have xl:xs.length=ls.length:=(by rw[BK.length,aI]);refine⟨_,rfl,r,_,rfl,SqL.of AF,λD hD=>?_⟩;refine qt (K:=K) (a:=r) (xs:=xs) (λi ys G=>Same H G/\G D=some (.lst ys)/\∃us:List Int,ys=us.map V.int/\PartP ls.length us i (isR ls p v)) ⟨ad hD _,ac,[],rfl,.nil⟩ (λi ys G z=>z.2.1) (λi ys G _ z=>SqL.of (z.1 _ _ AF)) ?_ ?_ ?_
 ·intro i ys G hi zE;obtain⟨sG,gD,us,rfl,up⟩:=zE;have ul:=up.1;exact be (by rw[aI];lia)
 ·intro i x t ys G hx zE ht;obtain⟨sG,gD,us,rfl,up⟩:=zE;obtain⟨l,el,hl⟩:=BK.getm hx;obtain⟨a,zs,rfl,ha,AH⟩:=Hold.tupI hl;have ez:zs=l.map V.int:=AH.ints;subst ez;have hi:i < ls.length:=(aL.mp el).1;obtain⟨_,hp,_⟩:=JZ l (bK el);have Dt:D≠t:=am gD ht;have tt:=ad ht (.tup [.int (i:Int),.ref a]);refine⟨t,_,rfl,SqT.of ac,rfl,_,_,rfl,_,_,rfl,rfl,⟨[some _,some _],rfl,rfl⟩,?_⟩;have vp:(l.map V.int)[p]?=some (.int l[p]):=(by rw[cY,aK hp];rfl);refine⟨_,rfl,_,rfl,a,_,_,_,rfl,rfl,ha.same (Same.trans sG tt),bf vp,_,rfl,rfl,_,rfl,?_⟩;generalize CG:upd G t (.tup [.int (i:Int),.ref a])=G2;have JV:Same H G2:=(by rw[<-CG];exact Same.put sG (Same.free sG ht) _);have CP:G2 D=some (.lst (us.map V.int)):=(by rw[<-CG,ai Dt];exact gD);have zL:∀y:Int,MaskP ls.length y (isR ls p v i)->G2 D=some (.lst (us.map V.int))/\Same H (upd G2 D (.lst (us.map V.int++[.int y])))/\upd G2 D (.lst (us.map V.int++[.int y])) D=some (.lst (us.map V.int++[.int y]))/\∃ws:List Int,us.map V.int++[.int y]=ws.map V.int/\PartP ls.length ws (i+1) (isR ls p v):=λy my=>
   ⟨CP,Same.put JV hD _,ac,us++[y],(by rw[cU];rfl),up.snoc my⟩
  refine cz (λc=>?_) (λc=>?_)
  ·have c':l[p]=v:=(by simpa using c);refine⟨_,rfl,_,_,rfl,rfl,⟨by lia,by lia,by decide⟩,?_⟩;have z:(1:Int) * 2 ^ ((i:Int)).toNat=2 ^ i:=(by rw[wP,gE]);have f1:=zL _ ((oa (n:=ls.length) (k:=i) hi).iff λj hj=>⟨λe=>⟨e,l,el,by rw[aK hp,c']⟩,λe=>e.1⟩);rw[<-z]at f1;exact f1
  ·have c':¬l[p]=v:=(by simpa using c);refine zL _ ((ja _).iff λj hj=>⟨λf=>f.elim,λzF=>?_⟩);obtain⟨_,l',e1,e2⟩:=zF;rw[el]at e1;cases e1;rw[aK hp]at e2;exact c' (eA e2)
 ·intro ys G zE;obtain⟨sG,gD,us,rfl,up⟩:=zE;rw[xl]at up;exact q D us G sG hD gD up
theorem Vs:au ["letters","place","value","put"] ["letters","place","value"] (aj yz):=fsN
def Q5:gM:={ kind:=.function,names:=[(".0",.local),("letter",.local),("place",.free),("value",.free)],isGenerator:=false,isCoroutine:=false,more:=[] }
theorem cPr_ {CX:CXT}{f:Addr}{zH:aB}{A:cQ}{outer:List Env}{s:aG}{H:Hp}{E:XK} :
  bv (bb CX P w K mg base ["letters","place","value","put"] "put_relation" (aj yz) f zH A outer s H E).nox ["letter"] ["place","value"] [1,2] Q5 [("value",s.heap.objs.size+1+1+1),("place",s.heap.objs.size+1+1)]:=csN [(".0",.local),("letter",.local),("place",.cell),("value",.cell)]
def L7:gM:={ kind:=.function,names:=[(".0",.local),("letter",.local),("letters",.free)],isGenerator:=false,isCoroutine:=false,more:=[] }
theorem Xe {CX:CXT}{f:Addr}{zH:aB}{A:cQ}{outer:List Env}{s:aG}{H:Hp}{E:XK} :
  bv (bb CX P w K mg base ["letters","place","value","put"] "put_relation" (aj yz) f zH A outer s H E).nox ["letter"] ["letters"] [0] L7 [("letters",s.heap.objs.size+1)]:=csN [(".0",.local),("letter",.local),("letters",.cell)]
theorem Gn (l:List Int)(p:Nat)(v:Int)(h:p < l.length):l.take p++v::l.drop (p+1)=l.set p v:=by
 rw[List.set_eq_take_append_cons_drop,if_pos h]
theorem Ta {f:Addr}{fd:bX}(F:Fun K "put_relation" "put_relation" yz f fd):FnOk P w K mg base CX0 1 f fd ["letters","place","value"] (Co xj K):=by
 refine F.ok Vs (λvs H Q E h=>?_) (λzH A outer s H vs Q E hr h=>?_)
 ·obtain⟨r,ls,p,v,rfl,_⟩:=h;rfl
 obtain⟨r,ls,p,v,rfl,⟨xs,AF,BK⟩,⟨nd,l300,JZ⟩,q⟩:=h;refine⟨_,ag (i9 (i0:=3) (ns:=["letter"]) (ys:=["place","value"]) (sc:=Q5) Vs.nd rfl rfl cPr_ rfl (cf (pv 0)) (λC s H fp=>ba (i:=0) (by show(["letter","place","value"]:List Str).Nodup;decide +kernel) rfl (cD rfl)) (λC s H fp=>cx) (λC s H fp=>ay (r:=λx y H Q=>io K x y H Q\/fz K x y H Q) j3 (ay (r:=λx y H Q=>io K x y H Q\/fz K x y H Q) j3 (bq (r:=ni K) pj (pv 0) cq (bw (pv 1))) (c9 (aa (pv 2) ae))) (bq (r:=ni K) pj (pv 0) (bw (ay ie (pv 1) af)) cq))) (ah (ax (dy (ns:=["letter"]) (ys:=["letters"]) (sc:=L7) Xe rfl (cf (pv 3)) (λC s H fp=>ba (i:=0) (by show(["letter","letters"]:List Str).Nodup;decide +kernel) rfl (cD rfl)) (λC s H fp=>cx) (λC s H fp=>ay yg af (L6 (K:=K) rfl fQ mQ rQ (L5 (K:=K) rfl (hu8 hr)) (pv 1) (aa (pv 0) ae)))))),?_⟩;dsimp only[bb,Cx.nox];have xl:xs.length=ls.length:=(by rw[BK.length,aI]);refine⟨_,rfl,r,rfl,⟨_,SqL.of AF⟩,λD hD=>?_⟩;refine di (K:=K) (a:=r) (xs:=xs) (λi ys G=>Same H G/\G D=some (.lst ys)/\Holds K G ys (((ls.take i).map λl=>l.set p v).map fj)) ⟨ad hD _,ac,.nil⟩ (λi ys G z=>z.2.1) (λi ys G _ z=>SqL.of (z.1 _ _ AF)) ?_ ?_
 ·intro i x ys G hx zE;obtain⟨sG,gD,hy⟩:=zE;obtain⟨l,el,hl⟩:=BK.getm hx;obtain⟨a,zs,rfl,ha,AH⟩:=Hold.tupI hl;have ez:zs=l.map V.int:=AH.ints;subst ez;have hi:i < ls.length:=(aL.mp el).1;obtain⟨h10,hp,_⟩:=JZ l (bK el);have yl:ys.length=i:=(by rw[hy.length,aI,aI,dJ];lia);refine⟨be (by lia),⟨[some _],rfl,rfl⟩,?_⟩;refine Oo (K:=K) (jl:=0) (ji:=1) (jv:=2) rfl rfl rfl (ha.same sG) hp (by lia) λb G' DP hb=>?_;have IS:=DP _ _ gD;refine⟨IS,Same.put (Same.trans sG DP) hD _,ac,?_⟩;have tk:ls.take (i+1)=ls.take i++[l]:=(by rw[eJ,el];rfl);rw[tk,cU,cU];refine Holds.append (Holds.stay ((Tups.of DP).trans (Tups.put IS _)) (by rw[rA];exact df (λ_=>gg _) _) hy) (.one (.tup (SqT.of ?_) (d0 _)));rw[ai (im hb IS (by intro z;cases z)),hb,Gn l p v hp]
 ·intro ys G zE;obtain⟨sG,gD,hy⟩:=zE;rw[xl,eZ]at hy;have yl:ys.length=ls.length:=(by rw[hy.length,aI,aI]);refine⟨_,rfl,D,rfl,⟨_,SqL.of gD⟩,λD2 EF=>?_⟩;refine di (K:=K) (a:=D) (xs:=ys) (λi zs G2=>Same G G2/\G2 D2=some (.lst zs)/\∃us:List Int,zs=us.map V.int/\PartP ls.length us i (xj ls p v)) ⟨ad EF _,ac,[],rfl,.nil⟩ (λi ys G z=>z.2.1) (λi ys G _ z=>SqL.of (z.1 _ _ gD)) ?_ ?_
  ·intro i x zs G2 hx zE;obtain⟨s2,CP,us,rfl,up⟩:=zE;have ul:=up.1;rw[rA]at hy;obtain⟨l,el,hl⟩:=hy.getm hx;have hi:i < ls.length:=(aL.mp el).1;obtain⟨a,ws,rfl,ha,hws⟩:=Hold.tupI hl;have ew:ws=(l.set p v).map V.int:=hws.ints;subst ew;obtain⟨_,_,EG⟩:=JZ l (bK el);have hj:ls.idxOf (l.set p v) < ls.length:=kK.mpr EG;refine⟨be (by rw[aI];lia),⟨[some _],rfl,rfl⟩,?_⟩;refine⟨_,rfl,.inl ⟨rfl,_,SqL.of ((Same.trans sG s2) _ _ AF)⟩,_,rfl,r,a,xs,ls,l.set p v,rfl,rfl,SqL.of ((Same.trans sG s2) _ _ AF),?_,ha.same s2,EG,_,_,rfl,rfl,⟨by lia,by lia,by decide⟩,?_⟩
   ·exact oy (Holds.mono (Same.trans sG s2) BK)
   ·have z:(1:Int) * 2 ^ (((ls.idxOf (l.set p v):Nat):Int)).toNat=2 ^ (ls.idxOf (l.set p v)):=(by rw[wP,gE]);dsimp only;rw[z];refine⟨CP,Same.put s2 EF _,ac,us++[2 ^ (ls.idxOf (l.set p v))],(by rw[cU];rfl),up.snoc ((oa hj).iff λj hjl=>?_)⟩;constructor
    ·intro zE;subst zE;exact⟨l,el,by rw[aK hj,pC]⟩
    ·intro zE;obtain⟨l',e1,e2⟩:=zE;rw[el]at e1;cases e1;have e3:ls[ls.idxOf (l.set p v)]?=some (l.set p v):=(by rw[aK hj,pC]);exact(List.getElem?_inj hjl nd).mp (e2.trans e3.symm)
  ·intro zs G2 zE;obtain⟨s2,CP,us,rfl,up⟩:=zE;rw[yl]at up;exact q D2 us G2 (Same.trans sG s2) (Same.free sG EF) CP up
end
section
variable {P:aP}{w:aW}
theorem J2 {H:Hp}{h:Heap}{u a:Addr}{xs:List V}{o:HO}(hu:H u=some (.lst xs))(x:ObjOk P w H h a o):ObjOk P w (bi H u) h a o:=by
 have ne:∀{b:Addr}{q:HO},H b=some q->(∀ys,q≠.lst ys)->bi H u b=some q:=λ{b q} e n=>by
  rw[bp (λz=>by subst z;rw[hu]at e;cases e;exact n xs rfl)];exact e
 induction o with
 |dT kvs=>
  obtain⟨z,y,vs,r,q⟩:=x;exact⟨z,y,vs,Paired.mapP r λ_ _ t=>⟨t.1,ne t.2.1 (λ_ e=>nomatch e),t.2.2⟩,q⟩
 |ins C dx fs=>exact⟨ne x.1 (λ_ e=>nomatch e),x.2⟩
 |frz ob v ih=>exact⟨x.1,ih x.2⟩
 |_=>exact x
theorem J3 {H:Hp}{h:Heap}{u a:Addr}{xs:List V}{o:HO}(hu:H u=none)(x:ObjOk P w H h a o):ObjOk P w (upd H u (.lst xs)) h a o:=by
 have ne:∀{b:Addr}{q:HO},H b=some q->upd H u (.lst xs) b=some q:=λ{b q} e=>by
  rw[ai (am e hu)];exact e
 induction o with
 |dT kvs=>
  obtain⟨z,y,vs,r,q⟩:=x;exact⟨z,y,vs,Paired.mapP r λ_ _ t=>⟨t.1,ne t.2.1,t.2.2⟩,q⟩
 |ins C dx fs=>exact⟨ne x.1,x.2⟩
 |frz ob v ih=>exact⟨x.1,ih x.2⟩
 |_=>exact x
def spFr (sp:Sp):Sp:=λvs H Q E=>∃(u:Addr)(xs:List V),H u=some (.lst xs)/\sp vs (bi H u) (λv H'=>H' u=none->Q v (upd H' u (.lst xs))) E
theorem FnOk.frame {K:aC}{mg:Str->Option aB}{base:Heap}{k:Nat}{f:Addr}{fd:bX}{ps:List Str}{sp:Sp}(F:FnOk P w K mg base CX0 k f fd ps sp):FnOk P w K mg base CX0 k f fd ps (spFr sp) where
 len:=λvs H Q E zF=>by obtain⟨_,_,_,z⟩:=zF;exact F.len vs _ _ _ z
 run:=λA outer s H args us vs Q E hr e b r ⟨u,xs,hu,z⟩=>by
  have hn:bi H u u=none:=(by unfold bi;rw[if_pos rfl]);have hide_none:∀{b:Addr},H b=none->bi H u b=none:=λ{b} q=>by
   by_cases h:b=u
   ·rw[h];exact hn
   ·rw[bp h];exact q
  have e':Env0 P w K mg base A outer s (bi H u):=⟨e.frames,e.mod,λb o q=>⟨(e.bs b o q).1,hide_none (e.bs b o q).2⟩,e.bsz,e.funs,λb hb=>hide_none (e.frf b hb),λa o q=>J2 hu (e.hok a o (hide_le _ _ q)),e.bare⟩;obtain⟨ob,QK⟩:∃ob,s.heap.get? u=some ob:=by
   obtain⟨_,its,n,_,q⟩:=e.hok u _ hu;exact⟨_,q⟩
  have nfr:u ∉ frs outer:=λq=>(by rw[e.frf u q]at hu;cases hu);refine nJ (F.run A outer s (bi H u) args us vs _ E hr e' b r z) λq s'=>?_;cases q with
  |error er=>exact id
  |ok fl=>
   cases fl with
   |ret val=>
    intro zE;obtain⟨v,H',os,bare,un,hok,rv,q⟩:=zE;have fu:H' u=none:=un.free u ob QK hn (by simp);have hku:=un.keep u ob QK hn nfr (by simp);have nu:∀{b:Addr}{o:HO},H b=some o->(∀ys,o≠.lst ys)->b≠u:=λ{b o} e1 n z=>(by subst z;rw[hu]at e1;cases e1;exact n xs rfl);refine⟨v,upd H' u (.lst xs),os,bare,⟨λb o h1 h2 h3 h4=>un.keep b o h1 (hide_none h2) h3 h4,λb o h1 h2 h3 h4=>un.slot b o h1 (hide_none h2) h3 h4,λb o h1 h2 h3=>?_,un.there,λb ys h1=>?_,λb o v h1=>?_,λb ps h1=>?_⟩,λb o hb=>?_,rv,q fu⟩
    ·rw[ai (λz=>by subst z;rw[hu]at h2;cases h2)];exact un.free b o h1 (hide_none h2) h3
    ·have n:=nu h1 (λ_ e=>nomatch e);rw[ai n];exact un.tups b ys (by rw[bp n];exact h1)
    ·have n:=nu h1 (λ_ e=>nomatch e);rw[ai n];exact un.frzs b o v (by rw[bp n];exact h1)
    ·have n:=nu h1 (λ_ e=>nomatch e);rw[ai n];exact un.tbls b ps (by rw[bp n];exact h1)
    ·by_cases h:b=u
     ·subst h;rw[ac]at hb;cases hb;obtain⟨z1,its,n,rl,g⟩:=e.hok b _ hu;rw[QK]at g;exact⟨z1,its,n,rl,hku.trans g⟩
     ·rw[ai h]at hb;exact J3 fu (hok b o hb)
   |_=>exact id
end
abbrev LL (ws:List (Str×Nat)):List (List Int):=c7 (ws.map (·.2))
def Spk (K:aC)(H:Hp)(sp r:Addr)(ws:List (Str×Nat)):Prop:=Hold K H (.ref sp) (cy ws)/\LetAt K H r (LL ws)/\br ws
theorem Spk.mono {K:aC}{H G:Hp}{sp r:Addr}{ws:List (Str×Nat)}(h:Spk K H sp r ws)(s:Same H G):Spk K G sp r ws:=by
 obtain⟨h1,⟨xs,h2,h3⟩,h4⟩:=h;exact⟨h1.mono s,⟨xs,s _ _ h2,h3.mono s⟩,h4⟩
theorem Cp {ws:List (Str×Nat)}(h:br ws):(LL ws).length<=216:=J1 (λc hc=>by
  obtain⟨x,hx,rfl⟩:=jD.mp hc;exact(h.cnt x hx).2) (by rw[aI];exact h.hi)
theorem Ee {ws:List (Str×Nat)}(h:br ws){x:Str}{p c:Nat}{v:Int}(lk:look ws x=some (p,c))(g:0<=v/\v < (c:Int)):Can (LL ws) p v:=by
 have QL:=Cp h;obtain⟨y,e1,_,e3⟩:=Gb lk;have hp:p < ws.length:=(aL.mp e1).1;refine⟨ig _,by lia,λl hl=>?_⟩;have wl:=(fk _).wide l hl;rw[aI]at wl;have:=h.hi;exact⟨by lia,by lia,Fi hl (by rw[cY,e1,qO,e3]) g.1 g.2⟩
def Say.rm:Say->Nat
 | .note=>1
 | .again s=>s.rm
 | .either a b=>a.rm+b.rm
 | .both a b=>a.rm+b.rm
 |_=>0
def Say.W (ws:List (Str×Nat)):Say->Nat->Nat->Rl
 | .nought=>λ_ _ _ _=>False
 | .every=>λ_ _ i j=>j=i
 | .note=>Qx
 | .is f v=>λ_ _=>match look ws f.1 with | some (p,_)=>isR (LL ws) p v.1 | none=>λ_ _=>False
 | .put f v=>λ_ _=>match look ws f.1 with | some (p,_)=>xj (LL ws) p v.1 | none=>λ_ _=>False
 | .no s=>λ_ _=>nq (LL ws).length (s.W ws 0 0)
 | .again s=>nv (LL ws).length (s.W ws)
 | .either a b=>jh (LL ws).length (a.rm+1) (a.W ws) (b.W ws)
 | .both a b=>ki (LL ws).length (a.rm+1) (a.W ws) (b.W ws)
abbrev Pj (H:Hp)(ws:List (Str×Nat))(s:Say)(x:V):Prop:=WaysAt H (LL ws).length (s.rm+1) (s.W ws) x
def Q6 (K:aC):Sp:=λvs H Q _=>∃(sp:Addr)(ws:List (Str×Nat)) (x:Str) (v:Int) (p c:Nat),vs=[.ref sp,.str x,.int v]/\Hold K H (.ref sp) (cy ws)/\v.natAbs.log2 < 1000/\(uG x).length<=2000/\
 look ws x=some (p,c)/\(0<=v/\v < (c:Int))/\∀H',Same H H'->Q (.int (p:Int)) H'
theorem Vt {P:aP}{w:aW}{K:aC}{mg:Str->Option aB}{base:Heap}{k:Nat}{f cF cV:Addr}{fd:bX}{ps:List Str}(F:FnOk P w K mg base (CXx P w) k f fd ps (Ay K cF cV)):FnOk P w K mg base CX0 k f fd ps (Q6 K):=
 FnOk.calm F λvs H Q E zF=>by obtain⟨sp,ws,x,v,p,c,e,h1,h2,h3,lk,g,q⟩:=zF;exact⟨sp,ws,x,v,e,h1,h2,h3,⟨λn=>absurd (lk.symm.trans n) (by simp),λi d l n=>(by rw[lk]at l;cases l;exact absurd g n),λi d l g'=>(by rw[lk]at l;cases l;exact q)⟩⟩
def Say.lone:Say->Bool
 | .nought=>true | .every=>true | .is _ _=>true | .put _ _=>true
 |_=>false
def Q7 (K:aC):Sp:=λvs H Q _=>∃(sp r:Addr)(ws:List (Str×Nat)) (x:V) (s:Say),vs=[.ref sp,.ref r,x]/\Spk K H sp r ws/\Hold K H x s.da/\s.lone=true/\s.due ws=none/\A3 (LL ws).length (s.W ws 0 0) H Q
def L8 (K:aC):Sp:=λvs H Q _=>∃(sp r c:Addr)(ws:List (Str×Nat)) (x:V) (s:Say) (is:List V),vs=[.ref sp,.ref r,x,.ref c]/\Spk K H sp r ws/\Hold K H x s.da/\s.due ws=none/\s.rm<=300/\
 H c=some (.lst is)/\Paired (λy k=>Pj H ws k y) is s.kids/\Ea (LL ws).length (s.rm+1) (s.W ws) H Q
theorem qz {ws:List (Str×Nat)}{x:Str}{v:Int}(h:d7 ws x v=none):∃p c,look ws x=some (p,c)/\0<=v/\v < (c:Int):=by
 unfold d7 at h;cases e:look ws x with
 |none=>rw[e]at h;cases h
 |some pc=>
  rw[e]at h;obtain⟨p,c⟩:=pc;refine⟨p,c,rfl,?_⟩;by_cases g:0<=v/\v < (c:Int)
  ·exact g
  ·have h':(if 0<=v/\v < (c:Int)then none else some (Flt.value v))=none:=h
   rw[if_neg g]at h';cases h'
section
variable {P:aP}{w:aW}{K:aC}{mg:Str->Option aB}{base:Heap}
theorem Vu:au ["speech","letters","part","place"] ["speech","letters","part"] (aj Dq):=fsN
theorem Pk {f:Addr}{fd:bX}(F:Fun K "plain_relation" "plain_relation" Dq f fd)(hN:Has P w K mg base 1 "nothing" ["size"] Ju)(hS:Has P w K mg base 1 "the_same" ["size"] Jv)
  (hP:Has P w K mg base 4 "place_of" ["speech","field","value"] (Q6 K)) (hI:Has P w K mg base 1 "is_relation" ["letters","place","value"] (Co isR K)) (hU:Has P w K mg base 1 "put_relation" ["letters","place","value"] (Co xj K)) (ml:mg "len"=none) :
  FnOk P w K mg base CX0 5 f fd ["speech","letters","part"] (Q7 K):=by
 obtain⟨fN,dN,GN,bN,kN,mN⟩:=hN;obtain⟨fS,dS,GS,bS,kS,mS⟩:=hS;obtain⟨fP,dP,GP,bP,kP,mP⟩:=hP;obtain⟨fI,dI,GI,bI,kI,mI⟩:=hI;obtain⟨fU,dU,GU,bU,kU,mU⟩:=hU;refine F.ok Vu (λvs H Q E h=>?_) (λzH A outer s H vs Q E hr h=>?_)
 ·obtain⟨sp,r,ws,x,sy,rfl,_⟩:=h;rfl
 obtain⟨sp,r,ws,x,sy,rfl,J',hx,lo,du,q⟩:=h;refine⟨_,ag (cn (bc dh (aq bx (pv 2) af (λ_ _=>rfl)) bh (bg _)) (ah (ax (ao GN (hr.mono (by decide)) rfl mN kN bN .nil aw (aa (bn bj rfl ml gF (aa (pv 1) ae)) ae)))) bo) (ag (cn (bc dh (aq bx (pv 2) af (λ_ _=>rfl)) bh (bg _)) (ah (ax (ao GS (hr.mono (by decide)) rfl mS kS bS .nil aw (aa (bn bj rfl ml gF (aa (pv 1) ae)) ae)))) bo) (ag (av (i:=3) Vu.nd rfl (cD rfl) (ao GP hr rfl mP kP bP .nil aw (aa (pv 0) (aa (aq bx (pv 2) af (λ_ _=>rfl)) (aa (aq bx (pv 2) af (λ_ _=>rfl)) ae))))) (ag (cn (bc dh (aq bx (pv 2) af (λ_ _=>rfl)) bh (bg _)) (ah (ax (ao GI (hr.mono (by decide)) rfl mI kI bI .nil aw (aa (pv 1) (aa (pv 3) (aa (aq bx (pv 2) af (λ_ _=>rfl)) ae)))))) bo) (ah (ax (ao GU (hr.mono (by decide)) rfl mU kU bU .nil aw (aa (pv 1) (aa (pv 3) (aa (aq bx (pv 2) af (λ_ _=>rfl)) ae))))))))),?_⟩;dsimp only[bb,Cx.nox];obtain⟨zU,⟨xs,AF,BK⟩,HJ⟩:=id J';have xl:xs.length=(LL ws).length:=(by rw[BK.length,aI]);have n216:=Cp HJ;cases sy
 case nought=>
  obtain⟨a,ys,rfl,ha,hd⟩:=Hold.tupI hx;cases hd with
  |cons h1 r1=>
   cases r1;cases h1.flatI;refine⟨_,rfl,a,_,_,_,rfl,rfl,ha,rfl,rfl,_,rfl,?_⟩;refine jj ⟨_,rfl,r,_,rfl,.inl (SqL.of AF),(LL ws).length,(by rw[xl];rfl),by lia,λr1 n1 G1 s1 h1 g1 v1=>q r1 n1 G1 s1 h1 g1 v1⟩
 case every=>
  obtain⟨a,ys,rfl,ha,hd⟩:=Hold.tupI hx;cases hd with
  |cons h1 r1=>
   cases r1;cases h1.flatI;refine⟨_,rfl,a,_,_,_,rfl,rfl,ha,rfl,rfl,_,rfl,?_⟩;refine de ⟨_,rfl,a,_,_,_,rfl,rfl,ha,rfl,rfl,_,rfl,?_⟩;refine jj ⟨_,rfl,r,_,rfl,.inl (SqL.of AF),(LL ws).length,(by rw[xl];rfl),by lia,λr1 n1 G1 s1 h1 g1 v1=>q r1 n1 G1 s1 h1 g1 v1⟩
 case is fx vx=>
  obtain⟨a,ys,rfl,ha,hd⟩:=Hold.tupI hx;cases hd with
  |cons h1 r1=>cases r1 with
   |cons h2 r2=>cases r2 with
    |cons h3 r3=>
     cases r3;cases h1.flatI;cases h2.flatI;cases h3.flatI;obtain⟨p,c,lk,g⟩:=qz (show d7 ws fx.1 vx.1=none from du);refine⟨_,rfl,a,_,_,_,rfl,rfl,ha,rfl,rfl,_,rfl,?_⟩;refine de ⟨_,rfl,a,_,_,_,rfl,rfl,ha,rfl,rfl,_,rfl,?_⟩;refine de ⟨_,rfl,_,rfl,a,_,_,_,rfl,rfl,ha,rfl,_,rfl,a,_,_,_,rfl,rfl,ha,rfl,sp,ws,fx.1,vx.1,p,c,rfl,zU,vx.2,fx.2,lk,g,λG1 s1=>?_⟩;refine⟨_,rfl,a,_,_,_,rfl,rfl,ha.same s1,rfl,rfl,_,rfl,?_⟩;refine jj ⟨_,rfl,_,rfl,_,rfl,a,_,_,_,rfl,rfl,ha.same s1,rfl,r,LL ws,p,vx.1,rfl,⟨xs,s1 _ _ AF,BK.mono s1⟩,Ee HJ lk g,λr2 n2 G2 s2 h2 g2 v2=>q r2 n2 G2 (Same.trans s1 s2) (Same.free s1 h2) g2 ?_⟩;show RelP _ n2 (match look ws fx.1 with | some (p,_)=>isR (LL ws) p vx.1 | none=>λ_ _=>False)
     rw[lk];exact v2
 case put fx vx=>
  obtain⟨a,ys,rfl,ha,hd⟩:=Hold.tupI hx;cases hd with
  |cons h1 r1=>cases r1 with
   |cons h2 r2=>cases r2 with
    |cons h3 r3=>
     cases r3;cases h1.flatI;cases h2.flatI;cases h3.flatI;obtain⟨p,c,lk,g⟩:=qz (show d7 ws fx.1 vx.1=none from du);refine⟨_,rfl,a,_,_,_,rfl,rfl,ha,rfl,rfl,_,rfl,?_⟩;refine de ⟨_,rfl,a,_,_,_,rfl,rfl,ha,rfl,rfl,_,rfl,?_⟩;refine de ⟨_,rfl,_,rfl,a,_,_,_,rfl,rfl,ha,rfl,_,rfl,a,_,_,_,rfl,rfl,ha,rfl,sp,ws,fx.1,vx.1,p,c,rfl,zU,vx.2,fx.2,lk,g,λG1 s1=>?_⟩;refine⟨_,rfl,a,_,_,_,rfl,rfl,ha.same s1,rfl,rfl,_,rfl,?_⟩;refine de ⟨_,rfl,_,rfl,_,rfl,a,_,_,_,rfl,rfl,ha.same s1,rfl,r,LL ws,p,vx.1,rfl,⟨xs,s1 _ _ AF,BK.mono s1⟩,Ee HJ lk g,λr2 n2 G2 s2 h2 g2 v2=>q r2 n2 G2 (Same.trans s1 s2) (Same.free s1 h2) g2 ?_⟩;show RelP _ n2 (match look ws fx.1 with | some (p,_)=>xj (LL ws) p vx.1 | none=>λ_ _=>False)
     rw[lk];exact v2
 all_goals cases lo
theorem scWp:au ["speech","letters","part","inner"] ["speech","letters","part","inner"] (aj Dp):=fsN
theorem Tc {f:Addr}{fd:bX}(F:Fun K "ways_of_part" "ways_of_part" Dp f fd)(hE:Has P w K mg base 4 "either_ways" ["one","other"] (Cn jh))(hT:Has P w K mg base 4 "then_ways" ["first","second"] (Cn ki))
  (hA:Has P w K mg base 4 "again_ways" ["ways"] Q1) (hW:Has P w K mg base 1 "where_nothing" ["relation"] (Cm nq K)) (hN:Has P w K mg base 2 "note_ways" ["size"] Gk) (hP:Has P w K mg base 5 "plain_relation" ["speech","letters","part"] (Q7 K)) (ml:mg "len"=none) :
  FnOk P w K mg base CX0 6 f fd ["speech","letters","part","inner"] (L8 K):=by
 obtain⟨fE,dE,GE,bE,kE,mE⟩:=hE;obtain⟨fT,dT,GT,bT,kT,mT⟩:=hT;obtain⟨fA,dA,GA,bA,kA,mA⟩:=hA;obtain⟨fW,dW,GW,bW,kW,mW⟩:=hW;obtain⟨fN,dN,GN,bN,kN,mN⟩:=hN;obtain⟨fP,dP,GP,bP,kP,mP⟩:=hP;refine F.ok scWp (λvs H Q E h=>?_) (λzH A outer s H vs Q E hr h=>?_)
 ·obtain⟨sp,r,c,ws,x,sy,is,rfl,_⟩:=h;rfl
 obtain⟨sp,r,c,ws,x,sy,is,rfl,J',hx,du,rm,gc,NM,q⟩:=h;refine⟨_,ag (cn (bc dh (aq bx (pv 2) af (λ_ _=>rfl)) bh (bg _)) (ah (ax (ao GE (hr.mono (by decide)) rfl mE kE bE .nil aw (aa (aq ar (pv 3) af (λ_ _=>rfl)) (aa (aq ar (pv 3) af (λ_ _=>rfl)) ae))))) bo) (ag (cn (bc dh (aq bx (pv 2) af (λ_ _=>rfl)) bh (bg _)) (ah (ax (ao GT (hr.mono (by decide)) rfl mT kT bT .nil aw (aa (aq ar (pv 3) af (λ_ _=>rfl)) (aa (aq ar (pv 3) af (λ_ _=>rfl)) ae))))) bo) (ag (cn (bc dh (aq bx (pv 2) af (λ_ _=>rfl)) bh (bg _)) (ah (ax (ao GA (hr.mono (by decide)) rfl mA kA bA .nil aw (aa (aq ar (pv 3) af (λ_ _=>rfl)) ae)))) bo) (ag (cn (bc dh (aq bx (pv 2) af (λ_ _=>rfl)) bh (bg _)) (ah (ax (az (aa (az (aa (ao GW (hr.mono (by decide)) rfl mW kW bW .nil aw (aa (aq ar (aq ar (aq ar (pv 3) af (λ_ _=>rfl)) af (λ_ _=>rfl)) af (λ_ _=>rfl)) ae)) ae)) ae)))) bo) (ag (cn (bc dh (aq bx (pv 2) af (λ_ _=>rfl)) bh (bg _)) (ah (ax (ao GN (hr.mono (by decide)) rfl mN kN bN .nil aw (aa (bn bj rfl ml gF (aa (pv 1) ae)) ae)))) bo) (ah (ax (az (aa (az (aa (ao GP hr rfl mP kP bP .nil aw (aa (pv 0) (aa (pv 1) (aa (pv 2) ae)))) ae)) ae)))))))),?_⟩;dsimp only[bb,Cx.nox];obtain⟨zU,⟨xs,AF,BK⟩,HJ⟩:=id J';have xl:xs.length=(LL ws).length:=(by rw[BK.length,aI]);have n216:=Cp HJ;obtain⟨a,ys,rfl,ha,hk⟩:=ng hx;clear hk;refine⟨_,rfl,a,_,_,_,rfl,rfl,ha,gk _ _,rfl,_,rfl,?_⟩;have lone:∀{R:Rl},(∀i j,R i j=sy.W ws 0 0 i j)->sy.rm=0->(∀r c,sy.W ws r c=sy.W ws 0 0)->∀(r1:Addr)(n1:List Int) (G1:Hp),Same H G1->G1 r1=some (.lst (n1.map V.int))->RelP (LL ws).length n1 R->∀p,G1 p=none->∀p2,upd G1 p (.lst [.ref r1]) p2=none->Q (.ref p2) (upd (upd G1 p (.lst [.ref r1])) p2 (.lst [.ref p])):=by
  intro R eR e0 eW r1 n1 G1 s1 g1 v1 p hp p2 zZ;have t1:=ad hp (.lst [.ref r1]);have t2:=ad zZ (.lst [.ref p]);refine q _ _ (Same.trans s1 (Same.trans t1 t2)) ⟨p2,_,rfl,ac,?_⟩;rw[e0];refine .one ⟨p,_,rfl,t2 _ _ ac,.one ⟨r1,n1,rfl,(Same.trans t1 t2) _ _ g1,v1.iff λi j _ _=>?_⟩⟩;rw[eR]
 cases sy
 case either b1 b2=>
  cases NM with
  |cons k1 kr=>cases kr with
   |cons k2 QM=>
    cases QM;exact jj ⟨_,rfl,c,_,_,_,rfl,rfl,SqL.of gc,bf (j:=0) rfl,_,rfl,c,_,_,_,rfl,rfl,SqL.of gc,bf (j:=1) rfl,(LL ws).length,b1.rm,b2.rm,b1.W ws,b2.W ws,_,_,rfl,k1,k2,rm,by lia,q⟩
 case both b1 b2=>
  cases NM with
  |cons k1 kr=>cases kr with
   |cons k2 QM=>
    cases QM;refine de ⟨_,rfl,a,_,_,_,rfl,rfl,ha,gk _ _,rfl,_,rfl,?_⟩;exact jj ⟨_,rfl,c,_,_,_,rfl,rfl,SqL.of gc,bf (j:=0) rfl,_,rfl,c,_,_,_,rfl,rfl,SqL.of gc,bf (j:=1) rfl,(LL ws).length,b1.rm,b2.rm,b1.W ws,b2.W ws,_,_,rfl,k1,k2,rm,by lia,q⟩
 case again b1=>
  cases NM with
  |cons k1 kr=>
   cases kr;refine de ⟨_,rfl,a,_,_,_,rfl,rfl,ha,gk _ _,rfl,_,rfl,?_⟩;refine de ⟨_,rfl,a,_,_,_,rfl,rfl,ha,gk _ _,rfl,_,rfl,?_⟩;exact jj ⟨_,rfl,c,_,_,_,rfl,rfl,SqL.of gc,bf (j:=0) rfl,(LL ws).length,b1.rm,b1.W ws,_,rfl,k1,rm,by lia,q⟩
 case no b1=>
  cases NM with
  |cons k1 kr=>
   cases kr;refine de ⟨_,rfl,a,_,_,_,rfl,rfl,ha,gk _ _,rfl,_,rfl,?_⟩;refine de ⟨_,rfl,a,_,_,_,rfl,rfl,ha,gk _ _,rfl,_,rfl,?_⟩;refine de ⟨_,rfl,a,_,_,_,rfl,rfl,ha,gk _ _,rfl,_,rfl,?_⟩;obtain⟨a1,xs1,rfl,HI,IT⟩:=k1;obtain⟨_,e1,c1,B',rfl,CA,FH⟩:=IT.at (c:=0) (by lia);obtain⟨_,f1,d1,IU,rfl,LQ,FG⟩:=FH.at (c:=0) (by lia);refine jj ⟨_,rfl,c,_,_,_,rfl,rfl,SqL.of gc,bf (j:=0) rfl,a1,_,_,_,rfl,rfl,SqL.of HI,bf (j:=0) e1,c1,_,_,_,rfl,rfl,SqL.of CA,bf (j:=0) f1,(LL ws).length,d1,IU,_,rfl,SqL.of LQ,FG,by lia,λr1 n1 G1 s1 h1 g1 v1=>?_⟩;exact⟨sz1,λp hp=>⟨sz1,λp2 zZ=>lone (λ_ _=>rfl) rfl (λ_ _=>rfl) r1 n1 G1 s1 g1 v1 p hp p2 zZ⟩⟩
 case note=>
  refine de ⟨_,rfl,a,_,_,_,rfl,rfl,ha,gk _ _,rfl,_,rfl,?_⟩;refine de ⟨_,rfl,a,_,_,_,rfl,rfl,ha,gk _ _,rfl,_,rfl,?_⟩;refine de ⟨_,rfl,a,_,_,_,rfl,rfl,ha,gk _ _,rfl,_,rfl,?_⟩;refine de ⟨_,rfl,a,_,_,_,rfl,rfl,ha,gk _ _,rfl,_,rfl,?_⟩;exact jj ⟨_,rfl,r,_,rfl,.inl (SqL.of AF),(LL ws).length,(by rw[xl];rfl),by lia,q⟩
 all_goals
  refine de ⟨_,rfl,a,_,_,_,rfl,rfl,ha,gk _ _,rfl,_,rfl,?_⟩;refine de ⟨_,rfl,a,_,_,_,rfl,rfl,ha,gk _ _,rfl,_,rfl,?_⟩;refine de ⟨_,rfl,a,_,_,_,rfl,rfl,ha,gk _ _,rfl,_,rfl,?_⟩;refine de ⟨_,rfl,a,_,_,_,rfl,rfl,ha,gk _ _,rfl,_,rfl,?_⟩;refine de ⟨_,rfl,_,rfl,_,rfl,sp,r,ws,.ref a,_,rfl,J',hx,rfl,du,λr1 n1 G1 s1 h1 g1 v1=>?_⟩;exact⟨sz1,λp hp=>⟨sz1,λp2 zZ=>lone (λ_ _=>rfl) rfl (λ_ _=>rfl) r1 n1 G1 s1 g1 v1 p hp p2 zZ⟩⟩
end
theorem J4 (s:Say):s.rm<=s.nts:=by
 induction s with
 |again s ih=>exact ih
 |either a b ia ib=>exact Nat.add_le_add ia ib
 |both a b ia ib=>exact Nat.add_le_add ia ib
 |note=>exact aN _
 |_=>exact eV _
theorem Pl {s p:Say}(h:p∈s.parts):p.nts<=s.nts:=by
 induction s with
 |no s ih=>
  rcases aU.mp h with rfl | h
  ·exact aN _
  ·exact ih h
 |again s ih=>
  rcases aU.mp h with rfl | h
  ·exact aN _
  ·exact ih h
 |either a b ia ib=>
  rcases aU.mp h with rfl | h
  ·exact aN _
  ·rcases eC.mp h with h | h
   ·exact bQ (ia h) (sQ _ _)
   ·exact bQ (ib h) (Nat.le_add_left _ _)
 |both a b ia ib=>
  rcases aU.mp h with rfl | h
  ·exact aN _
  ·rcases eC.mp h with h | h
   ·exact bQ (ia h) (sQ _ _)
   ·exact bQ (ib h) (Nat.le_add_left _ _)
 |_=>rw[aY.mp h];exact aN _
theorem Go {a b:Option Flt}(h:a.or b=none):a=none/\b=none:=by
 cases a with
 |none=>exact⟨rfl,by simpa using h⟩
 |some x=>cases h
theorem Pm {ws:List (Str×Nat)}{s p:Say}(h:p∈s.parts)(d:s.due ws=none):p.due ws=none:=by
 induction s with
 |no s ih=>
  rcases aU.mp h with rfl | h
  ·exact d
  ·have d':(if s.isT=true then s.due ws else some (.test s))=none:=d
   by_cases t:s.isT=true
   ·rw[if_pos t]at d';exact ih h d'
   ·rw[if_neg t]at d';cases d'
 |again s ih=>
  rcases aU.mp h with rfl | h
  ·exact d
  ·exact ih h d
 |either a b ia ib=>
  rcases aU.mp h with rfl | h
  ·exact d
  ·obtain⟨d1,d2⟩:=Go (show(a.due ws).or (b.due ws)=none from d);rcases eC.mp h with h | h
   ·exact ia h d1
   ·exact ib h d2
 |both a b ia ib=>
  rcases aU.mp h with rfl | h
  ·exact d
  ·obtain⟨d1,d2⟩:=Go (show(a.due ws).or (b.due ws)=none from d);rcases eC.mp h with h | h
   ·exact ia h d1
   ·exact ib h d2
 |_=>rw[aY.mp h];exact d
theorem q5:∀{ts us:List Say},ts.flatMap Say.parts=us.flatMap Say.parts->ts=us
 | [],[],_=>rfl
 | [],u::us,h=>by rw[jP,iu]at h;cases h
 |t::ts,[],h=>by rw[jP,iu]at h;cases h
 |t::ts,u::us,h=>by
  rw[jP,jP]at h;have e:t=u:=by
   rw[iu t,iu u]at h;exact(qG h).1
  subst e;rw[q5 (List.append_cancel_left h)]
theorem we:∀{pre ps F:List Say}{p:Say},F.flatMap Say.parts=pre++p::ps->∃us,ps=(p.kids++us).flatMap Say.parts
 |_,_,[],p,h=>by simp at h
 | [],ps,t::F,p,h=>by
  rw[jP,iu]at h;obtain⟨e1,e2⟩:=qG h;subst e1;exact⟨F,by rw[oN];exact e2.symm⟩
 |q::pre,ps,t::F,p,h=>by
  rw[jP,iu]at h;obtain⟨_,e2⟩:=qG h;have e3:t.kids.flatMap Say.parts++F.flatMap Say.parts=pre++p::ps:=e2;rw[<-oN]at e3;exact we e3
theorem uc {α β:Type}{F:α->β->Prop}:∀{bs cs:List β}{xs:List α},Paired F xs (bs++cs)->∃x1 x2,xs=x1++x2/\Paired F x1 bs/\Paired F x2 cs
 | [],cs,xs,h=>⟨[],xs,rfl,.nil,h⟩
 |b::bs,cs,_,h=>by
  cases h with
  |cons h1 t=>
   obtain⟨x1,x2,rfl,p1,p2⟩:=uc (bs:=bs) t;exact⟨_::x1,x2,rfl,.cons h1 p1,p2⟩
theorem hide_none {G:Hp}{D:Addr}(h:G D=none):bi G D=G:=by
 funext b
 by_cases e:b=D
 ·rw[e,h];unfold bi;rw[if_pos rfl]
 ·exact bp e
theorem L9 {G:Hp}{u:Addr}{xs:List V}(h:G u=some (.lst xs)):Tups G (bi G u):=
 ⟨λb ys e=>by rw[bp (λz=>by subst z;rw[h]at e;cases e)];exact e,λb o v e=>by rw[bp (λz=>by subst z;rw[h]at e;cases e)];exact e⟩
def Ma (K:aC):Sp:=λvs H Q _=>∃(sp r:Addr)(ws:List (Str×Nat)) (x:V) (s:Say),vs=[.ref sp,.ref r,x]/\Spk K H sp r ws/\Hold K H x s.da/\s.due ws=none/\s.size<=500/\s.nts<=300/\Ea (LL ws).length (s.rm+1) (s.W ws) H Q
section
variable {P:aP}{w:aW}{K:aC}{mg:Str->Option aB}{base:Heap}
theorem J5:au ["speech","letters","saying","waiting","part","inner"] ["speech","letters","saying"] (aj Ch):=fsN
def Q8:gM:={ kind:=.function,names:=[(".0",.local),("held",.local),("waiting",.free)],isGenerator:=false,isCoroutine:=false,more:=[] }
theorem cWo_ {CX:CXT}{f:Addr}{zH:aB}{A:cQ}{outer:List Env}{s:aG}{H:Hp}{E:XK} :
  bv (bb CX P w K mg base ["speech","letters","saying","waiting","part","inner"] "ways_of" (aj Ch) f zH A outer s H E).nox ["held"] ["waiting"] [3] Q8 [("waiting",s.heap.objs.size+1)]:=csN [(".0",.local),("held",.local),("waiting",.cell)]
theorem Td {f:Addr}{fd:bX}(F:Fun K "ways_of" "ways_of" Ch f fd)(hA:Has P w K mg base 2 "parts_of" ["saying"] (qb K))(hH:Has P w K mg base 1 "held_in" ["saying"] (Dv K))
  (hP:Has P w K mg base 6 "ways_of_part" ["speech","letters","part","inner"] (L8 K)) (mr:mg "reversed"=none):FnOk P w K mg base CX0 7 f fd ["speech","letters","saying"] (Ma K):=by
 obtain⟨fA,dA,GA,bA,kA,mA⟩:=hA;obtain⟨fH,dH,GH,bH,kH,mH⟩:=hH;obtain⟨fP,dP,GP,bP,kP,mP⟩:=hP;refine F.ok J5 (λvs H Q E h=>?_) (λzH A outer s H vs Q E hr h=>?_)
 ·obtain⟨sp,r,ws,x,sy,rfl,_⟩:=h;rfl
 obtain⟨sp,r,ws,x,sy,rfl,J',hx,du,AB,zQ,q⟩:=h;refine⟨_,ag (av (i:=3) J5.nd rfl (mZ rfl) (az ae)) (ag (dv eU rfl (Vp rfl mr (aa (ao (FnOk.frame GA) (hr.mono (by decide)) rfl mA kA bA .nil aw (aa (pv 2) ae)) ae)) (ba (i:=4) J5.nd rfl (cD rfl)) (ag (i9 (i0:=5) (ns:=["held"]) (ys:=["waiting"]) (sc:=Q8) J5.nd rfl rfl cWo_ rfl (pb (ao GH (hr.mono (by decide)) rfl mH kH bH .nil aw (aa (pv 4) ae))) (λC s H fp=>ba (i:=0) (by show(["held","waiting"]:List Str).Nodup;decide +kernel) rfl (cD rfl)) (λC s H fp=>cx) (λC s H fp=>S9 (K:=K) rfl fQ sU sV C0 (pv 1))) (ah (cw (mw fQ lV lW ir (pv 3) (aa (ao (FnOk.frame GP) hr rfl mP kP bP .nil aw (aa (pv 0) (aa (pv 1) (aa (pv 4) (aa (pv 5) ae))))) ae)))))) (ah (ax (yp fQ sU sV C0 (pv 3))))),?_⟩;dsimp only[bb,Cx.nox];refine⟨sz0,λu hu=>?_⟩;have s0:Same H (bi (upd H u (.lst [])) u):=qc (ad hu _) hu;refine⟨_,rfl,u,[],ac,x,sy,rfl,hx.mono s0,AB,λr1 xs B sB gr hB UW=>?_⟩;have UX:=Same.trans s0 sB;have ru:r1≠u:=am gr UW;have xl:xs.length=sy.parts.length:=(by rw[hB.length,aI]);have p500:sy.parts.length<=500:=(by rw[gq];exact AB);refine⟨r1,xs,rfl,SqL.of (by rw[ai ru];exact gr),S8 (K:=K) (a:=r1) (xs:=xs) (λi σ G=>∃(v4 v5:Option V)(zs:List V) (ts:List Say),σ=[some (.ref sp),some (.ref r),some x,some (.ref u),v4,v5]/\Same B (bi G u)/\G u=some (.lst zs)/\sy.parts.drop (sy.parts.length - i)=ts.flatMap Say.parts/\Paired (λy k=>Pj (bi G u) ws k y) zs.reverse ts/\zs.length<=i) ⟨none,none,[],[],rfl,(by rw[gh,hide_none UW];exact λ_ _ z=>z),ac,(by rw[xT,sM];rfl),.nil,aN _⟩ (λi σ G _ zF=>by obtain⟨_,_,_,_,_,sG,_⟩:=zF;exact SqL.of (hide_le _ _ (sG _ _ gr))) ?_ ?_⟩
 ·intro i x σ G DD zE;obtain⟨v4,v5,zs,ts,rfl,sG,gu,NN,pz,zl⟩:=zE;generalize zI:d6.mk _ _ _ _=zV;revert zI zV;refine id ?_;intro zV zI;have hi:i < sy.parts.length:=by
   have:=(aL.mp DD).1;rw[gL]at this;lia
  rw[sS (by lia)]at DD;obtain⟨p,ep,hp⟩:=hB.getm DD;rw[xl]at ep;have pm:p∈sy.parts:=bK ep;have ed:sy.parts.drop (sy.parts.length - 1 - i)=p::sy.parts.drop (sy.parts.length - i):=by
   obtain⟨h1,h2⟩:=aL.mp ep;rw[jS h1,h2,show sy.parts.length - 1 - i+1=sy.parts.length - i by lia]
  obtain⟨us,eu⟩:∃us,sy.parts.drop (sy.parts.length - i)=(p.kids++us).flatMap Say.parts:=by
   refine we (F:=[sy]) (pre:=sy.parts.take (sy.parts.length - 1 - i)) (p:=p) ?_;rw[<-ed,nS];simp
  have et:ts=p.kids++us:=q5 (NN.symm.trans eu);subst et;obtain⟨zk,zv,ez,pk,pv'⟩:=uc pz;have UY:zs=zv.reverse++zk.reverse:=(by rw[<-qJ,<-ez,oC]);have hpG:Hold K G x p.da:=(hp.mono sG).mono hide_le;refine⟨_,rfl,x,p,rfl,hpG,λa ks G1 s1 ha hks=>?_⟩;have LD:=s1 _ _ gu;have haB:SqT K (bi G1 u) a ks:=ha.tups (L9 LD);have kl:ks.length=p.kids.length:=(by rw[hks.length,aI]);have QN:zk.length=p.kids.length:=Paired.length pk;refine⟨a,rfl,⟨_,ha⟩,λD hD=>?_⟩;have Du:D≠u:=Ne.symm (am LD hD);have UZ:(bi G1 u) D=none:=(by rw[bp Du];exact hD);have zsl:zs.length=zv.length+zk.length:=(by rw[UY,aO,gL,gL]);refine xc (K:=K) (a:=a) (xs:=ks) (λj ys G2=>Same (bi G1 u) (bi G2 u)/\G2 u=some (.lst (zv.reverse++(zk.drop j).reverse))/\G2 D=some (.lst ys)/\ys=zk.take j)
   ⟨?_,?_,ac,rfl⟩ (λi ys G z=>z.2.2.1) (λi ys G _ z=>(haB.same z.1).same hide_le) ?_ ?_
  ·intro b o e;have hb:b≠D:=am e UZ;have NO:b≠u:=λz=>(by subst z;unfold bi at e;rw[if_pos rfl]at e;cases e);rw[bp NO]at e ⊢;rw[ai hb];exact e
  ·rw[ai (Ne.symm Du),LD,UY];rfl
  ·intro j y ys G2 hy zE;obtain⟨s2,FK,CP,rfl⟩:=zE;have hj:j < zk.length:=(by rw[QN,<-kl];exact(aL.mp hy).1);have U':zk.drop j=zk[j]::zk.drop (j+1):=jS hj;refine⟨be (by rw[dJ];lia),⟨[some _],rfl,rfl⟩,?_⟩;refine⟨_,rfl,.inl ⟨rfl,_,SqL.of FK⟩,u,_,zk[j],rfl,rfl,FK,?_,?_⟩
   ·rw[U',iZ,<-pJ];simp
   ·refine⟨by rw[ai Du];exact CP,?_,?_,ac,?_⟩
    ·intro b o e;have hb:b≠D:=am e UZ;have NO:b≠u:=λz=>(by subst z;unfold bi at e;rw[if_pos rfl]at e;cases e);have e2:=s2 _ _ e;rw[bp NO]at e2 ⊢;rw[ai hb,ai NO];exact e2
    ·rw[ai (Ne.symm Du),ac,U',iZ,<-pJ,List.dropLast_concat]
    ·rw[eJ,aK hj];rfl
  ·intro ys G2 zE;obtain⟨s2,FK,CP,rfl⟩:=zE;rw[kl,<-QN,eZ]at CP;rw[kl,<-QN,sM]at FK;have LR:G2 u=some (.lst zv.reverse):=(by rw[FK];simp);have QO:Same (bi G u) (bi G2 u):=Same.trans (dj s1) s2;have QP:=Same.trans sG QO;refine⟨_,rfl,.inl ⟨rfl,_,SqL.of LR⟩,?_⟩;refine⟨_,rfl,_,rfl,_,rfl,_,rfl,u,_,LR,sp,r,D,ws,x,p,zk,rfl,J'.mono (Same.trans UX QP),hp.mono QP,Pm pm du,bQ (J4 p) (bQ (Pl pm) zQ),(by rw[bp Du];exact CP),Paired.mapP pk λy k z=>z.mono QO,λy H' sH wy IX=>?_⟩;refine⟨u,_,_,rfl,rfl,ac,be (by rw[gL];lia),?_⟩;have eH:bi (upd (upd H' u (.lst zv.reverse)) u (.lst (zv.reverse++[y]))) u=H':=(by rw[gh,gh,hide_none IX]);subst zI;refine⟨_,_,_,p::us,rfl,(by rw[eH];exact Same.trans QP sH),ac,?_,?_,(by rw[aO,gL];show _+1<=_;lia)⟩
   ·rw[show sy.parts.length - (i+1)=sy.parts.length - 1 - i by lia,ed,eu,jP,iu p,oN];rfl
   ·rw[eH,qJ,oC];exact .cons wy (Paired.mapP pv' λy k z=>(z.mono QO).mono sH)
 ·intro σ G zE;obtain⟨v4,v5,zs,ts,rfl,sG,gu,NN,pz,zl⟩:=zE;rw[xl,Nat.sub_self,uF]at NN;have et:ts=[sy]:=q5 (NN.symm.trans (by simp));subst et;have ez:∃y,zs=[y]/\Pj (bi G u) ws sy y:=by
   generalize hz:zs.reverse=zr at pz;cases pz with
   |cons h1 t=>
    cases t;exact⟨_,by rw[<-oC zs,hz];rfl,h1⟩
  obtain⟨y,rfl,wy⟩:=ez;refine⟨_,rfl,.inl ⟨rfl,_,SqL.of gu⟩,u,_,y,rfl,rfl,gu,rfl,q y _ (Same.trans UX (Same.trans sG D9)) (wy.mono D9)⟩
end
end S23
namespace L2
open PySem PySem.Spec PyProof.Rows
structure Vv (K:aC)(C:Addr)(m:Str)(f:Addr):Prop where
 ga:nY K (.ref C) "__getattribute__"=some (some (.builtin "type.__getattribute__"))
 rd:qM K C (.type "type")=true
 fc:qN K (.ref C) (.type "type") m=some (.val (.ref f))
 kp:aV K (.ref f)=true
section
variable {X:Cx}{CX:CXT}{k:Nat}{f C:Addr}{fd:bX}{ps:List Str}{sp:Sp}{BF:List V}{ds:List aB}{E:XK}{x m:Str}{p pos ap:Pos}{a:Expr}{es:List Expr}{t:TA}
theorem Pn {pl:Sem Bool}(c:Vv X.K C m f)(F:FnOk X.prog X.w X.K X.mg X.base CX k f fd ps sp)(hr:Room k X.A)(hg:Gl X x)(hm:X.mg x=some (.ref C))(hb:Binds X.K fd ps ds)(hd:Vals BF ds)(hx:lh CX X E)(ha:PA X (a::es) t)
  (BU:(x == ("__debug__":Str))=false:=by decide) (he:cW (a::es) X.env=(false,eval a X.env)::cW es X.env:=by rfl) (AL:(jJ pos (cW es X.env)).any (·.1)=false:=by rfl)
  (ht:eval (.Call (.Attribute (.Name x p) m ap) (a::es) [] pos) X.env=(do
    let ov <-eval (.Name x p) X.env
    vK ap.atName
    let (f,first) <-rF [ov] (wC ov m pl)
    callWith pos f first (jJ pos (cW (a::es) X.env)) (vR pos (rY [] X.env))):=by rfl) :
  PE X (.Call (.Attribute (.Name x p) m ap) (a::es) [] pos) (Qo sp BF E t):=by
 intro f' s σ H Q I h;refine sR (pl:=pl) (m8 I hg hm ?_ BU) ht;refine PySem.W.method_cls I.kIn c.ga (PySem.W.cls_value I.kIn c.rd c.fc rfl ?_);refine oW (h₀:=X.base) I.ok.mod.kin c.kp (thn (ha pos f' _ σ H _ (I.tok (s.toks+1)) h) λus s1 zF=>?_) he AL;obtain⟨vs,H1,I1,r,q⟩:=zF;refine⟨I1.kIn,?_⟩;exact Cv F hr hb hd hx I1 r q
end
end L2
namespace S23
open PySem L2 Bits S1 Fly
def J7 (P:aP)(w:aW)(K:aC)(mg:Str->Option aB)(base:Heap)(C:Addr)(k:Nat)(x:Str)(ps:List Str)(sp:Sp):Prop:=
 ∃f d,FnOk P w K mg base CX0 k f d ps sp/\Binds K d ps []/\N2 K C x f
structure MC (K:aC)(C:Addr):Prop where
 cl:Cls K C
 nl:NoAttr K C "letters"
 nw:NoAttr K C "ways"
def MachAt (K:aC)(H:Hp)(C m:Addr)(ls:List (List Int))(k:Nat)(W:Nat->Nat->Rl):Prop:=∃dx r xw,H m=some (.ins C dx [("letters",.ref r),("ways",xw)])/\LetAt K H r ls/\WaysAt H ls.length (k+1) W xw
theorem MachAt.mono {K:aC}{H G:Hp}{C m:Addr}{ls:List (List Int)}{k:Nat}{W:Nat->Nat->Rl}(h:MachAt K H C m ls k W)(s:Same H G):MachAt K G C m ls k W:=by
 obtain⟨dx,r,xw,h1,⟨xs,h2,h3⟩,h4⟩:=h;exact⟨dx,r,xw,s _ _ h1,⟨xs,s _ _ h2,h3.mono s⟩,h4.mono s⟩
def Mb (n k:Nat)(ns:List Int)(T:Nat->Nat->Prop):Prop:=ns.length=k/\∀c m,ns[c]?=some m->MaskP n m (T c)
def Vw (C:Addr):Sp:=λvs H Q _=>∃(m dx:Addr)(y z:V),vs=[.ref m,y,z]/\H m=some (.ins C dx [])/\Q .non (upd H m (.ins C dx [("letters",y),("ways",z)]))
def Cq (rs:List Nat):List V:=rs.map λ(r:Nat)=>V.int (r:Int)
def zo (W:Nat->Nat->Rl)(rs:List Nat)(i:Nat)(c j:Nat):Prop:=∃r,r∈rs/\W r c i j
def Q9 (K:aC)(H:Hp)(C:Addr)(m t lt:Addr)(ls:List (List Int))(k:Nat)(W:Nat->Nat->Rl)(rs:List Nat)(l:List Int):Prop:=
 MachAt K H C m ls k W/\SqT K H t (Cq rs)/\(∀r∈rs,r < k+1)/\rs.length<=400/\SqT K H lt (l.map V.int)/\l∈ls/\ls.length<=300/\k<=300
def Gp (K:aC)(C:Addr):Sp:=λvs H Q _=>∃(m t lt:Addr)(ls:List (List Int)) (k:Nat) (W:Nat->Nat->Rl) (rs:List Nat) (l:List Int),vs=[.ref m,.ref t,.ref lt]/\Q9 K H C m t lt ls k W rs l/\
 ∀(p:Addr)(ns:List Int) (H':Hp),Same H H'->H p=none->H' p=some (.lst (ns.map V.int))->Mb ls.length (k+1) ns (zo W rs (ls.idxOf l))->Q (.ref p) H'
section
variable {P:aP}{w:aW}{K:aC}{mg:Str->Option aB}{base:Heap}{C:Addr}
theorem scRi:au ["self","letters","ways"] ["self","letters","ways"] (aj Dl):=fsN
theorem Po {f:Addr}{fd:bX}(F:Fun K "__init__" "Runs.__init__" Dl f fd)(M:MC K C):FnOk P w K mg base CX0 1 f fd ["self","letters","ways"] (Vw C):=by
 refine F.ok scRi (λvs H Q E h=>?_) (λzH A outer s H vs Q E hr h=>?_)
 ·obtain⟨m,dx,y,z,rfl,_⟩:=h;rfl
 obtain⟨m,dx,y,z,rfl,hm,q⟩:=h;refine⟨_,ag (K1 (pv 0) (pv 1) rfl) (ah (K1 (pv 0) (pv 2) rfl)),?_⟩;dsimp only[bb,Cx.nox];refine⟨_,rfl,_,rfl,m,C,dx,_,rfl,hm,M.cl,M.nl,(by decide),?_⟩;refine⟨_,rfl,_,rfl,m,C,dx,_,rfl,ac,M.cl,M.nw,(by show 1 < 1000;decide),?_⟩;rw[Rp];exact q
theorem Ef:au ["self","rooms","letter","place","masks","room"] ["self","rooms","letter"] (aj yy):=fsN
def Ra:gM:={ kind:=.function,names:=[(".0",.local),("mask",.local),("relation",.local),("place",.free)],isGenerator:=false,isCoroutine:=false,more:=[] }
theorem cMa_ {CX:CXT}{f:Addr}{zH:aB}{A:cQ}{outer:List Env}{s:aG}{H:Hp}{E:XK} :
  bv (bb CX P w K mg base ["self","rooms","letter","place","masks","room"] "Runs.masks_from" (aj yy) f zH A outer s H E).nox ["mask","relation"] ["place"] [3] Ra [("place",s.heap.objs.size+1)]:=csN [(".0",.local),("mask",.local),("relation",.local),("place",.cell)]
theorem Pp {f:Addr}{fd:bX}(F:Fun K "masks_from" "Runs.masks_from" yy f fd)(M:MC K C)(ml:mg "len"=none)(mz:mg "zip"=none):FnOk P w K mg base CX0 1 f fd ["self","rooms","letter"] (Gp K C):=by
 refine F.ok Ef (λvs H Q E h=>?_) (λzH A outer s H vs Q E hr h=>?_)
 ·obtain⟨m,t,lt,ls,k,W,rs,l,rfl,_⟩:=h;rfl
 obtain⟨m,t,lt,ls,k,W,rs,l,rfl,⟨⟨dx,r,xw,hm,⟨xs,AF,BK⟩,ww⟩,ht,hrs,r400,zR,hl,zQ,AW⟩,q⟩:=h;refine⟨_,ag (av (i:=3) Ef.nd rfl (mZ rfl) (mw fQ mQ rQ (Ed (hu8 hr)) (yk (pv 0) rfl) (aa (pv 2) ae))) (ag (av (i:=4) Ef.nd rfl (cD rfl) (ay C1 (az (bz af ae)) (bn bj rfl ml gF (aa (yk (pv 0) rfl) ae)))) (ag (dv eU rfl (pb (pv 1)) (ba (i:=5) Ef.nd rfl (cD rfl)) (ag (i9 (i0:=4) (ns:=["mask","relation"]) (ys:=["place"]) (sc:=Ra) Ef.nd rfl rfl cMa_ rfl (A1 rfl mz (aa (pv 4) (aa (aq ar (yk (pv 0) rfl) (pv 5) (λ_ _=>rfl)) ae))) (λC s H fp=>pg2 rfl) (λC s H fp=>cx) (λC s H fp=>ay Ht (pv 0) (aq (r:=An K) ar (pv 1) (pv 2) (λ_ _=>rfl)))) bo)) (ah (ax (pv 4))))),?_⟩;dsimp only[bb,Cx.nox];obtain⟨a,rows,rfl,ga,la⟩:=id ww;have rl:=la.1;have hj:ls.idxOf l < ls.length:=kK.mpr hl;refine⟨_,rfl,m,C,dx,_,_,rfl,hm,M.cl,M.nl,rfl,.inl ⟨rfl,_,SqL.of AF⟩,_,rfl,r,lt,xs,ls,l,rfl,rfl,SqL.of AF,oy BK,zR,hl,?_⟩;refine⟨sz1,λp0 IV=>?_⟩;have t0:=ad IV (.lst [.int 0]);refine⟨_,rfl,m,C,dx,_,_,rfl,t0 _ _ hm,M.cl,M.nw,rfl,a,_,rfl,.inl (SqL.of (t0 _ _ ga)),p0,_,_,rfl,rfl,ac,(by rw[rl];lia),(by rw[rl];lia),?_,λp1 BC=>?_⟩
 ·rw[rl];show 1 * (((k+1:Nat):Int)).toNat<=sizeLine;exact small (by lia)
 have t1:=ad BC (.lst (dQ (((rows.length:Nat):Int)).toNat [V.int 0]).flatten);have sA:=Same.trans t0 t1;have hp1H:H p1=none:=Same.free t0 BC;refine⟨_,rfl,t,rfl,⟨_,ht.same sA⟩,Aj (K:=K) (a:=t) (xs:=Cq rs) (λi σ G=>∃(b:Addr)(ns:List Int) (v5:Option V),σ=[some (.ref m),some (.ref t),some (.ref lt),some (.int ((ls.idxOf l:Nat):Int)),some (.ref b),v5]/\Same H G/\H b=none/\G b=some (.lst (ns.map V.int))/\Mb ls.length (k+1) ns (zo W (rs.take i) (ls.idxOf l))) ⟨p1,dQ (k+1) 0,none,rfl,sA,hp1H,?_,⟨gO,λc mk e=>?_⟩⟩ (λi σ G _ zF=>by obtain⟨_,_,_,_,sG,_⟩:=zF;exact ht.same sG) ?_ ?_⟩
 ·rw[ac,rl,show(((k+1:Nat):Int)).toNat=k+1 by lia,D5]
 ·rw[List.eq_of_mem_replicate (bK e)];exact(ja _).iff λj _=>⟨λf=>f.elim,λzF=>by obtain⟨_,z,_⟩:=zF;exact by simp at z⟩
 ·intro i x σ G hx zE;obtain⟨b,ns,v5,rfl,sG,hb,gb,mp⟩:=zE;generalize zI:d6.mk _ _ _ _=zV;revert zI zV;refine id ?_;intro zV zI;unfold Cq at hx;rw[cY]at hx;obtain⟨rm,er,rfl⟩:=iU.mp hx;have NQ:=hrs rm (bK er);obtain⟨_,ey,c,zs,rfl,gc,lc⟩:=la.at NQ;have zl:=lc.1;have nl:=mp.1;refine⟨_,rfl,_,rfl,m,C,dx,_,_,rfl,sG _ _ hm,M.cl,M.nw,rfl,_,rfl,a,_,_,_,rfl,rfl,SqL.of (sG _ _ ga),bf ey,b,c,_,_,rfl,SqL.of gb,SqL.of (sG _ _ gc),λD hD=>?_⟩;refine ua (K:=K) (a:=b) (b:=c) (xs:=ns.map V.int) (ws:=zs) (by rw[aI,nl,zl]) (λe ys G2=>Same G G2/\G2 D=some (.lst ys)/\∃us:List Int,ys=us.map V.int/\us.length=e/\∀c mk,us[c]?=some mk->MaskP ls.length mk (zo W (rs.take (i+1)) (ls.idxOf l) c))
   ⟨ad hD _,ac,[],rfl,rfl,λc mk e=>by simp at e⟩ (λi ys G z=>z.2.1) (λi ys G _ z=>⟨SqL.of (z.1 _ _ gb),SqL.of (z.1 _ _ (sG _ _ gc))⟩) ?_ ?_ ?_
  ·intro e ys G2 he zE;obtain⟨s2,gD,us,rfl,ul,um⟩:=zE;rw[aI,nl]at he;exact be (by rw[aI];lia)
  ·intro e x y tt ys G2 FJ hy zE VA;obtain⟨s2,gD,us,rfl,ul,um⟩:=zE;obtain⟨mk,emk,rfl⟩:=g8 FJ;obtain⟨rr,nr,rfl,grr,rrel⟩:=(lc.2 e y hy).mono (Same.trans sG s2);have Dt:D≠tt:=am gD VA;have ts:=ad VA (.tup [.int mk,.ref rr]);obtain⟨v,ev,mv⟩:=rrel.at hj;have vv:(nr.map V.int)[ls.idxOf l]?=some (.int v):=(by rw[cY,ev];rfl);refine⟨tt,_,rfl,SqT.of ac,rfl,_,_,rfl,_,_,rfl,rfl,⟨[some _,some _],rfl,rfl⟩,?_⟩;refine⟨_,rfl,_,rfl,_,rfl,rr,_,_,_,rfl,rfl,SqL.of (ts _ _ grr),bf vv,_,_,rfl,rfl,ts _ _ gD,Same.put (Same.trans s2 ts) hD _,ac,us++[nV mk v],(by rw[cU];rfl),(by rw[aO,ul];rfl),λc' mk' e'=>?_⟩;by_cases hc:c' < us.length
   ·rw[eB hc]at e';exact um c' mk' e'
   ·rw[fZ (by lia)]at e';have h0:=(aL.mp e').1;simp only[cX,qL]at h0;have ec:c'=e:=(by lia);subst ec;rw[show c' - us.length=0 by lia]at e';cases e';refine(qv (mp.2 c' mk emk) mv).iff λj hjj=>?_;have tk:rs.take (i+1)=rs.take i++[rm]:=(by rw[eJ,er];rfl);unfold zo;rw[tk];constructor
    ·rintro(⟨r0,h1,h2⟩ | h)
     ·exact⟨r0,oB _ h1,h2⟩
     ·exact⟨rm,fK _ (aY.mpr rfl),h⟩
    ·intro zE;obtain⟨r0,h1,h2⟩:=zE;rcases eC.mp h1 with z | z
     ·exact .inl ⟨r0,z,h2⟩
     ·rw[aY.mp z]at h2;exact .inr h2
  ·intro ys G2 zE;obtain⟨s2,gD,us,rfl,ul,um⟩:=zE;rw[aI,nl]at ul;subst zI;exact⟨D,us,_,rfl,Same.trans sG s2,Same.free sG hD,gD,ul,um⟩
 ·intro σ G zE;obtain⟨b,ns,v5,rfl,sG,hb,gb,mp⟩:=zE;unfold Cq at mp;rw[aI,eZ]at mp;exact⟨_,rfl,q b ns G sG hb gb mp⟩
end
theorem zp {K:aC}{H:Hp}{xs:List V}{ls:List (List Int)}(h:Holds K H xs (ls.map fj))(m:Int):∀k,k<=xs.length->Holds K H (pick m xs k) ((pick m ls k).map fj)
 |0,_=>.nil
 |k+1,hk=>by
  have ih:=zp h m k (by lia);have ex:xs[k]?=some xs[k]:=aK (by lia);obtain⟨l,el,hl⟩:=h.getm ex;cases hb:m.toNat.testBit k with
  |true=>
   rw[xh hb ex,xh hb el,cU];exact ih.append (.one hl)
  |false=>
   rw[A2 hb,A2 hb];exact ih
def Gq (K:aC)(C:Addr):Sp:=λvs H Q _=>∃(m t lt:Addr)(ls:List (List Int)) (k:Nat) (W:Nat->Nat->Rl) (rs:List Nat) (l:List Int),vs=[.ref m,.ref t,.ref lt]/\Q9 K H C m t lt ls k W rs l/\
 ∀(p:Addr)(mk:Int) (H':Hp),Same H H'->H p=none->MaskP ls.length mk (zo W rs (ls.idxOf l) 0)->LetAt K H' p (pick mk ls ls.length)->Q (.ref p) H'
def Eg (K:aC)(C:Addr):Sp:=λvs H Q _=>∃(m lt:Addr)(ls:List (List Int)) (k:Nat) (W:Nat->Nat->Rl) (r:Nat) (l:List Int),vs=[.ref m,.int (r:Int),.ref lt]/\MachAt K H C m ls k W/\r < k+1/\SqT K H lt (l.map V.int)/\l∈ls/\ls.length<=300/\k<=300/\
 ∀(p:Addr)(mk:Int) (H':Hp),Same H H'->H p=none->MaskP ls.length mk (W r 0 (ls.idxOf l))->LetAt K H' p (pick mk ls ls.length)->Q (.ref p) H'
section
variable {P:aP}{w:aW}{K:aC}{mg:Str->Option aB}{base:Heap}{C:Addr}
theorem scEf:au ["self","rooms","letter"] ["self","rooms","letter"] (aj Dm):=fsN
theorem Pq {f:Addr}{fd:bX}(F:Fun K "ends_from" "Runs.ends_from" Dm f fd)(M:MC K C)(hL:Has P w K mg base 1 "letters_in" ["letters","mask"] (Gi K))(hM:J7 P w K mg base C 1 "masks_from" ["self","rooms","letter"] (Gp K C)) :
  FnOk P w K mg base CX0 2 f fd ["self","rooms","letter"] (Gq K C):=by
 obtain⟨fL,dL,GL,bL,kL,mL⟩:=hL;obtain⟨fM,dM,GM,bM,me⟩:=hM;refine F.ok scEf (λvs H Q E h=>?_) (λzH A outer s H vs Q E hr h=>?_)
 ·obtain⟨m,t,lt,ls,k,W,rs,l,rfl,_⟩:=h;rfl
 obtain⟨m,t,lt,ls,k,W,rs,l,rfl,as,q⟩:=h;refine⟨_,ah (ax (ao GL hr rfl mL kL bL .nil aw (aa (yk (pv 0) rfl) (aa (aq ar (vd (pv 0) M.cl me GM hr bM .nil aw (aa (pv 1) (aa (pv 2) ae))) af (λ_ _=>rfl)) ae)))),?_⟩;dsimp only[bb,Cx.nox];obtain⟨⟨dx,r,xw,hm,⟨xs,AF,BK⟩,ww⟩,_,_,_,_,_,zQ,AW⟩:=id as;have xl:xs.length=ls.length:=(by rw[BK.length,aI]);refine⟨_,rfl,m,C,dx,_,_,rfl,hm,M.cl,M.nl,rfl,_,rfl,m,dx,_,rfl,hm,rfl,_,rfl,_,rfl,m,t,lt,ls,k,W,rs,l,rfl,as,λp1 ns G1 s1 h1 g1 mp=>?_⟩;have nl:=mp.1;have e0:ns[0]?=some (ns[0]'(by lia)):=aK (by lia);have v0:(ns.map V.int)[0]?=some (.int (ns[0]'(by lia))):=(by rw[cY,e0];rfl);have m0:=mp.2 0 _ e0;refine⟨p1,_,_,_,rfl,rfl,SqL.of g1,bf (j:=0) v0,r,ls.length,_,xs,rfl,m0.1,SqL.of (s1 _ _ AF),by lia,λp2 G2 s2 h2 g2=>?_⟩;have BD:=Same.trans s1 s2;rw[xl]at g2;refine q p2 _ G2 BD (Same.free s1 h2) m0 ⟨_,g2,?_⟩;exact zp (BK.mono BD) _ _ (by lia)
theorem scEn:au ["self","room","letter"] ["self","room","letter"] (aj Ja):=fsN
theorem Te {f:Addr}{fd:bX}(F:Fun K "ends" "Runs.ends" Ja f fd)(M:MC K C)(hE:J7 P w K mg base C 2 "ends_from" ["self","rooms","letter"] (Gq K C)):FnOk P w K mg base CX0 3 f fd ["self","room","letter"] (Eg K C):=by
 obtain⟨fE,dE,GE,bE,me⟩:=hE;refine F.ok scEn (λvs H Q E h=>?_) (λzH A outer s H vs Q E hr h=>?_)
 ·obtain⟨m,lt,ls,k,W,r,l,rfl,_⟩:=h;rfl
 obtain⟨m,lt,ls,k,W,r,l,rfl,ma,hrk,zR,hl,zQ,AW,q⟩:=h;refine⟨_,ah (ax (vd (pv 0) M.cl me GE hr bE .nil aw (aa (c9 (aa (pv 1) ae)) (aa (pv 2) ae)))),?_⟩;obtain⟨dx,r1,xw,hm,_⟩:=id ma;refine⟨_,rfl,m,dx,_,rfl,hm,rfl,_,rfl,sz1,λt ht=>?_⟩;have tt:=ad ht (.tup [.int (r:Int)]);refine⟨_,rfl,m,t,lt,ls,k,W,[r],l,rfl,⟨ma.mono tt,SqT.of ac,λr' DM=>(by rw[aY.mp DM];exact hrk),(by show 1<=400;decide),zR.same tt,hl,zQ,AW⟩,λp mk H' s1 h1 mp la=>?_⟩;exact q p mk H' (Same.trans tt s1) (Same.free tt h1) (mp.iff λj _=>⟨λzF=>by obtain⟨r',z1,z2⟩:=zF;exact by rw[aY.mp z1]at z2;exact z2,λz=>⟨r,aY.mpr rfl,z⟩⟩) la
end
def Vx (K:aC)(C cF cV cT:Addr):Sp:=λvs H Q E=>∃(m dx sp:Addr)(ws:List (Str×Nat)) (x:V) (s:Say),vs=[.ref m,.ref sp,x]/\H m=some (.ins C dx [])/\Hold K H (.ref sp) (cy ws)/\br ws/\Hold K H x s.da/\s.size<=500/\s.nts<=300/\
 (s.due ws=none->∀H',Same (bi H m) H'->MachAt K H' C m (LL ws) s.rm (s.W ws)->Q .non H')/\(∀f,s.due ws=some f->FOut K H E cF cV cT f)
def J8 (H H':Hp):Prop:=∀b xs,H b=some (.lst xs)->H' b=some (.lst xs)
theorem RelAt.lsts {H H':Hp}{n:Nat}{R:Rl}{x:V}(e:J8 H H')(h:RelAt H n R x):RelAt H' n R x:=by
 obtain⟨a,ns,rfl,g,r⟩:=h;exact⟨a,ns,rfl,e _ _ g,r⟩
theorem RowAt.lsts {H H':Hp}{n k:Nat}{W:Nat->Rl}{x:V}(e:J8 H H')(h:RowAt H n k W x):RowAt H' n k W x:=by
 obtain⟨a,xs,rfl,g,r⟩:=h;exact⟨a,xs,rfl,e _ _ g,r.imp λ_ _ _ z=>z.lsts e⟩
theorem WaysAt.lsts {H H':Hp}{n k:Nat}{W:Nat->Nat->Rl}{x:V}(e:J8 H H')(h:WaysAt H n k W x):WaysAt H' n k W x:=by
 obtain⟨a,xs,rfl,g,r⟩:=h;exact⟨a,xs,rfl,e _ _ g,r.imp λ_ _ _ z=>z.lsts e⟩
section
variable {P:aP}{w:aW}{K:aC}{mg:Str->Option aB}{base:Heap}{C cF cV cT cR:Addr}
theorem Vy:au ["self","speech","saying","letters"] ["self","speech","saying"] (aj Do):=fsN
theorem Pr {f fM fR:Addr}{fd dM dR:bX}(F:Fun K "__init__" "Machine.__init__" Do f fd)
  (GM:FnOk P w K mg base (CXx P w) 6 fM dM ["speech","saying"] (Jo K cF cV cT)) (bM:Binds K dM ["speech","saying"] []) (kM:aV K (.ref fM)=true) (mM:mg "must_saying"=some (.ref fM))
  (hL:Has P w K mg base 2 "letters_of" ["speech"] (Bu K)) (hW:Has P w K mg base 7 "ways_of" ["speech","letters","saying"] (Ma K))
  (GR:FnOk P w K mg base CX0 1 fR dR ["self","letters","ways"] (Vw C)) (bR:Binds K dR ["self","letters","ways"] []) (cm:Vv K cR "__init__" fR) (mR:mg "Runs"=some (.ref cR)) :
  FnOk P w K mg base (CXx P w) 8 f fd ["self","speech","saying"] (Vx K C cF cV cT):=by
 obtain⟨fL,dL,GL,bL,kL,mL⟩:=hL;obtain⟨fW,dW,GW,bW,kW,mW⟩:=hW;refine F.okX Vy (λvs H Q E h=>?_) (λzH A outer s H vs Q E hr h=>?_)
 ·obtain⟨m,dx,sp,ws,x,sy,rfl,_⟩:=h;rfl
 obtain⟨m,dx,sp,ws,x,sy,rfl,hm,zU,HJ,hx,AB,zQ,q1,q2⟩:=h;refine⟨_,ag (cw (ao GM (hr.mono (by decide)) rfl mM kM bM .nil jw (aa (pv 1) (aa (pv 2) ae)))) (ag (av (i:=3) Vy.nd rfl (cD rfl) (ao GL (hr.mono (by decide)) rfl mL kL bL .nil aw (aa (pv 1) ae))) (ah (cw (Pn cm GR (hr.mono (by decide)) rfl mR bR .nil aw (aa (pv 0) (aa (pv 3) (aa (ao GW hr rfl mW kW bW .nil aw (aa (pv 1) (aa (pv 3) (aa (pv 2) ae)))) ae))))))),?_⟩;refine⟨_,rfl,_,rfl,sp,x,ws,sy,rfl,zU,hx,AB,λdu G1 s1=>?_,q2⟩;refine⟨_,rfl,sp,ws,rfl,zU.mono s1,HJ,λr G2 s2 h2 la=>?_⟩;have BD:=Same.trans s1 s2;refine⟨_,rfl,_,rfl,_,rfl,_,rfl,_,rfl,sp,r,ws,x,sy,rfl,⟨zU.mono BD,la,HJ⟩,hx.mono BD,du,AB,zQ,λy G3 s3 wy=>?_⟩;have CS:=Same.trans BD s3;have gm:=CS _ _ hm;refine⟨m,dx,.ref r,y,rfl,gm,q1 du _ ?_ ?_⟩
 ·intro b o e;have hb:b≠m:=λz=>(by subst z;unfold bi at e;rw[if_pos rfl]at e;cases e);rw[ai hb];exact CS _ _ (hide_le _ _ e)
 ·have nm:∀{b:Addr}{o:HO},G3 b=some o->(∀fs,o≠.ins C dx fs)->b≠m:=λ{b o} e n z=>(by subst z;rw[gm]at e;cases e;exact n _ rfl);have tp:Tups G3 (upd G3 m (.ins C dx [("letters",.ref r),("ways",y)])):=⟨λb xs e=>by rw[ai (nm e (λ_ z=>nomatch z))];exact e,λb o u e=>by rw[ai (nm e (λ_ z=>nomatch z))];exact e⟩;have lp:J8 G3 (upd G3 m (.ins C dx [("letters",.ref r),("ways",y)])):=λb xs e=>(by rw[ai (nm e (λ_ z=>nomatch z))];exact e);obtain⟨xs,gx,AI⟩:=la;exact⟨dx,r,y,ac,⟨xs,lp _ _ (s3 _ _ gx),(AI.mono s3).stay tp (df gg _)⟩,wy.lsts lp⟩
end
end S23
namespace L2
open PySem PyProof.Rows
section
variable {X:Cx}{pos:Pos}
theorem By (ns:List Int):∀n,vX (λi=>ns.getD i 0) n=(ns.take n).sum
 |0=>by simp[vX]
 |n+1=>by
  show vX (λi=>ns.getD i 0) n+ns.getD n 0=_;rw[By ns n,eJ,tQ,gI];cases ns[n]?<;>simp
def Xf (K:aC):List V->Hp->VK->Prop:=λxs H Q=>∃(a:Addr)(ns:List Int),xs=[.ref a]/\SqL K H a (ns.map V.int)/\ns.length<=1000/\(∀n∈ns,-1000000<=n/\n<=1000000)/\Q (.int ns.sum) H
theorem Mc (hc:X.calm=true):jr X (.builtin "sum") (Xf X.K):=by
 intro f' s σ H xs us Q I r h;obtain⟨a,ns,rfl,hq,h1000,hr,q⟩:=h;obtain⟨u,rfl,ru⟩:=jf r;cases ru;obtain⟨its,rv,pl,hz⟩:=I.list hq;have hl:=pl.isList;have lt:a < s.heap.objs.size:=(by obtain⟨o,ho,_⟩:=hl;exact aZ ho);have I1:Inv X f' σ H { s with heap:=s.heap.push { cls:=.type "list_iterator",data:=.fields #[.ref a,.int 0 0] } }:=I.kept (t':=s.toks) λb o e=>aJ _ e;have fI:ij X f' H s.heap.objs.size:=I.fpOk (aN _) (I.hok.fresh (aN _));have len:its.length=ns.length:=(by rw[<-rv.length,aI]);have DX:∀(i:Nat)(v:aB),its.toArray[i]?=some v->∃t,v=.int (ns.getD i 0) t:=λi v e=>by
  have e':its[i]?=some v:=(by simpa using e);have hi:i < ns.length:=(by rw[<-len];exact(aL.mp e').1);obtain⟨u,f1,ru⟩:=rv.get (i:=i) (x:=.int ns[i]) (by rw[cY,aK hi];rfl);rw[e']at f1;cases f1;obtain⟨t,rfl⟩:=ru;exact⟨t,by rw[gI,aK hi];rfl⟩
 have VB:∀j,j < ns.length->-1000000<=ns.getD j 0/\ns.getD j 0<=1000000:=λj hj=>by
  rw[gI,aK hj];exact hr _ (pW hj)
 refine call_sum_walk (iM hl ⟨s.heap.objs.size,[s.heap.objs.size,a],[s.heap.objs.size],its.toArray.size,_,_,λi=>ns.getD i 0,rfl,yW (show X.A.in1.handled=none from I.ok.hd hc) s.heap.objs.size a (cK lt) its.toArray,⟨⟨_,bV _ rfl,rfl,rfl⟩,pV hl _⟩,λb hb=>?_,DX,λj hj=>?_,λh' tk t' kk=>?_⟩)
 ·show b < (s.heap.push _).objs.size;rw[gK];simp only[aU,eY,or_false]at hb;rcases hb with z | z
  ·rw[z];exact oH _
  ·rw[z];exact rW lt
 ·rw[aS,len]at hj;have b1:=VB j hj;have b2:=Bo (val:=λi=>ns.getD i 0) (n:=ns.length) VB (j+1) (by lia);show InLong (ns.getD j 0)/\InLong (vX (λi=>ns.getD i 0) (j+1));exact⟨⟨by lia,by lia⟩,⟨by lia,by lia⟩⟩
 ·refine⟨.int _,H,I1.turnedAll (t':=tk) (ch:=[s.heap.objs.size]) (λb hb=>?_) (λb o hb e=>kk b o hb e),⟨t',rfl⟩,by rw[aS,len,By,eZ];exact q⟩;cases aY.mp hb;exact⟨fI.1,fI.2.1,fI.2.2.1,fI.2.2.2.1,fI.2.2.2.2.1,fI.2.2.2.2.2⟩
end
end L2
namespace S23
open PySem L2 Bits S1 Fly PyProof.Rows
structure LsOk (ls:List (List Int)):Prop where
 nd:ls.Nodup
 few:ls.length<=300
 box:∃m,(m=1\/m=2\/m=3)/\∀l∈ls,l.length=m/\∀v∈l,0<=v/\v < 6
theorem Rb {ws:List (Str×Nat)}(h:br ws):LsOk (LL ws) where
 nd:=ig _
 few:=bQ (Cp h) (by decide)
 box:=by
  refine⟨ws.length,by have:=h.lo;have:=h.hi;lia,λl hl=>?_⟩;have g:=fk (ws.map (·.2));refine⟨by rw[g.wide l hl,aI],λv hv=>?_⟩;obtain⟨i,hi⟩:=List.mem_iff_getElem?.mp hv;obtain⟨c,hc,h0,h1⟩:=g.rng l hl i v hi;obtain⟨x,hx,rfl⟩:=jD.mp (bK hc);have:=(h.cnt x hx).2;exact⟨h0,by lia⟩
def Re (K:aC)(cP:Addr):Sp:=λvs H Q E=>∃(x:V)(s:Say),vs=[x]/\Hold K H x s.da/\s.size<=500/\(s.nts=0->∀H',Same H H'->Q .non H')/\(s.nts≠0->∀dx y H',Same H H'->H' dx=some (.xd [("saying",y)])->Hold K H' y s.da->E (.ref cP) (some dx) H')
structure Ask (K:aC)(H:Hp)(sp lt:Addr)(x:V)(ws:List (Str×Nat))(s:Say)(l:List Int):Prop where
 sp:Hold K H (.ref sp) (cy ws)
 ok:br ws
 say:Hold K H x s.da
 size:s.size<=500
 nts:s.nts<=5
 lt:SqT K H lt (l.map V.int)
 mem:l∈LL ws
theorem Ask.mono {K:aC}{H G:Hp}{sp lt:Addr}{x:V}{ws:List (Str×Nat)}{s:Say}{l:List Int}(h:Ask K H sp lt x ws s l)(e:Same H G):Ask K G sp lt x ws s l:=⟨h.sp.mono e,h.ok,h.say.mono e,h.size,h.nts,h.lt.same e,h.mem⟩
def Md (K:aC)(cF cV cT cP:Addr):Sp:=λvs H Q E=>∃(sp lt:Addr)(x:V) (ws:List (Str×Nat)) (s:Say) (l:List Int),vs=[.ref sp,x,.ref lt]/\Ask K H sp lt x ws s l/\
 (∀f,s.due ws=some f->FOut K H E cF cV cT f)/\
 (s.due ws=none->s.nts≠0->∀dx y H',Same H H'->H' dx=some (.xd [("saying",y)])->Hold K H' y s.da->E (.ref cP) (some dx) H')/\
 (s.due ws=none->s.nts=0->∀(p:Addr)(mk:Int) (H':Hp),Same H H'->H p=none->MaskP (LL ws).length mk (s.W ws 0 0 ((LL ws).idxOf l))->LetAt K H' p (pick mk (LL ws) (LL ws).length)->Q (.ref p) H')
def Mg (K:aC)(cF cV cT:Addr):Sp:=λvs H Q E=>∃(sp lt:Addr)(x:V) (ws:List (Str×Nat)) (s:Say) (l:List Int),vs=[.ref sp,x,.ref lt]/\Ask K H sp lt x ws s l/\
 (∀f,s.due ws=some f->FOut K H E cF cV cT f)/\
 (s.due ws=none->s.isT=false->FOut K H E cF cV cT (.test s))/\
 (s.due ws=none->s.isT=true->∀(mk:Int)(H':Hp),Same H H'->MaskP (LL ws).length mk (s.W ws 0 0 ((LL ws).idxOf l))->Q (.bl (decide (pick mk (LL ws) (LL ws).length≠[]))) H')
theorem Eh {H:Hp}{m dx:Addr}{o1 o2:HO}(hm:H m=none)(hd:H dx=none):Same H (bi (upd (upd H dx o1) m o2) m):=λb o e=>by
 have h1:b≠m:=am e hm;have h2:b≠dx:=am e hd;unfold bi;rw[if_neg h1,ai h1,ai h2];exact e
section
variable {P:aP}{w:aW}{K:aC}{mg:Str->Option aB}{base:Heap}{C cF cV cT cP cG:Addr}
theorem Xg:au ["saying"] ["saying"] (aj Ar):=fsN
theorem Mh {f fN fI:Addr}{fd VC EC:bX}(F:Fun K "must_plain" "must_plain" Ar f fd)(c:j4 K cP)(n:NoAttr K cP "saying")(hi:cH K (.ref cP) "__init__"=some (some (.ref fI)))(lf:∃oI,K.lookup fI=some oI/\oI.cls=.type "function")
  (GI:FnOk P w K mg base CX0 1 fI EC ["self","saying"] (jx K cP "saying" λ_=>True)) (bI:Binds K EC ["self","saying"] []) (mC:mg "NoPlain"=some (.ref cP))
  (GN:FnOk P w K mg base CX0 3 fN VC ["saying"] (Qt K)) (bN:Binds K VC ["saying"] []) (kN:aV K (.ref fN)=true) (mN:mg "notes_in"=some (.ref fN)):FnOk P w K mg base (CXx P w) 4 f fd ["saying"] (Re K cP):=by
 refine F.okX Xg (λvs H Q E h=>?_) (λzH A outer s H vs Q E hr h=>?_)
 ·obtain⟨x,sy,rfl,_⟩:=h;rfl
 obtain⟨x,sy,rfl,hx,AB,q1,q2⟩:=h;refine⟨_,ah (cn (qg (ao GN hr rfl mN kN bN .nil aw (aa (pv 0) ae)) (λ_=>rfl)) (ah (qp c (qo c hi lf GI (hr.mono (by decide)) rfl mC bI (aa (pv 0) ae)))) bo),?_⟩;dsimp only[bb,Cx.nox];refine⟨_,rfl,x,sy,rfl,hx,AB,λG1 s1=>⟨((sy.nts:Int) != 0),rfl,?_⟩⟩;refine cz (λc0=>?_) (λc0=>?_)
 ·have nz:sy.nts≠0:=λz=>(by rw[z]at c0;exact absurd c0 (by decide));refine⟨_,rfl,(by show 1<=100;decide),λe he=>⟨e,x,rfl,c,n,trivial,ac,λdx hd ne=>⟨rfl,e,some dx,rfl,ac,Same.free s1 he,?_⟩⟩⟩;obtain⟨z1,z2,_⟩:=n9 (o2:=.xd [("saying",x)]) (o3:=fh e cP (some dx)) he hd ne;exact q2 nz dx x _ (Same.trans s1 z1) z2 (Hold.mono (Same.trans s1 z1) hx)
 ·have nz:sy.nts=0:=by
   have z:((sy.nts:Int) != 0)=false:=(by simpa using c0);have z':(sy.nts:Int)=0:=(by simpa using z);lia
  exact q1 nz G1 s1
structure MkM (P:aP)(w:aW)(K:aC)(mg:Str->Option aB)(base:Heap)(C cF cV cT fI:Addr)(dI:bX):Prop where
 c:Mk K C fI
 ok:FnOk P w K mg base (CXx P w) 8 fI dI ["self","speech","saying"] (Vx K C cF cV cT)
 b:Binds K dI ["self","speech","saying"] []
 m:mg "Machine"=some (.ref C)
theorem scDo:au ["speech","saying","letter"] ["speech","saying","letter"] (aj Jd):=fsN
theorem Tf {f fI fS fP:Addr}{fd dI dS dP:bX}(F:Fun K "done" "done" Jd f fd)(M:MkM P w K mg base C cF cV cT fI dI)(MM:MC K C)
  (GS:FnOk P w K mg base (CXx P w) 6 fS dS ["speech","saying"] (Jo K cF cV cT)) (bS:Binds K dS ["speech","saying"] []) (kS:aV K (.ref fS)=true) (mS:mg "must_saying"=some (.ref fS))
  (GP:FnOk P w K mg base (CXx P w) 4 fP dP ["saying"] (Re K cP)) (bP:Binds K dP ["saying"] []) (kP:aV K (.ref fP)=true) (mP:mg "must_plain"=some (.ref fP))
  (hE:J7 P w K mg base C 3 "ends" ["self","room","letter"] (Eg K C)) :
  FnOk P w K mg base (CXx P w) 10 f fd ["speech","saying","letter"] (Md K cF cV cT cP):=by
 obtain⟨fE,dE,GE,bE,mE⟩:=hE;refine F.okX scDo (λvs H Q E h=>?_) (λzH A outer s H vs Q E hr h=>?_)
 ·obtain⟨sp,lt,x,ws,sy,l,rfl,_⟩:=h;rfl
 obtain⟨sp,lt,x,ws,sy,l,rfl,ak,q0,q1,q2⟩:=h;refine⟨_,ag (cw (ao GS (hr.mono (by decide)) rfl mS kS bS .nil jw (aa (pv 0) (aa (pv 1) ae)))) (ag (cw (ao GP (hr.mono (by decide)) rfl mP kP bP .nil jw (aa (pv 1) ae))) (ah (ax (vd (Ft M.c M.ok hr rfl M.m M.b .nil jw (aa (pv 0) (aa (pv 1) ae))) MM.cl mE GE (hr.mono (by decide)) bE .nil aw (aa af (aa (pv 2) ae)))))),?_⟩;have rl:=J4 sy;have n5:=ak.nts;have n3:=(Rb ak.ok).few;refine⟨_,rfl,_,rfl,sp,x,ws,sy,rfl,ak.sp,ak.say,ak.size,λdu G1 s1=>?_,q0⟩;have a1:=ak.mono s1;refine⟨_,rfl,x,sy,rfl,a1.say,ak.size,λnz G2 s2=>?_,λnz dx y G2 s2=>q1 du nz dx y G2 (Same.trans s1 s2)⟩;have BD:=Same.trans s1 s2;have a2:=ak.mono BD;refine⟨_,rfl,_,rfl,λm dx hm hd ne=>?_⟩;have sN:Same G2 (upd (upd G2 dx (.own m)) m (.ins C dx [])):=λb o e=>(by rw[ai (am e hm),ai (am e hd)];exact e);refine⟨m,dx,sp,ws,x,sy,rfl,ac,a2.sp.mono sN,ak.ok,a2.say.mono sN,ak.size,by lia,λ_ G3 s3 ma=>⟨rfl,?_⟩,λf z=>by rw[du]at z;cases z⟩;have QQ:=Same.trans (Eh hm hd) s3;have CS:=Same.trans BD QQ;obtain⟨QR,r1,xw,gm,_⟩:=id ma;refine⟨m,QR,_,rfl,gm,rfl,_,rfl,m,lt,LL ws,sy.rm,sy.W ws,0,l,rfl,ma,xU _,ak.lt.same CS,ak.mem,n3,by lia,λp mk G4 s4 hp mp la=>?_⟩;exact q2 du nz p mk G4 (Same.trans CS s4) (Same.free CS hp) mp la
theorem scSo:au ["speech","test","letter"] ["speech","test","letter"] (aj Je):=fsN
theorem Tg {f fI fS fT:Addr}{fd dI dS dT:bX}(F:Fun K "is_so" "is_so" Je f fd)(M:MkM P w K mg base C cF cV cT fI dI)(MM:MC K C)
  (GS:FnOk P w K mg base (CXx P w) 6 fS dS ["speech","saying"] (Jo K cF cV cT)) (bS:Binds K dS ["speech","saying"] []) (kS:aV K (.ref fS)=true) (mS:mg "must_saying"=some (.ref fS))
  (GT:FnOk P w K mg base (CXx P w) 4 fT dT ["saying"] (Ot K cT)) (bT:Binds K dT ["saying"] []) (kT:aV K (.ref fT)=true) (mT:mg "must_test"=some (.ref fT))
  (hE:J7 P w K mg base C 3 "ends" ["self","room","letter"] (Eg K C)) :
  FnOk P w K mg base (CXx P w) 10 f fd ["speech","test","letter"] (Mg K cF cV cT):=by
 obtain⟨fE,dE,GE,bE,mE⟩:=hE;refine F.okX scSo (λvs H Q E h=>?_) (λzH A outer s H vs Q E hr h=>?_)
 ·obtain⟨sp,lt,x,ws,sy,l,rfl,_⟩:=h;rfl
 obtain⟨sp,lt,x,ws,sy,l,rfl,ak,q0,q1,q2⟩:=h;refine⟨_,ag (cw (ao GS (hr.mono (by decide)) rfl mS kS bS .nil jw (aa (pv 0) (aa (pv 1) ae)))) (ag (cw (ao GT (hr.mono (by decide)) rfl mT kT bT .nil jw (aa (pv 1) ae))) (ah (ax (na (vn hr.units) (vd (Ft M.c M.ok hr rfl M.m M.b .nil jw (aa (pv 0) (aa (pv 1) ae))) MM.cl mE GE (hr.mono (by decide)) bE .nil aw (aa af (aa (pv 2) ae))) (az ae) (bg _))))),?_⟩;dsimp only[bb,Cx.nox];have rl:=J4 sy;have n5:=ak.nts;have n3:=(Rb ak.ok).few;refine⟨_,rfl,_,rfl,sp,x,ws,sy,rfl,ak.sp,ak.say,ak.size,λdu G1 s1=>?_,q0⟩;have a1:=ak.mono s1;refine⟨_,rfl,x,sy,rfl,a1.say,ak.size,λnz G2 s2=>?_,λnz dx y G2 s2=>q1 du nz dx y G2 (Same.trans s1 s2)⟩;have BD:=Same.trans s1 s2;have a2:=ak.mono BD;refine⟨_,rfl,_,rfl,λm dx hm hd ne=>?_⟩;have sN:Same G2 (upd (upd G2 dx (.own m)) m (.ins C dx [])):=λb o e=>(by rw[ai (am e hm),ai (am e hd)];exact e);refine⟨m,dx,sp,ws,x,sy,rfl,ac,a2.sp.mono sN,ak.ok,a2.say.mono sN,ak.size,by lia,λ_ G3 s3 ma=>⟨rfl,?_⟩,λf z=>by rw[du]at z;cases z⟩;have QQ:=Same.trans (Eh hm hd) s3;have CS:=Same.trans BD QQ;obtain⟨QR,r1,xw,gm,_⟩:=id ma;refine⟨m,QR,_,rfl,gm,rfl,_,rfl,m,lt,LL ws,sy.rm,sy.W ws,0,l,rfl,ma,xU _,ak.lt.same CS,ak.mem,n3,by lia,λp mk G4 s4 _ mp la=>?_⟩;obtain⟨xs,gp,AI⟩:=la;have LJ:=Same.trans CS s4;have xl:xs.length=(pick mk (LL ws) (LL ws).length).length:=(by rw[AI.length,aI]);refine⟨sz0,λl0 CM=>?_⟩;have t0:=ad CM (.lst []);refine⟨p,l0,xs,[],rfl,rfl,SqL.of (t0 _ _ gp),SqL.of ac,?_⟩;have qq:=q2 du nz mk _ (Same.trans LJ t0) mp;cases xs with
 |nil=>
  have e:pick mk (LL ws) (LL ws).length=[]:=iB.mp xl.symm;rw[e]at qq;exact .inr ⟨[],.nil,.nil,by decide,qq⟩
 |cons y r=>
  have e:pick mk (LL ws) (LL ws).length≠[]:=λz=>(by rw[z]at xl;cases xl);rw[decide_eq_true e]at qq;exact .inl ⟨by simp,qq⟩
end
section
variable {P:aP}{w:aW}{K:aC}{mg:Str->Option aB}{base:Heap}
theorem mh:au ["_law_cell_here","_law_least","_law_purse_here","_law_first","_law_letters_here","_law_left","_law_many","_law_tail","_law_speech_here","_law_k","_law_count","_law_word"] ["_law_cell_here","_law_least"] (aj As):=⟨rfl,rfl,rfl,by decide +kernel,rfl,by decide +kernel,by decide +kernel⟩
def abc:Str:="abcdefghijklmnopqrstuvwxyz"
theorem Th:abc.cps.toList.length=26:=by decide +kernel
theorem Ti:∀c∈abc.cps.toList,97<=c/\c<=122:=by decide +kernel
theorem Vz {v:Int}(h0:0<=v)(h1:v < 26):∃c,atI abc.cps.toList v=some c/\97<=c/\c<=122:=by
 have hk:v.toNat < abc.cps.toList.length:=(by rw[Th];lia);have ek:v=((v.toNat:Nat):Int):=(by lia);have q:atI abc.cps.toList ((v.toNat:Nat):Int)=some abc.cps.toList[v.toNat]:=bf (aK hk);rw[<-ek]at q;exact⟨_,q,Ti _ (pW hk)⟩
theorem Ps {v:Int}(h0:0<=v)(h1:v < 8):∀c∈(oY ("abcdefg":Str) none (some v)).cps.toList,97<=c/\c<=122:=by
 have z:v=0\/v=1\/v=2\/v=3\/v=4\/v=5\/v=6\/v=7:=(by lia);rcases z with z | z | z | z | z | z | z | z<;>subst z<;>decide +kernel
theorem Mi {c:Nat}{x:Str}(hc:97<=c/\c<=122)(hl:x.length<=7)(hx:∀c∈x.cps.toList,97<=c/\c<=122):t9 (⟨#[c]⟩++x) where
 len:=by rw[xE];show 1+x.length<=8;lia
 cps:=λd hd=>by
  have e:((⟨#[c]⟩:Str)++x).cps.toList=c::x.cps.toList:=by
   show(#[c]++x.cps).toList=_;simp
  rw[e]at hd;rcases aU.mp hd with q | q
  ·rw[q];exact hc
  ·exact hx d q
def Mj (K:aC):Sp:=λvs H Q _=>∃(a:Addr)(k:Int) (ns:List Int),vs=[.ref a,.int k]/\SqL K H a (ns.map V.int)/\0<=k/\∀x:Int,Q (.int x) H
theorem scCe:au ["_law_script","_law_k"] ["_law_script","_law_k"] (aj Iv):=⟨rfl,rfl,rfl,by decide +kernel,rfl,by decide +kernel,by decide +kernel⟩
theorem Tj {f:Addr}{fd:bX}(F:Fun K "_law_cell" "_law_cell" Iv f fd)(ml:mg "len"=none):FnOk P w K mg base CX0 1 f fd ["_law_script","_law_k"] (Mj K):=by
 refine F.ok scCe (λvs H Q E h=>?_) (λzH A outer s H vs Q E hr h=>?_)
 ·obtain⟨a,k,ns,rfl,_⟩:=h;rfl
 obtain⟨a,k,ns,rfl,hS,k0,q⟩:=h;refine⟨_,ag (cn (bc vb (pv 1) (bn bj rfl ml gF (aa (pv 0) ae)) (bg _)) (ah (ax (aq ar (pv 0) (pv 1) (λ_ _=>rfl)))) bo) (ah (ax af)),?_⟩;dsimp only[bb,Cx.nox];refine⟨_,rfl,_,rfl,a,_,rfl,.inl hS,_,_,rfl,rfl,_,rfl,?_⟩;refine cz (λc=>?_) (λ_=>?_)
 ·have c':k < (((ns.map V.int).length:Nat):Int):=of_decide_eq_true c;rw[aI]at c';obtain⟨x,_,e⟩:=Ji (ns:=ns) k0 c';exact⟨_,rfl,_,rfl,a,_,_,_,rfl,rfl,hS,e,q x⟩
 ·exact q 0
end
structure Wds (ws:List (Str×Nat)):Prop where
 nd:(ws.map (·.1)).Nodup
def Tail (fi:Int)(tl:Str)(ws:List (Str×Nat)):Prop:=∀(i:Nat)(w:Str×Nat),ws[i]?=some w->∃c,atI abc.cps.toList ((fi+9 * (0+(i:Int))) % 26)=some c/\w.1=⟨#[c]⟩++tl
theorem Pt {fi:Int}{tl:Str}:Tail fi tl []:=λi w h=>by cases h
theorem Ml {fi:Int}{tl:Str}{ws:List (Str×Nat)}{i k c:Nat}(h:Tail fi tl ws)(wl:ws.length=i)(e:atI abc.cps.toList ((fi+9 * (0+(i:Int))) % 26)=some c):Tail fi tl (ws++[(⟨#[c]⟩++tl,k)]):=λj w hj=>by
 rcases Nat.lt_or_ge j ws.length with z | z
 ·rw[eB z]at hj;exact h j w hj
 ·have EM:j=ws.length:=by
   have:=(aL.mp hj).1;rw[aO]at this;simp at this;lia
  subst EM;rw[fZ (aN _),Nat.sub_self]at hj;cases hj;rw[wl];exact⟨c,e,rfl⟩
theorem Tk {v u:Int}{c:Nat}(v0:0<=v)(v1:v < 26)(u0:0<=u)(u1:u < 26)(h:atI abc.cps.toList v=some c)(g:atI abc.cps.toList u=some c):v=u:=by
 have key:∀n:Nat,n < 26->abc.cps.toList[n]?=some (97+n):=(by decide +kernel);have hv:=key v.toNat (by lia);have hu:=key u.toNat (by lia);have a1:atI abc.cps.toList ((v.toNat:Nat):Int)=some (97+v.toNat):=bf hv;have a2:atI abc.cps.toList ((u.toNat:Nat):Int)=some (97+u.toNat):=bf hu;rw[show((v.toNat:Nat):Int)=v by lia,h]at a1;rw[show((u.toNat:Nat):Int)=u by lia,g]at a2;have e1:=eA a1;have e2:=eA a2;lia
theorem Pu {c d:Nat}{x:Str}(h:(⟨#[c]⟩++x:Str)=⟨#[d]⟩++x):c=d:=by
 have e:∀c:Nat,((⟨#[c]⟩:Str)++x).cps.toList=c::x.cps.toList:=λc=>by
  show(#[c]++x.cps).toList=_;simp
 have z:=congrArg (λs:Str=>s.cps.toList) h;simp only[e]at z;exact(qG z).1
theorem Tail.ok {fi:Int}{tl:Str}{ws:List (Str×Nat)}(h:Tail fi tl ws)(l3:ws.length<=3)(f0:0<=fi)(f1:fi < 26):Wds ws where
 nd:=by
  unfold List.Nodup;rw[List.pairwise_iff_getElem];intro i j hi hj VD;rw[aI]at hi hj;rw[List.getElem_map,List.getElem_map];obtain⟨c,ec,wc⟩:=h i _ (aK (show i < ws.length by lia));obtain⟨d,ed,wd⟩:=h j _ (aK hj);intro z;rw[wc,wd]at z;have:=Pu z;subst this;have m1:=gf (fi+9 * (0+(i:Int))) (m:=26) (by decide);have m2:=gf (fi+9 * (0+(j:Int))) (m:=26) (by decide);have:=Tk m1.1 m1.2 m2.1 m2.2 ec ed;lia
def prd:List Nat->Nat
 | []=>1
 |c::cs=>c * prd cs
theorem Ei:∀(cs:List Nat)(k:Nat),prd (cs++[k])=prd cs * k
 | [],k=>by show k * 1=1 * k;lia
 |c::cs,k=>by show c * prd (cs++[k])=c * prd cs * k;rw[Ei cs k,uW]
theorem Pw {cs:List Nat}{k:Nat}{lf:Int}(h:(prd cs:Int) * lf<=24)(k1:1<=k)(l0:0<=lf):(prd (cs++[k]):Int) * (lf / (k:Int))<=24:=by
 rw[Ei,Int.natCast_mul,Int.mul_assoc];have h1:(k:Int) * (lf / (k:Int))<=lf:=Int.mul_ediv_self_le (by lia);exact Int.le_trans (Int.mul_le_mul_of_nonneg_left h1 (uS _)) h
def ud:List Str:=["note","put","again","not","all","is","either","then"]
def V0:Bool:=(eE 8).all λv=>ud.all λw=>decide (w.cps.toList.tail≠(oY ("abcdefg":Str) none (some (v:Int))).cps.toList)
theorem V1:V0=true:=by decide +kernel
theorem Tl {v:Int}(h0:0<=v)(h1:v < 8){w:Str}(hw:w∈ud){c:Nat}:w≠⟨#[c]⟩++oY ("abcdefg":Str) none (some v):=λe=>by
 have hv:v=((v.toNat:Nat):Int):=(by lia);have h:=of_decide_eq_true (oK.mp (oK.mp V1 v.toNat (iI.mpr (by lia))) w hw);rw[<-hv]at h;refine h ?_;rw[e];have e2:((⟨#[c]⟩:Str)++oY ("abcdefg":Str) none (some v)).cps.toList=c::(oY ("abcdefg":Str) none (some v)).cps.toList:=by
  show(#[c]++(oY ("abcdefg":Str) none (some v)).cps).toList=_;simp
 rw[e2];rfl
theorem Mm:∀w∈ud,t9 w:=λw hw=>by
 simp only[ud,aU,eY,or_false]at hw;rcases hw with rfl | rfl | rfl | rfl | rfl | rfl | rfl | rfl<;>exact⟨by decide +kernel,by decide +kernel⟩
def Bz (K:aC):Sp:=λvs H Q _=>∃(n l:Int),vs=[.int n,.int l]/\1<=l/\l<=3/\
 ∀(sp:Addr)(ws:List (Str×Nat)) (H':Hp),Same H H'->Hold K H' (.ref sp) (cy ws)->br ws->Wds ws->prd (ws.map (·.2))<=24->l<=(ws.length:Int)->Q (.ref sp) H'
theorem dt:∀{ws:List (Str×Nat)}{w:Str×Nat},(ws.map (·.1)).Nodup->w∈ws->∃i,look ws w.1=some (i,w.2)
 |v::r,w,nd,h=>by
  rw[eO,List.nodup_cons]at nd;rcases aU.mp h with e | e
  ·subst e;exact⟨0,if_pos rfl⟩
  ·obtain⟨i,hi⟩:=dt nd.2 e;have ne:v.1≠w.1:=λz=>nd.1 (by rw[z];exact List.mem_map_of_mem e);refine⟨i+1,?_⟩;rw[look,if_neg ne,hi];rfl
theorem ra {ws:List (Str×Nat)}(h:Wds ws){w:Str×Nat}(hw:w∈ws){v:Int}(v0:0<=v)(v1:v < (w.2:Int)):d7 ws w.1 v=none:=by
 obtain⟨i,hi⟩:=dt h.nd hw;unfold d7;rw[hi];exact if_pos ⟨v0,v1⟩
section
variable {P:aP}{w:aW}{K:aC}{mg:Str->Option aB}{base:Heap}
theorem J9 {f fP fT:Addr}{fd EE DF:bX}(F:Fun K "_law_speech" "_law_speech" As f fd)
  (GP:FnOk P w K mg base CX0 1 fP EE ["_law_cell_here"] Aw) (bP:Binds K EE ["_law_cell_here"] []) (kP:aV K (.ref fP)=true) (mP:mg "_law_purse"=some (.ref fP))
  (GT:FnOk P w K mg base CX0 1 fT DF ["_law_purse_here","_law_many"] zh) (bT:Binds K DF ["_law_purse_here","_law_many"] []) (kT:aV K (.ref fT)=true) (mT:mg "_law_take"=some (.ref fT))
  (mr:mg "range"=none) (mx:mg "max"=none) (mn:mg "min"=none) (mt:mg "tuple"=none):FnOk P w K mg base CX0 2 f fd ["_law_cell_here","_law_least"] (Bz K):=by
 refine F.ok mh (λvs H Q E h=>?_) (λzH A outer s H vs Q E hr h=>?_)
 ·obtain⟨n,l,rfl,_⟩:=h;rfl
 obtain⟨n,l,rfl,l1,l3,q⟩:=h;refine⟨_,ag (av (i:=2) mh.nd rfl (cD rfl) (ao GP hr rfl mP kP bP .nil aw (aa (pv 0) ae))) (ag (av (i:=3) mh.nd rfl (cD rfl) (ao GT hr rfl mT kT bT .nil aw (aa (pv 2) (aa af ae)))) (ag (av (i:=4) mh.nd rfl (cD rfl) bh) (ag (av (i:=5) mh.nd rfl (cD rfl) (aq ar (az (aa af (aa af (aa af (aa af (aa af (aa af (aa af (aa af ae))))))))) (ao GT hr rfl mT kT bT .nil aw (aa (pv 2) (aa af ae))) (λ_ _=>rfl))) (ag (av (i:=6) mh.nd rfl (cD rfl) (bn (Be rfl) rfl mx (by kernel_rfl) (aa (pv 1) (aa (ay ie af (ao GT hr rfl mT kT bT .nil aw (aa (pv 2) (aa af ae)))) ae)))) (ag (av (i:=7) mh.nd rfl (cD rfl) (bq Uv bh cq (bw (ao GT hr rfl mT kT bT .nil aw (aa (pv 2) (aa af ae)))))) (ag (av (i:=8) mh.nd rfl (cD rfl) (az ae)) (ag (dv eU rfl (jo rfl mr (aa (pv 6) ae)) (ba (i:=9) mh.nd rfl (cD rfl)) (ag (av (i:=10) mh.nd rfl (cD rfl) (bn (Bf rfl) rfl mn (by kernel_rfl) (aa (aq ar (az (aa af (aa af (aa af (aa af (aa af (aa af ae))))))) (ao GT hr rfl mT kT bT .nil aw (aa (pv 2) (aa af ae))) (λ_ _=>rfl)) (aa (pv 5) ae)))) (ag (av (i:=5) mh.nd rfl (cD rfl) (ay Al (pv 5) (pv 10))) (ah (cw (mw fQ lV lW ir (pv 8) (aa (c9 (aa (ay Hw (aq Us (pv 4) (ay jd (ay ie (pv 3) (ay pi af (pv 9))) af) (λ_ _=>rfl)) (pv 7)) (aa (pv 10) ae))) ae))))))) (ag (av (i:=11) mh.nd rfl (cD rfl) (aq ar (az (aa bh (aa bh (aa bh (aa bh (aa bh (aa bh (aa bh (aa bh ae))))))))) (ao GT hr rfl mT kT bT .nil aw (aa (pv 2) (aa af ae))) (λ_ _=>rfl))) (ag (cn (bc dh (ao GT hr rfl mT kT bT .nil aw (aa (pv 2) (aa af ae))) af (bg _)) (ah (fw (c9 (aa (pv 11) (aa (aq bx (aq ar (pv 8) af (λ_ _=>rfl)) af (λ_ _=>rfl)) ae))) (iq (pv 8) af w8))) bo) (ah (ax (Bk Ca rfl mt (by kernel_rfl) (aa (pv 8) ae))))))))))))),?_⟩;dsimp only[bb,Cx.nox];refine⟨_,rfl,n,rfl,λr a0 b0 BN QS QT=>?_⟩;refine⟨_,rfl,r,a0,b0,26,rfl,ac,QS,QT,by decide,by decide,λfi a1 b1 G1 VE VF a1' b1' g1 k1=>?_⟩;have s1:Same H G1:=Same.keep (ad BN _) BN k1;refine⟨sz8,λp2 zZ=>?_⟩;have VG:r≠p2:=am g1 zZ;refine⟨_,rfl,r,a1,b1,8,rfl,(by rw[ai VG];exact g1),a1',b1',by decide,by decide,λv2 a2 b2 G2 QU QV a2' b2' g2 k2=>?_⟩;obtain⟨lf,VH,lfe⟩:=Ji (ns:=[8,8,6,8,12,8,4,24]) QU QV;have s2:Same H G2:=Same.keep (Same.trans s1 (ad zZ _)) BN k2;refine⟨p2,_,_,_,rfl,rfl,SqL.of (k2 _ _ VG.symm ac),lfe,?_⟩;have lf1:1<=lf:=by
  simp only[aU,eY,or_false]at VH;lia
 refine⟨_,rfl,_,rfl,r,a2,b2,3,rfl,g2,a2',b2',by decide,by decide,λv3 a3 b3 G3 VI VJ a3' b3' g3 k3=>?_⟩;have s3:Same H G3:=Same.keep s2 BN k3;refine⟨_,_,rfl,rfl,_,_,rfl,?_⟩;have hM:∃M:Int,(if 1+v3 > l then 1+v3 else l)=M/\1<=M/\M<=3:=⟨_,rfl,by split<;>lia,by split<;>lia⟩
 obtain⟨M,eM,M1,M3⟩:=hM;rw[eM];refine⟨_,rfl,r,a3,b3,8,rfl,g3,a3',b3',by decide,by decide,λv4 a4 b4 G4 VL VM a4' b4' g4 k4=>?_⟩;have s4:Same H G4:=Same.keep s3 BN k4;refine⟨_,rfl,_,rfl,(by decide +kernel),?_⟩;obtain⟨tl,VN,tlc,tl7⟩:∃tl:Str,oY ("abcdefg":Str) none (some v4)=tl/\(∀c∈tl.cps.toList,97<=c/\c<=122)/\tl.length<=7:=⟨_,rfl,Ps VL VM,bQ (PySem.Txt.slice_le ("abcdefg":Str) none (some v4)) (by decide +kernel)⟩;rw[VN];refine⟨sz0,λu hu=>?_⟩;have ru:r≠u:=am g4 hu;have LS:H u=none:=Same.free s4 hu;refine⟨_,rfl,M,rfl,by lia,by lia,tq (n:=M.toNat) (λi σ G=>∃(lf a b:Int)(ws:List (Str×Nat)) (xs:List V) (v9 QW:Option V),σ=[some (.int n),some (.int l),some (.ref r),some (.int fi),some (.str abc),some (.int lf),some (.int M),some (.str tl),some (.ref u),v9,QW,none]/\Same H G/\G r=some (.lst [.int a,.int b])/\0<=a/\0<=b/\1<=lf/\G u=some (.lst xs)/\Holds K G xs (ws.map Jj)/\ws.length=i/\(∀w∈ws,1<=w.2/\w.2<=6)/\(∀w∈ws,t9 w.1)/\Tail fi tl ws/\(prd (ws.map (·.2)):Int) * lf<=24) ?_ ?_ ?_⟩
 ·exact⟨lf,a4,b4,[],[],none,none,rfl,Same.put s4 LS _,(by rw[ai ru];exact g4),a4',b4',lf1,ac,.nil,rfl,(λw hw=>nomatch hw),(λw hw=>nomatch hw),Pt,(by simp only[aU,eY,or_false]at VH;show(1:Int) * lf<=24;lia)⟩
 ·intro i σ G hi zE;obtain⟨lf,a,b,ws,xs,v9,QW,rfl,sG,gr,ha,hb,VO,gu,hd,wl,wc,ww,tw,pd⟩:=zE;generalize zI:d6.mk _ _ _ _=zV;revert zI zV;refine id ?_;intro zV zI;refine⟨sz6,λp hp=>?_⟩;have rp:r≠p:=am gr hp;have up:u≠p:=am gu hp;refine⟨_,rfl,r,a,b,6,rfl,(by rw[ai rp];exact gr),ha,hb,by decide,by decide,λv a' b' G' v0 v1 DN QX g' k'=>?_⟩;obtain⟨c,cm,ce⟩:=Ji (ns:=[2,3,4,1,6,5]) v0 v1;have DP:Same H G':=Same.keep (Same.trans sG (ad hp _)) BN k';refine⟨p,_,_,_,rfl,rfl,SqL.of (k' _ _ rp.symm ac),ce,_,rfl,_,_,rfl,?_⟩;have hc:∃k:Nat,(if lf < c then lf else c)=(k:Int)/\1<=k/\k<=6/\(k:Int)<=lf:=by
   simp only[aU,eY,or_false]at cm;refine⟨(if lf < c then lf else c).toNat,?_,?_,?_,?_⟩<;>split<;>lia
  obtain⟨k,ek,VP,k6',klf⟩:=hc;rw[ek];refine⟨_,rfl,_,rfl,_,_,rfl,rfl,⟨by lia,by lia⟩,?_⟩;have ur:u≠r:=ru.symm;have HF:G' u=some (.lst xs):=k' _ _ ur (by rw[ai up];exact gu);have VQ:=gf (fi+9 * (0+(i:Int))) (m:=26) (by decide);obtain⟨ch,VR,chr⟩:=Vz VQ.1 VQ.2;refine⟨_,rfl,.inl ⟨rfl,_,SqL.of HF⟩,_,rfl,_,rfl,_,rfl,_,_,rfl,rfl,.inl ⟨by decide,by decide⟩,_,_,rfl,rfl,_,_,rfl,rfl,(by show(0:Int) < 26;decide),_,_,ch,rfl,rfl,(by decide +kernel),VR,_,rfl,_,_,rfl,rfl,?_,_,rfl,sz2,λt ht=>?_⟩
  ·exact small (by show 1+tl.length<=1000;lia)
  have ut:u≠t:=am HF ht;have FD:H t=none:=Same.free DP ht;refine⟨u,xs,.ref t,rfl,rfl,(by rw[ai ut];exact HF),?_,?_⟩
  ·have z:=hd.length;rw[aI]at z;exact be (by lia)
  have rt:r≠t:=am g' ht;have tG:Tups G G':=(Tups.of (ad hp _)).trans (Tups.but (u:=r) (by rw[ai rp];exact gr) k');have tN:Tups G (upd (upd G' t (.tup [.str (⟨#[ch]⟩++tl),.int (k:Int)])) u (.lst (xs++[.ref t]))):=(tG.trans (Tups.of (ad ht _))).trans (Tups.put (by rw[ai ut];exact HF) _);subst zI;refine⟨lf / (k:Int),a',b',ws++[(⟨#[ch]⟩++tl,k)],xs++[.ref t],_,_,rfl,Same.put (Same.put DP FD _) LS _,(by rw[ai ur.symm,ai rt];exact g'),DN,QX,?_,ac,?_,(by rw[aO,wl];rfl),λx hx=>?_,λx hx=>?_,Ml tw wl VR,(by rw[cU];exact Pw pd VP (by lia))⟩
  ·exact(Int.le_ediv_iff_mul_le (by lia)).mpr (by lia)
  ·rw[cU];refine Holds.append (Holds.stay tN (df (λ_=>rfl) ws) hd) (.one (.tup (SqT.of ?_) (.cons (.flat rfl) (.cons (.flat rfl) .nil))));rw[ai ut.symm,ac]
  ·rcases eC.mp hx with z | z
   ·exact wc x z
   ·rw[aY.mp z];exact⟨VP,k6'⟩
  ·rcases eC.mp hx with z | z
   ·exact ww x z
   ·rw[aY.mp z];exact Mi chr tl7 tlc
 ·intro σ G zE;obtain⟨lf,a,b,ws,xs,v9,QW,rfl,sG,gr,ha,hb,VO,gu,hd,wl,wc,ww,tw,pd⟩:=zE;have VS:prd (ws.map (·.2))<=24:=by
   have h1:(prd (ws.map (·.2)):Int) * 1<=(prd (ws.map (·.2)):Int) * lf:=Int.mul_le_mul_of_nonneg_left VO (uS _);lia
  refine⟨sz8,λp5 ET=>?_⟩;have QY:r≠p5:=am gr ET;have up5:u≠p5:=am gu ET;refine⟨_,rfl,r,a,b,8,rfl,(by rw[ai QY];exact gr),ha,hb,by decide,by decide,λv6 a6 b6 G6 v60 v61 a6' b6' g6 k6=>?_⟩;obtain⟨wd,VT,wde⟩:=Jl (ns:=ud) v60 v61;have s6:Same H G6:=Same.keep (Same.trans sG (ad ET _)) BN k6;refine⟨p5,_,_,_,rfl,rfl,SqL.of (k6 _ _ QY.symm ac),wde,?_⟩;have gu6:G6 u=some (.lst xs):=k6 _ _ ru.symm (by rw[ai up5];exact gu);have t6:Tups G G6:=(Tups.of (ad ET _)).trans (Tups.but (u:=r) (by rw[ai QY];exact gr) k6);refine⟨_,rfl,r,a6,b6,8,rfl,g6,a6',b6',by decide,by decide,λv7 a7 b7 G7 v70 v71 a7' b7' g7 k7=>?_⟩;have s7:Same H G7:=Same.keep s6 BN k7;have LT:G7 u=some (.lst xs):=k7 _ _ ru.symm gu6;have t7:Tups G G7:=t6.trans (Tups.but (u:=r) g6 k7);have QZ:Holds K G7 xs (ws.map Jj):=Holds.stay t7 (df (λ_=>rfl) ws) hd;refine⟨rfl,_,rfl,cz (λ_=>?_) (λ_=>?_)⟩
  ·cases ws with
   |nil=>exact absurd wl (by show ¬(0=M.toNat);lia)
   |cons w0 wt=>
    cases xs with
    |nil=>cases QZ
    |cons x0 xt=>
     cases QZ with
     |cons h0 hrest=>
      obtain⟨t0,ys,rfl,FD,AO⟩:=Hold.tupI h0;cases AO with
      |cons e1 r1=>
       cases r1 with
       |cons e2 r2=>
        cases r2;cases e1.flatI;cases e2.flatI;refine⟨_,rfl,_,rfl,u,_,_,_,rfl,rfl,SqL.of LT,bf (j:=0) rfl,t0,_,_,_,rfl,rfl,FD,rfl,sz2,λtn RA=>?_⟩;have ut:u≠tn:=am LT RA;refine⟨_,rfl,u,_,_,0,rfl,rfl,(by rw[ai ut];exact LT),(by unfold ixN;rw[cX];simp),?_⟩;refine⟨_,rfl,u,_,rfl,.inl ⟨SqL.of ac,λt ht=>?_⟩⟩;have tN:Tups G7 (upd (upd G7 tn (.tup [.str wd,.int (w0.2:Int)])) u (.lst (.ref tn::xt))):=(Tups.of (ad RA _)).trans (Tups.put (by rw[ai ut];exact LT) _);have ut':=am (ac (a:=u) (o:=.lst (.ref tn::xt)) (H:=upd G7 tn (.tup [.str wd,.int (w0.2:Int)]))) ht;have s8:=Same.put (Same.put s7 (Same.free s7 RA) (.tup [.str wd,.int (w0.2:Int)])) LS (.lst (.ref tn::xt));have tl2:∀v∈wt,∃c,v.1=⟨#[c]⟩++tl:=λv hv=>by
         obtain⟨i,hi⟩:=jG hv;obtain⟨c,_,e⟩:=tw (i+1) v (by simpa using hi);exact⟨c,e⟩
        refine q t ((wd,w0.2)::wt) _ (Same.put s8 (Same.free s8 ht) _) (.tup (SqT.of ac) (.cons ?_ ?_)) ⟨by show 1<=wt.length+1;lia,by show wt.length+1<=3;have:wt.length+1=M.toNat:=wl;lia,λv hv=>?_,λv hv=>?_⟩ ⟨?_⟩ VS (by show l<=((wt.length+1:Nat):Int);have:wt.length+1=M.toNat:=wl;lia)
        ·refine .tup (xs:=[.str wd,.int (w0.2:Int)]) (SqT.of ?_) (.cons (.flat rfl) (.cons (.flat rfl) .nil));rw[ai (am (by rw[ai ut.symm];exact ac) ht),ai ut.symm,ac]
        ·exact Holds.stay (tN.trans (Tups.of (ad ht _))) (df (λ_=>rfl) wt) hrest
        ·rcases aU.mp hv with rfl | hv
         ·exact wc w0 cJ
         ·exact wc v (cC _ hv)
        ·rcases aU.mp hv with rfl | hv
         ·exact Mm wd VT
         ·exact ww v (cC _ hv)
        ·have nd:=(tw.ok (by have:wt.length+1=M.toNat:=wl;show wt.length+1<=3;lia) VE VF).nd;rw[eO]at nd ⊢;refine iQ.mpr ⟨λz=>?_,(iQ.mp nd).2⟩;obtain⟨v,hv,e⟩:=jD.mp z;obtain⟨c,ec⟩:=tl2 v hv;rw[ec,<-VN]at e;exact Tl VL VM VT e.symm
  ·refine⟨_,rfl,u,xs,rfl,.inl ⟨SqL.of LT,λt ht=>?_⟩⟩;exact q t ws _ (Same.put s7 (Same.free s7 ht) _) (.tup (SqT.of ac) (Holds.mono (ad ht _) QZ)) ⟨by lia,by lia,wc,ww⟩ (tw.ok (by lia) VE VF) VS (by lia)
end
def ntot (is:List bu):Nat:=(is.map λi=>i.1.nts).sum
theorem rh (a b:List bu):ntot (a++b)=ntot a+ntot b:=by simp[ntot]
theorem Ej:∀is:List bu,(is.map λi=>(i.1.nts:Int)).sum=((ntot is:Nat):Int)
 | []=>rfl
 |i::r=>by
  rw[eO,List.sum_cons,Ej r];simp[ntot]
structure Gd (ws:List (Str×Nat))(is:List bu)(m:Nat):Prop where
 due:∀i∈is,i.1.due ws=none
 nts:ntot is<=m
theorem Gd.it {ws:List (Str×Nat)}{is:List bu}{i:bu}{m:Nat}(h:Gd ws (is++[i]) m):i.1.due ws=none:=h.due i (by simp)
theorem Gd.nt1 {ws:List (Str×Nat)}{i:bu}{m:Nat}(h:Gd ws ([]++[i]) m):i.1.nts<=m:=by
 have:=h.nts;simp[ntot]at this;exact this
theorem Gd.snoc {ws:List (Str×Nat)}{is:List bu}{s:Say}{d:Int}{m:Nat}(h:Gd ws is m)(e:s.due ws=none)(n:ntot is+s.nts<=m):Gd ws (is++[(s,d)]) m where
 due:=λi hi=>by
  rcases eC.mp hi with z | z
  ·exact h.due i z
  ·rw[aY.mp z];exact e
 nts:=by rw[rh];simpa[ntot]using n
theorem Gd.last {ws:List (Str×Nat)}{is:List bu}{i:bu}{s:Say}{d:Int}{m:Nat}(h:Gd ws (is++[i]) m)(e:s.due ws=none)(n:s.nts<=i.1.nts):Gd ws (is++[(s,d)]) m where
 due:=λj hj=>by
  rcases eC.mp hj with z | z
  ·exact h.due j (oB _ z)
  ·rw[aY.mp z];exact e
 nts:=by
  have:=h.nts;rw[rh]at this ⊢;simp[ntot]at this ⊢;lia
theorem Gd.join {ws:List (Str×Nat)}{is:List bu}{i j:bu}{s:Say}{d:Int}{m:Nat}(h:Gd ws (is++[i,j]) m)(n:s.nts=i.1.nts+j.1.nts)(e:s.due ws=(i.1.due ws).or (j.1.due ws)):Gd ws (is++[(s,d)]) m where
 due:=λk hk=>by
  rcases eC.mp hk with z | z
  ·exact h.due k (oB _ z)
  ·rw[aY.mp z];show s.due ws=none;rw[e,h.due i (by simp),h.due j (by simp)];rfl
 nts:=by
  have:=h.nts;rw[rh]at this ⊢;simp[ntot]at this ⊢;lia
def Gr (K:aC):Sp:=λvs H Q _=>∃(st a b:Int)(p sp:Addr) (ws:List (Str×Nat)),vs=[.int st,.ref p,.ref sp]/\0<=st/\st<=3/\H p=some (.lst [.int a,.int b])/\0<=a/\0<=b/\Hold K H (.ref sp) (cy ws)/\br ws/\Wds ws/\
 ∀(x:V)(s:Say) (G:Hp),Keep p H G->Hold K G x s.da->s.isT=!decide (V.int st=V.int 1)->s.nts=0->s.size=1->s.due ws=none->Q x G
def oh (K:aC):Sp:=λvs H Q _=>∃(r:Addr)(wd:Str) (xs:List V) (zX:List bu) (i1 i2:bu),vs=[.ref r,.str wd]/\(wd="either"\/wd="then")/\H r=some (.lst xs)/\Holds K H xs ((zX++[i1,i2]).map dq)/\zX.length<=500/\
 ∀(r':Addr)(AM:List V) (s:Say) (d:Int) (H':Hp),Same H H'->H' r'=some (.lst AM)->Holds K H' AM ((zX++[(s,d)]).map dq)->s.size=i1.1.size+i2.1.size+1->s.nts=i1.1.nts+i2.1.nts->(∀ws,s.due ws=(i1.1.due ws).or (i2.1.due ws))->s.isT=(i1.1.isT && i2.1.isT)->Q (.ref r') H'
def xk (K:aC):Sp:=λvs H Q _=>∃(r sp:Addr)(cell:Int) (most:Nat) (xs:List V) (zX:List bu) (it:bu) (ws:List (Str×Nat)),vs=[.ref r,.int cell,.ref sp,.int (most:Int)]/\H r=some (.lst xs)/\Holds K H xs ((zX++[it]).map dq)/\cb (zX++[it])<=300/\
 Hold K H (.ref sp) (cy ws)/\br ws/\Wds ws/\Gd ws (zX++[it]) most/\
 ∀(r':Addr)(AM:List V) (js:List bu) (j:bu) (H':Hp),Same H H'->H' r'=some (.lst AM)->Holds K H' AM ((js++[j]).map dq)->cb (js++[j])<=cb (zX++[it])+1->Gd ws (js++[j]) most->Q (.ref r') H'
def B0 (K:aC):Sp:=λvs H Q _=>∃(c sp:Addr)(m:Nat) (xs:List V) (ws:List (Str×Nat)),vs=[.ref c,.ref sp,.int (m:Int)]/\SqL K H c xs/\(∀x∈xs,∃n,x=V.int n)/\xs.length<=28/\Hold K H (.ref sp) (cy ws)/\br ws/\Wds ws/\
 ∀(y:V)(s:Say) (H':Hp),Same H H'->Hold K H' y s.da->s.size<=58->s.due ws=none->s.nts<=m->Q y H'
section
variable {P:aP}{w:aW}{K:aC}{mg:Str->Option aB}{base:Heap}
theorem Px {f fT:Addr}{fd DF:bX}(F:Fun K "_law_lone" "_law_lone" Ix f fd)(GT:FnOk P w K mg base CX0 1 fT DF ["_law_purse_here","_law_many"] zh)(bT:Binds K DF ["_law_purse_here","_law_many"] [])
  (kT:aV K (.ref fT)=true) (mT:mg "_law_take"=some (.ref fT)) (ml:mg "len"=none):FnOk P w K mg base CX0 2 f fd ["_law_sort","_law_purse_here","_law_speech_here"] (Gr K):=by
 refine F.ok Os (λvs H Q E h=>?_) (λzH A outer s H vs Q E hr h=>?_)
 ·obtain⟨st,a,b,p,sp,ws,rfl,_⟩:=h;rfl
 obtain⟨st,a,b,p,sp,ws,rfl,st0,DT,hp,ha,hb,hs,sk,wd,q⟩:=h;refine⟨_,ag (fw (aq bx (pv 2) (ao GT hr rfl mT kT bT .nil aw (aa (pv 1) (aa (bn bj rfl ml gF (aa (pv 2) ae)) ae))) (λ_ _=>rfl)) (tj rfl (fb (ba (i:=3) Os.nd rfl (cD rfl)) (fb (ba (i:=4) Os.nd rfl (cD rfl)) m9)))) (ah (ax (aq ar (az (aa (c9 (aa bh (aa (pv 3) (aa (ao GT hr rfl mT kT bT .nil aw (aa (pv 1) (aa (pv 4) ae))) ae)))) (aa (c9 (aa bh (aa (pv 3) (aa (ao GT hr rfl mT kT bT .nil aw (aa (pv 1) (aa (pv 4) ae))) ae)))) (aa (c9 (aa bh ae)) (aa (c9 (aa bh ae)) ae))))) (pv 0) (λ_ _=>rfl)))),?_⟩;dsimp only[bb,Cx.nox];obtain⟨a',vs,ea,zU,hd⟩:=Hold.tupI hs;cases ea;have lv:vs.length=ws.length:=(by rw[hd.length,aI]);have s1:=sk.lo;have s3:=sk.hi;refine⟨_,rfl,_,rfl,_,rfl,sp,_,rfl,.inr zU,p,a,b,_,rfl,hp,ha,hb,by lia,by lia,λv a1 b1 G1 v0 v1 ha1 NR g1 k1=>?_⟩;have hv:v.toNat < vs.length:=(by lia);have ev:atI vs v=some vs[v.toNat]:=by
  have z:atI vs ((v.toNat:Nat):Int)=some vs[v.toNat]:=bf (aK hv)
  rwa [show((v.toNat:Nat):Int)=v by lia]at z
 obtain⟨w',ew,hw⟩:=hd.getm (aK hv);obtain⟨c,ys,ec,hc,AO⟩:=Hold.tupI hw;have h6:=sk.cnt w' (bK ew);have t1:Tups H G1:=Tups.but hp k1;refine⟨sp,_,_,_,rfl,rfl,zU.tups t1,ev,?_⟩;rw[ec];cases AO with
 |cons h1 r1=>
  cases r1 with
  |cons h2 r2=>
   cases r2;cases h1.flatI;cases h2.flatI;refine⟨c,_,rfl,hc.tups t1,rfl,_,_,rfl,_,_,rfl,rfl,?_⟩;refine⟨_,rfl,_,rfl,_,rfl,p,a1,b1,_,rfl,g1,ha1,NR,by lia,by lia,λv2 a2 b2 G2 QU QV LU PN g2 k2=>⟨sz3,λt1 VU=>?_⟩⟩;have IY:p≠t1:=am g2 VU;refine⟨_,rfl,_,rfl,_,rfl,p,a2,b2,_,rfl,(by rw[ai IY];exact g2),LU,PN,by lia,by lia,λv3 a3 b3 G3 VI VJ NS DL g3 k3=>⟨sz3,λt2 VV=>?_⟩⟩;refine⟨sz1,λt3 RB=>⟨sz1,λt4 NU=>⟨sz4,λl hl=>?_⟩⟩⟩;have e1:G3 t1=some (.tup [.str "is",.str w'.1,.int v2]):=k3 _ _ IY.symm ac;have kp:Keep p H (upd (upd (upd (upd G3 t2 (.tup [.str "put",.str w'.1,.int v3])) t3 (.tup [.str "all"])) t4 (.tup [.str "none"])) l (.lst [.ref t1,.ref t2,.ref t3,.ref t4])):=
    ((((((Keep.trans k1 k2).new VU _).trans k3).new VV _).new RB _).new NU _).new hl _
   have sN:Same G3 (upd (upd (upd (upd G3 t2 (.tup [.str "put",.str w'.1,.int v3])) t3 (.tup [.str "all"])) t4 (.tup [.str "none"])) l (.lst [.ref t1,.ref t2,.ref t3,.ref t4])):=
    Same.trans (Same.trans (Same.trans (ad VV _) (ad RB _)) (ad NU _)) (ad hl _)
   have sN2:Same (upd G3 t2 (.tup [.str "put",.str w'.1,.int v3])) (upd (upd (upd (upd G3 t2 (.tup [.str "put",.str w'.1,.int v3])) t3 (.tup [.str "all"])) t4 (.tup [.str "none"])) l (.lst [.ref t1,.ref t2,.ref t3,.ref t4])):=
    Same.trans (Same.trans (ad RB _) (ad NU _)) (ad hl _)
   have sN3:Same (upd (upd G3 t2 (.tup [.str "put",.str w'.1,.int v3])) t3 (.tup [.str "all"])) (upd (upd (upd (upd G3 t2 (.tup [.str "put",.str w'.1,.int v3])) t3 (.tup [.str "all"])) t4 (.tup [.str "none"])) l (.lst [.ref t1,.ref t2,.ref t3,.ref t4])):=
    Same.trans (ad NU _) (ad hl _)
   have four:st=0\/st=1\/st=2\/st=3:=(by lia);rcases four with e | e | e | e
   ·subst e;refine⟨_,rfl,l,_,_,_,rfl,rfl,SqL.of ac,rfl,?_⟩;exact q (.ref t1) (.is ⟨w'.1,Bq (sk.word w' (bK ew))⟩ ⟨v2,Br ⟨by lia,by lia⟩⟩) _ kp (.tup (SqT.of (sN _ _ e1)) (.cons (.flat rfl) (.cons (.flat rfl) (.cons (.flat rfl) .nil)))) rfl rfl rfl (ra wd (bK ew) QU QV)
   ·subst e;refine⟨_,rfl,l,_,_,_,rfl,rfl,SqL.of ac,rfl,?_⟩;exact q (.ref t2) (.put ⟨w'.1,Bq (sk.word w' (bK ew))⟩ ⟨v3,Br ⟨by lia,by lia⟩⟩) _ kp (.tup (SqT.of (sN2 _ _ ac)) (.cons (.flat rfl) (.cons (.flat rfl) (.cons (.flat rfl) .nil)))) rfl rfl rfl (ra wd (bK ew) VI VJ)
   ·subst e;refine⟨_,rfl,l,_,_,_,rfl,rfl,SqL.of ac,rfl,?_⟩;exact q (.ref t3) .every _ kp (.tup (SqT.of (sN3 _ _ ac)) (.cons (.flat rfl) .nil)) rfl rfl rfl rfl
   ·subst e;refine⟨_,rfl,l,_,_,_,rfl,rfl,SqL.of ac,rfl,?_⟩;exact q (.ref t4) .nought _ kp (.tup (SqT.of (ad hl _ _ _ ac)) (.cons (.flat rfl) .nil)) rfl rfl rfl rfl
theorem Ka {f:Addr}{fd:bX}(F:Fun K "_law_joined" "_law_joined" Au f fd)(mx:mg "max"=none):FnOk P w K mg base CX0 1 f fd ["_law_row","_law_word"] (oh K):=by
 refine F.ok Jn (λvs H Q E h=>?_) (λzH A outer s H vs Q E hr h=>?_)
 ·obtain⟨r,wd,xs,zX,i1,i2,rfl,_⟩:=h;rfl
 obtain⟨r,wd,xs,zX,i1,i2,rfl,RC,gr,hd,l500,q⟩:=h;refine⟨_,ag (fw (bq db (pv 0) (bw (n8 kq af)) cq) (Uw rfl (fb (ba (i:=2) Jn.nd rfl (cD rfl)) (fb (ba (i:=3) Jn.nd rfl (cD rfl)) m9)))) (ag (av (i:=4) Jn.nd rfl (cD rfl) (c9 (aa (pv 1) (aa (aq ar (pv 2) af (λ_ _=>rfl)) (aa (aq ar (pv 3) af (λ_ _=>rfl)) ae))))) (ah (ax (ay dw (bq db (pv 0) cq (bw (n8 kq af))) (az (aa (az (aa (pv 4) (aa (Ug (aq ar (pv 2) af (λ_ _=>rfl)) (Uf (aq ar (pv 3) af (λ_ _=>rfl)))) (aa (ay ie (aq ar (pv 2) af (λ_ _=>rfl)) (aq ar (pv 3) af (λ_ _=>rfl))) (aa (bn (Be rfl) rfl mx (by kernel_rfl) (aa (aq ar (pv 2) af (λ_ _=>rfl)) (aa (aq ar (pv 3) af (λ_ _=>rfl)) ae))) ae))))) ae)))))),?_⟩;dsimp only[bb,Cx.nox];obtain⟨ys,x1,x2,rfl,hy,DD,FJ⟩:=Fe hd;obtain⟨c1,y1,rfl,NW,DQ⟩:=iy DD;obtain⟨c2,y2,rfl,DV,IZ⟩:=iy FJ;have ly:ys.length=zX.length:=(by rw[hy.length,aI]);refine⟨_,rfl,_,rfl,_,rfl,r,_,rfl,SqL.of gr,λp hp=>?_⟩;rw[show -(2:Int)=-2 from rfl,Lj];have sp:Same H (upd H p (.lst [.ref c1,.ref c2])):=ad hp _;refine⟨p,_,rfl,SqL.of ac,rfl,_,_,rfl,_,_,rfl,rfl,?_⟩;refine⟨_,rfl,_,rfl,c1,_,_,_,rfl,rfl,sp.seq NW,rfl,_,rfl,c2,_,_,_,rfl,rfl,sp.seq DV,rfl,sz3,λt ht=>?_⟩;have st:Same H (upd (upd H p (.lst [.ref c1,.ref c2])) t (.tup [.str wd,y1,y2])):=Same.trans sp (ad ht _);refine⟨_,rfl,_,rfl,_,rfl,r,_,rfl,SqL.of (st _ _ gr),λp2 zZ=>?_⟩;rw[show -(2:Int)=-2 from rfl,Oq];have s2:=Same.trans st (ad zZ (.lst ys));refine⟨_,rfl,?_⟩;refine andV (c:=i1.1.isT) (d:=i2.1.isT) (λk hk=>⟨_,rfl,c1,_,_,_,rfl,rfl,s2.seq NW,rfl,hk⟩) (λk hk=>⟨_,rfl,c2,_,_,_,rfl,rfl,s2.seq DV,rfl,hk⟩) ?_;refine⟨_,rfl,c1,_,_,_,rfl,rfl,s2.seq NW,rfl,_,rfl,c2,_,_,_,rfl,rfl,s2.seq DV,rfl,_,_,rfl,rfl,_,rfl,c1,_,_,_,rfl,rfl,s2.seq NW,rfl,_,rfl,c2,_,_,_,rfl,rfl,s2.seq DV,rfl,_,_,rfl,sz4,λl hl=>⟨sz1,λl2 zW=>?_⟩⟩;have hp2n:upd (upd H p (.lst [.ref c1,.ref c2])) t (.tup [.str wd,y1,y2]) p2=none:=zZ;generalize CG:upd (upd (upd H p (.lst [.ref c1,.ref c2])) t (.tup [.str wd,y1,y2])) p2 (.lst ys)=G2 at s2 hl zW ⊢;have g2p:G2 p2=some (.lst ys):=(by rw[<-CG,ac]);have g2t:G2 t=some (.tup [.str wd,y1,y2]):=by
  rw[<-CG];exact ad hp2n _ _ _ ac
 generalize hdd:(if i2.2 > i1.2 then i2.2 else i1.2)=dd at zW ⊢
 have s3:Same G2 (upd G2 l (.lst [.ref t,.bl (i1.1.isT && i2.1.isT),.int ((i1.1.nts:Int)+(i2.1.nts:Int)),.int dd])):=ad hl _;have s4:=Same.trans s3 (ad zW (.lst [.ref l]));refine⟨p2,l2,_,_,rfl,rfl,s4 _ _ g2p,ac,small (by show ys.length+1<=1000;lia),λp3 AG=>?_⟩;have s5:=Same.trans s4 (ad AG (.lst (ys++[.ref l])));have FN:=Same.trans s2 s5;have gl:upd (upd (upd G2 l (.lst [.ref t,.bl (i1.1.isT && i2.1.isT),.int ((i1.1.nts:Int)+(i2.1.nts:Int)),.int dd])) l2 (.lst [.ref l])) p3 (.lst (ys++[.ref l])) l=some (.lst [.ref t,.bl (i1.1.isT && i2.1.isT),.int ((i1.1.nts:Int)+(i2.1.nts:Int)),.int dd]):=
  Same.trans (ad zW _) (ad AG _) _ _ ac
 have go:∀s:Say,s.da=.tup [.flat (.str wd),i1.1.da,i2.1.da]->s.isT=(i1.1.isT && i2.1.isT)->s.nts=i1.1.nts+i2.1.nts->s.size=i1.1.size+i2.1.size+1->(∀ws,s.due ws=(i1.1.due ws).or (i2.1.due ws))->Q (.ref p3) _:=λsy e1 e2 e3 e4 e5=>by
  refine q p3 (ys++[.ref l]) sy dd _ FN ac ?_ e4 e3 e5 e2;rw[cU];refine Holds.append (Holds.mono FN hy) (.one (gw (i:=(sy,dd)) gl ?_ e2.symm (by rw[e3];push_cast;rfl)));show Hold K _ (.ref t) sy.da;rw[e1];exact .tup (SqT.of (s5 _ _ g2t)) (.cons (.flat rfl) (.cons (Hold.mono FN DQ) (.cons (Hold.mono FN IZ) .nil)))
 rcases RC with e | e
 ·exact go (.either i1.1 i2.1) (by rw[e];rfl) rfl rfl rfl (λ_=>rfl)
 ·exact go (.both i1.1 i2.1) (by rw[e];rfl) rfl rfl rfl (λ_=>rfl)
theorem Mo {f fP fT fL fJ:Addr}{fd EE DF VW HK:bX}(F:Fun K "_law_grown" "_law_grown" Dh f fd)
  (GP:FnOk P w K mg base CX0 1 fP EE ["_law_cell_here"] Aw) (bP:Binds K EE ["_law_cell_here"] []) (kP:aV K (.ref fP)=true) (mP:mg "_law_purse"=some (.ref fP))
  (GT:FnOk P w K mg base CX0 1 fT DF ["_law_purse_here","_law_many"] zh) (bT:Binds K DF ["_law_purse_here","_law_many"] []) (kT:aV K (.ref fT)=true) (mT:mg "_law_take"=some (.ref fT))
  (GL:FnOk P w K mg base CX0 2 fL VW ["_law_sort","_law_purse_here","_law_speech_here"] (Gr K)) (bL:Binds K VW ["_law_sort","_law_purse_here","_law_speech_here"] []) (kL:aV K (.ref fL)=true) (mL:mg "_law_lone"=some (.ref fL))
  (GJ:FnOk P w K mg base CX0 1 fJ HK ["_law_row","_law_word"] (oh K)) (bJ:Binds K HK ["_law_row","_law_word"] []) (kJ:aV K (.ref fJ)=true) (mJ:mg "_law_joined"=some (.ref fJ))
  (ms:mg "sum"=none) (ml:mg "len"=none):FnOk P w K mg base CX0 3 f fd ["_law_row","_law_cell_here","_law_speech_here","_law_most"] (xk K):=by
 refine F.ok Dy (λvs H Q E h=>?_) (λzH A outer s H vs Q E hr h=>?_)
 ·obtain⟨r,sp,cell,most,xs,zX,it,ws,rfl,_⟩:=h;rfl
 obtain⟨r,sp,cell,most,xs,zX,it,ws,rfl,gr,hd,t300,zU,sk,wd,gd,q⟩:=h;have AF:Room 1 _:=hr.mono (by decide);refine⟨_,ag (av (i:=4) Dy.nd rfl (cD rfl) (ao GP AF rfl mP kP bP .nil aw (aa (pv 1) ae))) (ag (av (i:=5) Dy.nd rfl (cD rfl) (ao GT AF rfl mT kT bT .nil aw (aa (pv 4) (bz af ae)))) (ag (av (i:=6) Dy.nd rfl (cD rfl) (aq ar (pv 0) (n8 kq af) (λ_ _=>rfl))) (ag (cn (PW.pt (o9 (bc dh (pv 5) af (bg _)) (o8 (bc vb (bn (Mc rfl) rfl ms (by kernel_rfl) (aa (dy (ns:=["_law_one"]) (ys:=[]) (sc:=U6) csC3 rfl (cf (pv 0)) (λC s H fp=>ba (i:=0) (by show(["_law_one"]:List Str).Nodup;decide +kernel) rfl (cD rfl)) (λC s H fp=>cx) (λC s H fp=>aq (r:=An K) ar (pv 0) af (λ_ _=>rfl))) ae)) (pv 3) (bg _))))) (ah (ax (ay dw (pv 0) (az (aa (az (aa (c9 (bz bh ae)) (bz j9 (bz af (bz af ae))))) ae))))) bo) (ag (cn (PW.pt (o9 (bc dh (pv 5) af (bg _)) (o8 (o7 (aq ar (pv 6) af (λ_ _=>rfl)))))) (ah (ax (ay dw (bq db (pv 0) cq (bw (n8 kq af))) (az (aa (az (aa (c9 (bz bh (aa (aq ar (pv 6) af (λ_ _=>rfl)) ae))) (bz j9 (bz af (bz af ae))))) ae))))) bo) (ag (cn (PW.pt (o9 (bc dh (pv 5) af (bg _)) (o8 (bc vb (aq ar (pv 6) af (λ_ _=>rfl)) af (bg _))))) (ah (ax (ay dw (bq db (pv 0) cq (bw (n8 kq af))) (az (aa (az (aa (c9 (bz bh (aa (aq ar (pv 6) af (λ_ _=>rfl)) ae))) (bz j9 (aa (aq ar (pv 6) af (λ_ _=>rfl)) (aa (ay ie (aq ar (pv 6) af (λ_ _=>rfl)) af) ae))))) ae))))) bo) (@ag _ _ _ _ _ (cn (PW.pt (o9 (bc yh (pv 5) af (bg _)) (o9 (bc vb (pv 5) af (bg _)) (o8 (bc yh (bn bj rfl ml gF (aa (pv 0) ae)) af (bg _)))))) (ah (ax (ao GJ AF rfl mJ kJ bJ .nil aw (aa (pv 0) (aa (aq ar (az (bz bh (bz bh ae))) (ay jd (pv 5) af) (λ_ _=>rfl)) ae))))) bo) (@ag _ _ _ _ _ (@av _ _ 5 _ _ _ _ Dy.nd rfl (cD rfl) (@aq _ _ _ _ _ _ _ (@ar _) (@az _ _ _ _ (@bz _ _ _ _ _ _ _ (@af _ _ _ _) (@bz _ _ _ _ _ _ _ (@af _ _ _ _) (@bz _ _ _ _ _ _ _ (@af _ _ _ _) (@bz _ _ _ _ _ _ _ (@af _ _ _ _) (@bz _ _ _ _ _ _ _ (@af _ _ _ _) (@bz _ _ _ _ _ _ _ (@af _ _ _ _) (@bz _ _ _ _ _ _ _ (@af _ _ _ _) (@bz _ _ _ _ _ _ _ (@af _ _ _ _) (@bz _ _ _ _ _ _ _ (@af _ _ _ _) (@bz _ _ _ _ _ _ _ (@af _ _ _ _) (@bz _ _ _ _ _ _ _ (@af _ _ _ _) (@bz _ _ _ _ _ _ _ (@af _ _ _ _) (@bz _ _ _ _ _ _ _ (@af _ _ _ _) (@bz _ _ _ _ _ _ _ (@af _ _ _ _) (@ae _)))))))))))))))) (pv 5) (λ_ _=>rfl)) rfl (cD rfl)) (ah (ax (ay dw (pv 0) (az (aa (az (aa (ao GL hr rfl mL kL bL .nil aw (aa (pv 5) (aa (pv 4) (aa (pv 2) ae)))) (aa (na Hu (pv 5) af (bg _)) (bz af (bz af ae))))) ae)))))))))))),?_⟩;dsimp only[bb,Cx.nox];have BH:=hd;rw[cU]at BH;obtain⟨ys,x0,rfl,hy,CO⟩:=g0 BH;obtain⟨c0,y0,rfl,EV,EQ⟩:=iy CO;have ly:ys.length=zX.length:=(by rw[hy.length,aI]);have tl:=np (zX++[it]);rw[aO,eX]at tl;have tt:cb (zX++[it])=cb zX+it.1.size:=(by rw[cp,cv]);have zL:∀(G4:Hp)(p3 l:Addr) (zs:List V) (js:List bu) (j:bu),Same H G4->G4 p3=some (.lst (zs++[.ref l]))->Holds K G4 zs (js.map dq)->Hold K G4 (.ref l) (dq j)->cb (js++[j])<=cb (zX++[it])+1->Gd ws (js++[j]) most->Q (.ref p3) G4:=
  λG4 p3 l zs js j s4 g4 h1 h2 h3 h4=>q p3 _ js j G4 s4 g4 (by rw[cU];exact Holds.append h1 (.one h2)) h3 h4
 refine⟨_,rfl,cell,rfl,λp a0 b0 hp QS QT=>?_⟩;refine⟨_,rfl,p,a0,b0,14,rfl,ac,QS,QT,by decide,by decide,λv a b G v0 v1 ha hb g k=>?_⟩;have s1:Same H G:=Same.keep (ad hp _) hp k;refine⟨_,rfl,_,rfl,r,_,_,_,rfl,rfl,SqL.of (s1 _ _ gr),N7 _ _,?_⟩;have R0:kh H p G:=⟨s1,a,b,g,ha,hb⟩;have big:∀n:Nat,n<=302->n<=sizeLine:=λn hn=>small (by lia);dsimp only[mq,yf];refine ifQ (kh H p) (λG=>kh H p G/\ntot (zX++[it]) < most) (λk kf kt=>?_) (λG2 R2=>?_) (λG2 R2=>?_)
 ·refine⟨_,rfl,rfl,_,rfl,?_⟩;refine cz (λ_=>?_) (λ_=>kf G R0);refine⟨_,rfl,r,rfl,⟨_,SqL.of (s1 _ _ gr)⟩,λD hD=>?_⟩;refine di (K:=K) (a:=r) (xs:=ys++[.ref c0]) (λi zs G3=>Same G G3/\G3 D=some (.lst zs)/\zs=(((zX++[it]).take i).map λj=>(j.1.nts:Int)).map V.int) ⟨ad hD _,ac,rfl⟩ (λi zs G3 z=>z.2.1) (λi zs G3 _ z=>SqL.of (z.1 _ _ (s1 _ _ gr))) ?_ ?_
  ·intro i x' zs G3 AX zE;obtain⟨s3,d3,rfl⟩:=zE;obtain⟨j,ej,hj⟩:=hd.getm AX;obtain⟨c,y,rfl,hc,_⟩:=iy hj;refine⟨be (by rw[aI,aI,dJ,aO,eX];lia),⟨[some _],rfl,rfl⟩,?_⟩;refine⟨_,rfl,c,_,_,_,rfl,rfl,Same.seq (Same.trans s1 s3) hc,rfl,d3,Same.put s3 hD _,ac,?_⟩;rw[eJ,ej];simp
  ·intro zs G3 zE;obtain⟨s3,d3,rfl⟩:=zE;refine⟨D,_,rfl,SqL.of d3,?_,?_,?_⟩
   ·rw[aI,dJ,aO,eX];lia
   ·intro n hn;obtain⟨j,hj,rfl⟩:=jD.mp hn;have mj:j∈zX++[it]:=lX hj;have z1:=Uz j.1;have z2:j.1.size<=cb (zX++[it]):=by
     obtain⟨l1,l2,e⟩:=List.append_of_mem mj;rw[e,show l1++j::l2=l1++([j]++l2)from rfl,cp,cp,cv];lia
    lia
   ·have R3:kh H p G3:=⟨Same.trans s1 s3,a,b,s3 _ _ g,ha,hb⟩;refine⟨_,rfl,_,_,rfl,rfl,_,rfl,?_⟩;rw[lF (by rw[aO,aO,ly];exact aN _),Ej];cases e:decide (((ntot (zX++[it]):Nat):Int) < (most:Int))with
    |false=>exact kf G3 R3
    |true=>
     have:=of_decide_eq_true e;exact kt G3 ⟨R3,by lia⟩
 ·obtain⟨⟨s2,_⟩,lt⟩:=R2;refine⟨_,rfl,sz1,λt ht=>⟨sz4,λl hl=>⟨sz1,λl2 zW=>?_⟩⟩⟩;have s3:Same G2 (upd (upd (upd G2 t (.tup [.str "note"])) l (.lst [.ref t,.bl false,.int 1,.int 0])) l2 (.lst [.ref l])):=Same.trans (Same.trans (ad ht _) (ad hl _)) (ad zW _);refine⟨r,l2,_,_,rfl,rfl,s3 _ _ (s2 _ _ gr),ac,big _ (by rw[aO];show ys.length+1+1<=302;lia),λp3 AG=>?_⟩;have s4:=Same.trans s3 (ad AG (.lst ((ys++[.ref c0])++[.ref l])));have sA:=Same.trans s2 s4;have sl:Same (upd (upd G2 t (.tup [.str "note"])) l (.lst [.ref t,.bl false,.int 1,.int 0])) (upd (upd (upd (upd G2 t (.tup [.str "note"])) l (.lst [.ref t,.bl false,.int 1,.int 0])) l2 (.lst [.ref l])) p3 (.lst ((ys++[.ref c0])++[.ref l]))):=Same.trans (ad zW _) (ad AG _);refine zL _ p3 l _ (zX++[it]) (.note,0) sA ac (Holds.mono sA hd) (gw (sl _ _ ac) (.tup (SqT.of (sl _ _ (ad hl _ _ _ ac))) (.cons (.flat rfl) .nil)) rfl rfl) ?_ (gd.snoc rfl (by show ntot (zX++[it])+1<=most;lia));rw[cp (zX++[it]),cv];exact aN _
 dsimp only[mq,yf];refine ifQ (kh H p) (λG=>kh H p G/\it.1.isT=true) (λk kf kt=>?_) (λG3 R3=>?_) (λG3 R3=>?_)
 ·refine⟨_,rfl,rfl,_,rfl,?_⟩;refine cz (λ_=>?_) (λ_=>kf G2 R2);refine⟨_,rfl,c0,_,_,_,rfl,rfl,Same.seq R2.1 EV,rfl,it.1.isT,rfl,?_⟩;cases e:it.1.isT with
  |false=>exact kf G2 R2
  |true=>exact kt G2 ⟨R2,e⟩
 ·obtain⟨⟨s2,_⟩,eT⟩:=R3;refine⟨_,rfl,_,rfl,_,rfl,r,_,rfl,SqL.of (s2 _ _ gr),λp2 zZ=>?_⟩;rw[show -(1:Int)=-1 from rfl,Dx];have s3:=Same.trans s2 (ad zZ (.lst ys));refine⟨_,rfl,c0,_,_,_,rfl,rfl,Same.seq s3 EV,rfl,sz2,λt ht=>⟨sz4,λl hl=>⟨sz1,λl2 zW=>?_⟩⟩⟩;have sB:Same (upd G3 p2 (.lst ys)) (upd (upd (upd (upd G3 p2 (.lst ys)) t (.tup [.str "not",y0])) l (.lst [.ref t,.bl true,.int 0,.int 0])) l2 (.lst [.ref l])):=Same.trans (Same.trans (ad ht _) (ad hl _)) (ad zW _);refine⟨p2,l2,_,_,rfl,rfl,sB _ _ ac,ac,big _ (by show ys.length+1<=302;lia),λp3 AG=>?_⟩;have s4:=Same.trans sB (ad AG (.lst (ys++[.ref l])));have sA:=Same.trans s3 s4;have sl:Same (upd (upd (upd G3 p2 (.lst ys)) t (.tup [.str "not",y0])) l (.lst [.ref t,.bl true,.int 0,.int 0])) (upd (upd (upd (upd (upd G3 p2 (.lst ys)) t (.tup [.str "not",y0])) l (.lst [.ref t,.bl true,.int 0,.int 0])) l2 (.lst [.ref l])) p3 (.lst (ys++[.ref l]))):=Same.trans (ad zW _) (ad AG _);refine zL _ p3 l _ zX (.no it.1,0) sA ac (Holds.mono sA hy) (gw (sl _ _ ac) (.tup (SqT.of (sl _ _ (ad hl _ _ _ ac))) (.cons (.flat rfl) (.cons (Hold.mono sA EQ) .nil))) eT.symm ?_) ?_ (gd.last (by rw[Say.due,if_pos eT];exact gd.it) (aN _))
  ·show(0:Int)=((it.1.nts:Nat):Int);rw[fv _ eT];rfl
  ·rw[cp,cv,tt];show cb zX+(it.1.size+1)<=_;lia
 dsimp only[mq,yf];refine ifQ (kh H p) (kh H p) (λk kf kt=>?_) (λG4 R4=>?_) (λG4 R4=>?_)
 ·refine⟨_,rfl,rfl,_,rfl,?_⟩;refine cz (λ_=>?_) (λ_=>kf G3 R3);refine⟨_,rfl,c0,_,_,_,rfl,rfl,Same.seq R3.1 EV,rfl,_,_,rfl,rfl,_,rfl,?_⟩;cases decide (it.2 < 3)with
  |false=>exact kf G3 R3
  |true=>exact kt G3 R3
 ·obtain⟨s2,_⟩:=R4;refine⟨_,rfl,_,rfl,_,rfl,r,_,rfl,SqL.of (s2 _ _ gr),λp2 zZ=>?_⟩;rw[show -(1:Int)=-1 from rfl,Dx];have s3:=Same.trans s2 (ad zZ (.lst ys));refine⟨_,rfl,c0,_,_,_,rfl,rfl,Same.seq s3 EV,rfl,sz2,λt ht=>?_⟩;have s5:=Same.trans s3 (ad ht (.tup [.str "again",y0]));refine⟨_,rfl,c0,_,_,_,rfl,rfl,Same.seq s5 EV,rfl,_,rfl,c0,_,_,_,rfl,rfl,Same.seq s5 EV,rfl,_,_,rfl,rfl,sz4,λl hl=>⟨sz1,λl2 zW=>?_⟩⟩;have sB:Same (upd G4 p2 (.lst ys)) (upd (upd (upd (upd G4 p2 (.lst ys)) t (.tup [.str "again",y0])) l (.lst [.ref t,.bl false,.int (it.1.nts:Int),.int (it.2+1)])) l2 (.lst [.ref l])):=Same.trans (Same.trans (ad ht _) (ad hl _)) (ad zW _);refine⟨p2,l2,_,_,rfl,rfl,sB _ _ ac,ac,big _ (by show ys.length+1<=302;lia),λp3 AG=>?_⟩;have s4:=Same.trans sB (ad AG (.lst (ys++[.ref l])));have sA:=Same.trans s3 s4;have sl:Same (upd (upd (upd G4 p2 (.lst ys)) t (.tup [.str "again",y0])) l (.lst [.ref t,.bl false,.int (it.1.nts:Int),.int (it.2+1)])) (upd (upd (upd (upd (upd G4 p2 (.lst ys)) t (.tup [.str "again",y0])) l (.lst [.ref t,.bl false,.int (it.1.nts:Int),.int (it.2+1)])) l2 (.lst [.ref l])) p3 (.lst (ys++[.ref l]))):=Same.trans (ad zW _) (ad AG _);refine zL _ p3 l _ zX (.again it.1,it.2+1) sA ac (Holds.mono sA hy) (gw (sl _ _ ac) (.tup (SqT.of (sl _ _ (ad hl _ _ _ ac))) (.cons (.flat rfl) (.cons (Hold.mono sA EQ) .nil))) rfl rfl) ?_ (gd.last gd.it (aN _));rw[cp,cv,tt];show cb zX+(it.1.size+1)<=_;lia
 dsimp only[mq,yf];refine ifQ (kh H p) (λG=>kh H p G/\1 < (ys++[V.ref c0]).length) (λk kf kt=>?_) (λG5 R5=>?_) (λG5 R5=>?_)
 ·refine⟨_,rfl,_,_,rfl,rfl,_,rfl,?_⟩;refine cz (λ_=>?_) (λ_=>kf G4 R4);refine⟨_,rfl,_,_,rfl,rfl,_,rfl,?_⟩;refine cz (λ_=>?_) (λ_=>kf G4 R4);refine⟨_,rfl,r,_,rfl,.inl (SqL.of (R4.1 _ _ gr)),_,_,rfl,rfl,_,rfl,?_⟩;cases e:decide ((1:Int) < (((ys++[V.ref c0]).length:Nat):Int))with
  |false=>exact kf G4 R4
  |true=>
   have z:(1:Int) < (((ys++[V.ref c0]).length:Nat):Int):=of_decide_eq_true e;exact kt G4 ⟨R4,by lia⟩
 ·obtain⟨⟨s2,_⟩,l1⟩:=R5;rw[aO,eX,ly]at l1;rcases nO zX with e | ⟨js,i1,e⟩
  ·rw[e]at l1;exact absurd l1 (by decide)
  rw[nP]at e;subst e;refine⟨_,rfl,sz2,λl hl=>?_⟩;have s3:=Same.trans s2 (ad hl (.lst [.str "either",.str "then"]));have e2:(js++[i1])++[it]=js++[i1,it]:=(by simp);have wd2:∃wd:Str,(wd="either"\/wd="then")/\atI [V.str "either",V.str "then"] (v % 2)=some (.str wd):=by
   have z:v % 2=0\/v % 2=1:=(by lia);rcases z with z | z
   ·rw[z];exact⟨_,.inl rfl,rfl⟩
   ·rw[z];exact⟨_,.inr rfl,rfl⟩
  obtain⟨wd,RC,ewd⟩:=wd2;refine⟨_,rfl,_,_,rfl,rfl,(by show(0:Int) < 2;decide),l,_,_,_,rfl,rfl,SqL.of ac,ewd,r,wd,_,js,i1,it,rfl,RC,s3 _ _ gr,(by rw[<-e2];exact Holds.mono s3 hd),?_,λr' AM sy d H' s4 g4 h4 e4 en eu _=>?_⟩
  ·rw[aO,eX]at tl;lia
  ·refine q r' AM js (sy,d) H' (Same.trans s3 s4) g4 h4 ?_ (Gd.join (by rw[<-e2];exact gd) en (eu ws));rw[cp,cv,tt,cp,cv];show cb js+sy.size<=_;lia
 obtain⟨s5,a5,b5,g5,ha5,hb5⟩:=R5;refine⟨sz14,λl0 CM=>?_⟩;obtain⟨st,stm,ste⟩:=Ji (ns:=[0,1,2,3,2,0,1,0,1,0,1,0,1,0]) v0 v1;have DT:0<=st/\st<=3:=by
  simp only[aU,eY,or_false]at stm;omega
 refine⟨_,rfl,l0,_,_,_,rfl,rfl,SqL.of ac,ste,?_⟩;have s6:=Same.trans s5 (ad CM (.lst [.int 0,.int 1,.int 2,.int 3,.int 2,.int 0,.int 1,.int 0,.int 1,.int 0,.int 1,.int 0,.int 1,.int 0]));refine⟨_,rfl,_,rfl,_,rfl,_,rfl,st,a5,b5,p,sp,ws,rfl,DT.1,DT.2,(ad CM _ _ _ g5),ha5,hb5,Hold.mono s6 zU,sk,wd,λx sy G7 k7 hx7 eT eN eS eD=>?_⟩;have s7:Same H G7:=Same.keep s6 hp k7;refine⟨_,rfl,rfl,sz4,λl hl=>⟨sz1,λl2 zW=>?_⟩⟩;have s8:Same G7 (upd (upd G7 l (.lst [x,.bl (!decide (V.int st=V.int 1)),.int 0,.int 0])) l2 (.lst [.ref l])):=Same.trans (ad hl _) (ad zW _);refine⟨r,l2,_,_,rfl,rfl,s8 _ _ (s7 _ _ gr),ac,big _ (by rw[aO];show ys.length+1+1<=302;lia),λp3 AG=>?_⟩;have s9:=Same.trans s8 (ad AG (.lst ((ys++[.ref c0])++[.ref l])));have sA:=Same.trans s7 s9;have sl:Same (upd G7 l (.lst [x,.bl (!decide (V.int st=V.int 1)),.int 0,.int 0])) (upd (upd (upd G7 l (.lst [x,.bl (!decide (V.int st=V.int 1)),.int 0,.int 0])) l2 (.lst [.ref l])) p3 (.lst ((ys++[.ref c0])++[.ref l]))):=Same.trans (ad zW _) (ad AG _);refine zL _ p3 l _ (zX++[it]) (sy,0) sA ac (Holds.mono sA hd) (gw (sl _ _ ac) (Hold.mono s9 hx7) eT.symm (by rw[eN];rfl)) ?_ (gd.snoc eD (by show ntot (zX++[it])+sy.nts<=most;rw[eN];exact gd.nts));rw[cp (zX++[it]),cv,eS];exact aN _
theorem Kb {f fR fJ:Addr}{fd LV HK:bX}(F:Fun K "_law_saying" "_law_saying" Av f fd)
  (GR:FnOk P w K mg base CX0 3 fR LV ["_law_row","_law_cell_here","_law_speech_here","_law_most"] (xk K)) (bR:Binds K LV ["_law_row","_law_cell_here","_law_speech_here","_law_most"] []) (kR:aV K (.ref fR)=true) (mR:mg "_law_grown"=some (.ref fR))
  (GJ:FnOk P w K mg base CX0 1 fJ HK ["_law_row","_law_word"] (oh K)) (bJ:Binds K HK ["_law_row","_law_word"] []) (kJ:aV K (.ref fJ)=true) (mJ:mg "_law_joined"=some (.ref fJ))
  (ml:mg "len"=none):FnOk P w K mg base CX0 4 f fd ["_law_cells","_law_speech_here","_law_most"] (B0 K):=by
 refine F.ok Dz (λvs H Q E h=>?_) (λzH A outer s H vs Q E hr h=>?_)
 ·obtain⟨c,sp,m,xs,ws,rfl,_⟩:=h;rfl
 obtain⟨c,sp,most,cs,ws,rfl,hS,hI,RD,zU,sk,wd,q⟩:=h;have AF:Room 1 _:=hr.mono (by decide);refine⟨_,ag (av (i:=3) Dz.nd rfl (cD rfl) (az (aa (az (aa (c9 (bz bh ae)) (bz j9 (bz af (bz af ae))))) ae))) (ag (dv eU rfl (cf (pv 0)) (ba (i:=4) Dz.nd rfl (cD rfl)) (ah (av (i:=3) Dz.nd rfl (cD rfl) (ao GR hr rfl mR kR bR .nil aw (aa (pv 3) (aa (pv 4) (aa (pv 1) (aa (pv 2) ae)))))))) (ag (nh eU (bc yh (bn bj rfl ml gF (aa (pv 3) ae)) af (bg _)) (ah (av (i:=3) Dz.nd rfl (cD rfl) (ao GJ AF rfl mJ kJ bJ .nil aw (aa (pv 3) (aa (aq ar (az (bz bh (bz bh ae))) (ay jd (ay jd (bn bj rfl ml gF (aa (pv 3) ae)) af) af) (λ_ _=>rfl)) ae)))))) (ah (ax (aq ar (aq ar (pv 3) af (λ_ _=>rfl)) af (λ_ _=>rfl)))))),?_⟩;dsimp only[bb,Cx.nox];refine⟨sz1,λt ht=>⟨sz4,λl hl=>⟨sz1,λl2 zW=>?_⟩⟩⟩;generalize CG:upd (upd (upd H t (.tup [.str "all"])) l (.lst [.ref t,.bl true,.int 0,.int 0])) l2 (.lst [.ref l])=G2;have s2:Same H G2:=by
  rw[<-CG];exact Same.trans (Same.trans (ad ht _) (ad hl _)) (ad zW _)
 have g2:G2 l2=some (.lst [.ref l]):=(by rw[<-CG,ac]);have JR:Holds K G2 [V.ref l] ((([]:List bu)++[(Say.every,0)]).map dq):=by
  rw[<-CG];exact .one (gw (i:=(Say.every,0)) (ad zW _ _ _ ac) (.tup (SqT.of (ad zW _ _ _ (ad hl _ _ _ ac))) (.cons (.flat rfl) .nil)) rfl rfl)
 refine⟨_,rfl,c,rfl,⟨_,s2.seq hS⟩,fe (K:=K) (a:=c) (xs:=cs) (λi σ G=>∃(r:Addr)(xs:List V) (js:List bu) (j:bu) (v4:Option V),σ=[some (.ref c),some (.ref sp),some (.int (most:Int)),some (.ref r),v4]/\Same G2 G/\G r=some (.lst xs)/\Holds K G xs ((js++[j]).map dq)/\cb (js++[j])<=1+i/\Gd ws (js++[j]) most) ⟨l2,_,[],(Say.every,0),none,rfl,Same.refl _,g2,JR,aN _,⟨λi hi=>(by rw[aY.mp hi];rfl),eV _⟩⟩ (λi σ G _ z=>by obtain⟨_,_,_,_,_,_,sG,_⟩:=z;exact(Same.trans s2 sG).seq hS) ?_ ?_⟩
 ·intro i x σ G hx zE;obtain⟨r,xs,js,j,v4,rfl,sG,gr,hd,tt,gd⟩:=zE;generalize zI:d6.mk _ _ _ _=zV;revert zI zV;refine id ?_;intro zV zI;obtain⟨n,rfl⟩:=hI x (bK hx);have hi:i < cs.length:=(aL.mp hx).1;refine⟨_,rfl,_,rfl,_,rfl,_,rfl,r,sp,n,most,xs,js,j,ws,rfl,gr,hd,by lia,Hold.mono (Same.trans s2 sG) zU,sk,wd,gd,λr' AM EW j' G' s' g' h' t' RE=>?_⟩;subst zI;exact⟨r',AM,EW,j',_,rfl,Same.trans sG s',g',h',by lia,RE⟩
 ·intro σ G zE;obtain⟨r,xs,js,j,v4,rfl,sG,gr,hd,tt,gd⟩:=zE;have lj:js.length+1<=cb (js++[j]):=by
   have z:=np (js++[j]);rw[aO,eX]at z;exact z
  refine⟨λm σ G=>∃(r:Addr)(xs:List V) (js:List bu) (j:bu),σ=[some (.ref c),some (.ref sp),some (.int (most:Int)),some (.ref r),v4]/\Same G2 G/\G r=some (.lst xs)/\Holds K G xs ((js++[j]).map dq)/\js.length+cb (js++[j])<=58/\Gd ws (js++[j]) most/\m=js.length,⟨_,r,xs,js,j,rfl,sG,gr,hd,by lia,gd,rfl⟩,?_⟩;clear lj tt hd gr sG gd;intro m σ G zE;obtain⟨r,xs,js,j,rfl,sG,gr,hd,tt,gd,rfl⟩:=zE;have lx:xs.length=js.length+1:=(by rw[hd.length,aI,aO,eX]);refine⟨_,rfl,r,_,rfl,.inl (SqL.of gr),_,_,rfl,rfl,_,rfl,?_⟩;refine cz (λcc=>?_) (λcc=>?_)
  ·have c':(1:Int) < ((xs.length:Nat):Int):=of_decide_eq_true cc;rcases nO js with e | ⟨ks,i1,e⟩
   ·rw[e]at lx;rw[lx]at c';exact absurd c' (by decide)
   rw[nP]at e;subst e;have e2:(ks++[i1])++[j]=ks++[i1,j]:=(by simp);have t1:cb ((ks++[i1])++[j])=cb ks+i1.1.size+j.1.size:=(by rw[cp,cp,cv,cv]);have l1:(ks++[i1]).length=ks.length+1:=(by rw[aO,eX]);rw[t1,l1]at tt;refine⟨λσ' G'=>∃(r:Addr)(xs:List V) (js:List bu) (j:bu),σ'=[some (.ref c),some (.ref sp),some (.int (most:Int)),some (.ref r),v4]/\Same G2 G'/\G' r=some (.lst xs)/\Holds K G' xs ((js++[j]).map dq)/\js.length+cb (js++[j])<=58/\Gd ws (js++[j]) most/\js.length < (ks++[i1]).length,λσ' G' z=>?_,?_⟩
   ·obtain⟨r,xs,js,j,z1,z0,z2,z3,z4,z6,z5⟩:=z;exact⟨_,z5,r,xs,js,j,z1,z0,z2,z3,z4,z6,rfl⟩
   ·refine⟨_,rfl,sz2,λlw RF=>?_⟩;have sw:=ad RF (.lst [.str "either",.str "then"]);have m0:=gf (((xs.length:Nat):Int) % 3) (m:=2) (by decide);obtain⟨wd,hw,ew⟩:=Jl (ns:=["either","then"]) m0.1 m0.2;have JA:wd="either"\/wd="then":=by
     rcases aU.mp hw with z | z
     ·exact .inl z
     ·exact .inr (aY.mp z)
    refine⟨_,rfl,r,_,rfl,.inl (SqL.of (sw _ _ gr)),_,_,rfl,rfl,(by show(0:Int) < 3;decide),_,_,rfl,rfl,(by show(0:Int) < 2;decide),lw,_,_,_,rfl,rfl,SqL.of ac,ew,?_⟩;refine⟨r,wd,_,ks,i1,j,rfl,JA,sw _ _ gr,(by rw[<-e2];exact Holds.mono sw hd),by lia,λr' AM sy d G' s' g' h' e' en eu _=>?_⟩;refine⟨r',AM,ks,(sy,d),rfl,Same.trans sG (Same.trans sw s'),g',h',?_,Gd.join (by rw[<-e2];exact gd) en (eu ws),by lia⟩;rw[cp,cv];show ks.length+(cb ks+sy.size)<=58;lia
  ·have c':¬(1:Int) < ((xs.length:Nat):Int):=λz=>cc (decide_eq_true z);have e:js=[]:=iB.mp (by lia);subst e;obtain⟨ys,x0,rfl,hy,CO⟩:=g0 (ds:=[]) hd;cases hy;obtain⟨c0,y0,rfl,EV,EQ⟩:=iy CO;have sj:j.1.size<=58:=by
    rw[cp,cv]at tt;lia
   exact⟨_,rfl,r,_,_,_,rfl,rfl,SqL.of gr,rfl,c0,_,_,_,rfl,rfl,EV,rfl,q y0 j.1 G (Same.trans s2 sG) EQ sj gd.it gd.nt1⟩
end
def Mp (K:aC):Sp:=λvs H Q _=>∃(a:Addr)(ws:List (Str×Nat)),vs=[.ref a]/\Hold K H (.ref a) (cy ws)/\br ws/\∀(r':Addr)(H':Hp),Same H H'->LetAt K H' r' (c7 (ws.map (·.2)))->Q (.ref r') H'
section
variable {P:aP}{w:aW}{K:aC}{mg:Str->Option aB}{base:Heap}
theorem ue:au ["_law_speech_here","_law_found","_law_field","_law_count","_law_longer","_law_letter"] ["_law_speech_here"] (aj Cg):=fsN
def Rf:gM:={ kind:=.function,names:=[(".0",.local),("_law_value",.local),("_law_letter",.free)],isGenerator:=false,isCoroutine:=false,more:=[] }
theorem cLl_ {CX:CXT}{f:Addr}{zH:aB}{A:cQ}{outer:List Env}{s:aG}{H:Hp}{E:XK} :
  bv (bb CX P w K mg base ["_law_speech_here","_law_found","_law_field","_law_count","_law_longer","_law_letter"] "_law_letters" (aj Cg) f zH A outer s H E).nox ["_law_value"] ["_law_letter"] [5] Rf [("_law_letter",s.heap.objs.size+1)]:=csN [(".0",.local),("_law_value",.local),("_law_letter",.cell)]
theorem Tm {f:Addr}{fd:bX}(F:Fun K "_law_letters" "_law_letters" Cg f fd)(mr:mg "range"=none):FnOk P w K mg base CX0 1 f fd ["_law_speech_here"] (Mp K):=by
 refine F.ok ue (λvs H Q E h=>?_) (λzH A outer s H vs Q E hr h=>?_)
 ·obtain⟨a,ws,rfl,_⟩:=h;rfl
 obtain⟨a,ws,rfl,hs,sk,q⟩:=h;refine⟨_,ag (av (i:=1) ue.nd rfl (cD rfl) (az (aa (c9 ae) ae))) (ag (dv eU rfl (pb (pv 0)) (tj rfl (fb (ba (i:=2) ue.nd rfl (cD rfl)) (fb (ba (i:=3) ue.nd rfl (cD rfl)) m9))) (ag (av (i:=4) ue.nd rfl (cD rfl) (az ae)) (ag (dv eU rfl (cf (pv 1)) (ba (i:=5) ue.nd rfl (mZ rfl)) (ah (av (i:=4) ue.nd rfl (cD rfl) (ay dw (pv 4) (dy (ns:=["_law_value"]) (ys:=["_law_letter"]) (sc:=Rf) cLl_ rfl (jo rfl mr (aa (pv 3) ae)) (λC s H fp=>ba (i:=0) (by show(["_law_value","_law_letter"]:List Str).Nodup;decide +kernel) rfl (cD rfl)) (λC s H fp=>cx) (λC s H fp=>ay (r:=λx y H Q=>io K x y H Q\/fz K x y H Q) j3 (pv 1) (c9 (aa (pv 0) ae)))))))) (ah (av (i:=1) ue.nd rfl (cD rfl) (pv 4)))))) (ah (ax (pv 1)))),?_⟩;dsimp only[bb,Cx.nox];refine⟨sz0,λt ht=>⟨sz1,λr DM=>?_⟩⟩;have tr:t≠r:=am ac DM;have BN:H r=none:=Same.free (ad ht _) DM;obtain⟨a',vs,ea,ha,hd⟩:=Hold.tupI hs;cases ea;have lw:vs.length=ws.length:=(by rw[hd.length,aI]);have s0:Same H (upd (upd H t (.tup [])) r (.lst [.ref t])):=Same.put (ad ht _) BN _;refine⟨_,rfl,a,rfl,⟨_,ha.same s0⟩,Aj (K:=K) (a:=a) (xs:=vs) (λi σ G=>∃(r:Addr)(v2 v3 v4 v5:Option V),σ=[some (.ref a),some (.ref r),v2,v3,v4,v5]/\Same H G/\LetAt K G r (c7 ((ws.take i).map (·.2)))) ⟨r,none,none,none,none,rfl,s0,[.ref t],ac,.one (.tup (SqT.of (by rw[ai tr,ac])) .nil)⟩ (λi σ G _ zF=>by obtain⟨_,_,_,_,_,_,sG,_⟩:=zF;exact ha.same sG) ?_ ?_⟩
 ·intro i x σ G hx zE;obtain⟨r,v2,v3,v4,v5,rfl,sG,us,gr,hu⟩:=zE;obtain⟨w',ew,hw⟩:=hd.getm hx;obtain⟨b,ys,rfl,hb,AO⟩:=Hold.tupI hw;have hi:i < ws.length:=(aL.mp ew).1;have wm:w'∈ws:=bK ew;have h6:=sk.cnt w' wm;have i3:=sk.hi;have lm:(c7 ((ws.take i).map (·.2))).length<=36:=by
   rw[i8];refine bQ (Db _ λc hc=>?_) ?_
   ·obtain⟨z,hz,rfl⟩:=jD.mp hc;exact(sk.cnt z (lX hz)).2
   ·rw[aI,dJ];exact bQ (pY (by decide) (show min i ws.length<=2 by lia)) (by decide)
  have LW:∀l∈c7 ((ws.take i).map (·.2)),l.length<=10:=λl hl=>by
   rw[(fk _).wide l hl,aI,dJ];lia
  have tk0:(ws.take (i+1)).map (·.2)=(ws.take i).map (·.2)++[w'.2]:=(by rw[eJ,ew];simp);rw[tk0,nn];generalize c7 ((ws.take i).map (·.2))=ls at hu lm LW ⊢;have ul:us.length=ls.length:=(by rw[hu.length,aI]);cases AO with
  |cons h1 r1=>
   cases r1 with
   |cons h2 r2=>
    cases r2;cases h1.flatI;cases h2.flatI;refine⟨b,_,rfl,hb.same sG,rfl,_,_,rfl,_,_,rfl,rfl,?_⟩;refine⟨sz0,λu0 LS=>?_⟩;have t0:=ad LS (.lst []);refine⟨_,rfl,r,rfl,⟨_,SqL.of (t0 _ _ gr)⟩,fe (K:=K) (a:=r) (xs:=us) (λj σ G2=>∃(u:Addr)(xs:List V) (v5:Option V),σ=[some (.ref a),some (.ref r),some (.str w'.1),some (.int (w'.2:Int)),some (.ref u),v5]/\Same G G2/\G2 u=some (.lst xs)/\Holds K G2 xs ((longer (ls.take j) w'.2).map fj)) ⟨u0,[],_,rfl,t0,ac,.nil⟩ (λj σ G2 _ zF=>by obtain⟨_,_,_,_,s2,_⟩:=zF;exact SqL.of (s2 _ _ gr)) ?_ ?_⟩
    ·intro j x σ G2 FJ zE;obtain⟨u,xs,v5,rfl,s2,gu,AI⟩:=zE;obtain⟨l,el,hl⟩:=hu.getm FJ;obtain⟨a2,ys,rfl,LU,AO⟩:=Hold.tupI hl;have ey:ys=l.map V.int:=AO.ints;subst ey;have NH:j < ls.length:=(aL.mp el).1;have NX:l.length<=10:=LW l (bK el);have xl:xs.length<=600:=by
      rw[AI.length,aI,mf,dJ];exact bQ (Nat.mul_le_mul (show min j ls.length<=100 by lia) h6.2) (by decide)
     refine⟨_,rfl,_,rfl,(w'.2:Int),rfl,by lia,by lia,λD hD=>?_⟩;refine qj (n:=(w'.2:Int).toNat) (λk zs G'=>Same G2 G'/\G' D=some (.lst zs)/\Holds K G' zs (((eE k).map λ(v:Nat)=>l++[(v:Int)]).map fj)) ⟨ad hD _,ac,.nil⟩ (λj zs G' h=>h.2.1) ?_ ?_
     ·intro k zs G' hk zE;obtain⟨s1,d1,k1⟩:=zE;have zl:zs.length=k:=(by rw[k1.length,aI,aI,gR]);refine⟨be (by lia),⟨[some _],rfl,rfl⟩,?_⟩;refine⟨_,rfl,_,rfl,sz1,λt ht=>?_⟩;have PZ:G2 D=none:=hD;have zL:∀(p:Addr)(G3:Hp),Same G' G3->G3 p=some (.tup ((l++[(k:Int)]).map V.int))->G3 D=some (.lst zs)/\Same G2 (upd G3 D (.lst (zs++[.ref p])))/\upd G3 D (.lst (zs++[.ref p])) D=some (.lst (zs++[.ref p]))/\
        Holds K (upd G3 D (.lst (zs++[.ref p]))) (zs++[.ref p]) (((eE (k+1)).map λ(v:Nat)=>l++[(v:Int)]).map fj):=λp G3 s3 hp=>by
       have EF:G3 D=some (.lst zs):=s3 _ _ d1;refine⟨EF,Same.put (Same.trans s1 s3) PZ _,ac,?_⟩;rw[lU,cU,cU];refine Holds.append (Holds.stay ((Tups.of s3).trans (Tups.put EF _)) (by rw[rA];exact df (λ_=>gg _) _) k1) (.one (.tup (SqT.of ?_) (d0 _)));rw[ai (im hp EF (by intro z;cases z))];exact hp
      have DN:SqT K G' a2 (l.map V.int):=LU.same (Same.trans s2 s1);by_cases CM:l=[]
      ·subst CM;refine .inr ⟨a2,t,[.int (0+(k:Int))],rfl,rfl,DN.same (ad ht _),SqT.of ac,zL t _ (ad ht _) ?_⟩;rw[ac];simp
      ·refine .inl ⟨a2,t,l.map V.int,[.int (0+(k:Int))],rfl,rfl,DN.same (ad ht _),SqT.of ac,(by simpa using CM),small (by rw[aI];show l.length+1<=1000;lia),(λe=>by cases e),λ_ p hp=>zL p _ (Same.trans (ad ht _) (ad hp _)) ?_⟩;rw[ac];simp
     ·intro zs G' zE;obtain⟨s1,d1,k1⟩:=zE;have ct:(w'.2:Int).toNat=w'.2:=(by lia);rw[ct]at k1;have zl:zs.length=w'.2:=(by rw[k1.length,aI,aI,gR]);refine⟨u,D,xs,zs,rfl,rfl,s1 _ _ gu,d1,small (by lia),λp3 AG=>?_⟩;have t3:=ad AG (.lst (xs++zs));refine⟨p3,xs++zs,_,rfl,Same.trans (Same.trans s2 s1) t3,ac,?_⟩;have tk:ls.take (j+1)=ls.take j++[l]:=(by rw[eJ,el];rfl);rw[tk,wa,cU];exact(AI.mono (Same.trans s1 t3)).append (k1.mono t3)
    ·intro σ G2 zE;obtain⟨u,xs,v5,rfl,s2,gu,AI⟩:=zE;rw[ul,eZ]at AI;exact⟨_,rfl,u,_,_,_,_,rfl,Same.trans sG s2,xs,gu,AI⟩
 ·intro σ G zE;obtain⟨r,v2,v3,v4,v5,rfl,sG,lt⟩:=zE;refine⟨_,rfl,q r G sG ?_⟩;rw[lw,eZ]at lt;exact lt
end
end S23
namespace PySem
namespace TupSet
open SetTable
def mo (t:eK)(hs:Nat->Int)(eq:Nat->Bool)(h:Int):Nat->Probe->Option (Option Nat)
 |0,_=>none
 |f+1,p=>match t.probe hs h p with
  |some (.empty j none)=>some (some j)
  |some (.candidate _ i next)=>if eq i then some none else mo t hs eq h f next
  |_=>none
structure Kc (t:eK)(n:Nat):Prop where
 mask:t.mask=7
 dum:t.dummies=#[]
 size:t.place.size=n
 plain:t.plain=true
theorem oz (xs:Array Nat)(j:Nat):∀(f lo hi:Nat),lo<=hi->hi<=xs.size->below.go xs j f lo hi<=xs.size
 |0,lo,hi,h1,h2=>by unfold below.go;lia
 |f+1,lo,hi,h1,h2=>by
  unfold below.go;dsimp only
  split
  ·split
   ·exact oz xs j f _ _ (by lia) h2
   ·exact oz xs j f _ _ (by lia) (by lia)
  ·lia
theorem xo (xs:Array Nat)(j:Nat):below xs j<=xs.size:=oz xs j _ _ _ (eV _) (aN _)
theorem Cb {α:Type}(xs:Array α)(p:Nat)(x:α)(h:p<=xs.size):(insertAt xs p x).size=xs.size+1:=by
 unfold insertAt;simp;lia
end TupSet
end PySem
set_option linter.unusedVariables false
namespace PySem
namespace TupSet
open SetTable
section
variable (prog:aP)(w:aW)
def c8 (x:List Int):Int:=xV (eF prog w) x
def Rg (h:Heap)(e:Int×aB)(x:List Int):Prop:=e.1=c8 prog w x/\∃a,e.2=.ref a/\eQ (eF prog w) h x a
def EntsOf (h:Heap):List (Int×aB)->List (List Int)->Prop
 | [],[]=>True
 |e::es,x::xs=>Rg prog w h e x/\EntsOf h es xs
 |_,_=>False
def Hn (h:Heap)(S:Addr)(t:eK)(xs:List (List Int)):Prop:=
 ∃o es ep,h.get? S=some o/\o.ExactSet/\o.data=.set es ep t/\Kc t xs.length/\EntsOf prog w h es.toList xs
end
section
variable {prog:aP}{w:aW}
theorem EntsOf.length {h:Heap}:∀{es:List (Int×aB)}{xs:List (List Int)},EntsOf prog w h es xs->es.length=xs.length
 | [],[],_=>rfl
 | [],_::_,h=>h.elim
 |_::_,[],h=>h.elim
 |_::es,_::xs,h=>by simp[EntsOf.length h.2]
theorem EntsOf.get {h:Heap}:∀{es:List (Int×aB)}{xs:List (List Int)}(_:EntsOf prog w h es xs) {i:Nat}{e:Int×aB},es[i]?=some e->∃x,xs[i]?=some x/\Rg prog w h e x
 | [],[],_,i,e,he=>by simp at he
 | [],_::_,h,_,_,_=>h.elim
 |_::_,[],h,_,_,_=>h.elim
 |e'::es,x::xs,h,0,e,he=>by simp at he;subst he;exact⟨x,rfl,h.1⟩
 |e'::es,x::xs,h,i+1,e,he=>by simpa using EntsOf.get h.2 (i:=i) (by simpa using he)
theorem EntsOf.hash {h:Heap}:∀{es:List (Int×aB)}{xs:List (List Int)}(_:EntsOf prog w h es xs) (i:Nat),((es[i]?).map (·.1)).getD 0=((xs[i]?).map (c8 prog w)).getD 0
 | [],[],_,i=>by simp
 | [],_::_,h,_=>h.elim
 |_::_,[],h,_=>h.elim
 |e'::es,x::xs,h,0=>by simpa using h.1.1
 |e'::es,x::xs,h,i+1=>by simpa using EntsOf.hash h.2 i
theorem EntsOf.take {h:Heap}:∀{es:List (Int×aB)}{xs:List (List Int)}(_:EntsOf prog w h es xs) (p:Nat),EntsOf prog w h (es.take p) (xs.take p)
 | [],[],_,p=>by simp[EntsOf]
 | [],_::_,h,_=>h.elim
 |_::_,[],h,_=>h.elim
 |e'::es,x::xs,h,0=>by simp[EntsOf]
 |e'::es,x::xs,h,p+1=>by simpa[EntsOf]using⟨h.1,EntsOf.take h.2 p⟩
theorem EntsOf.drop {h:Heap}:∀{es:List (Int×aB)}{xs:List (List Int)}(_:EntsOf prog w h es xs) (p:Nat),EntsOf prog w h (es.drop p) (xs.drop p)
 | [],[],_,p=>by simp[EntsOf]
 | [],_::_,h,_=>h.elim
 |_::_,[],h,_=>h.elim
 |e'::es,x::xs,h,0=>h
 |e'::es,x::xs,h,p+1=>by simpa using EntsOf.drop h.2 p
theorem EntsOf.app {h:Heap}:∀{es GK:List (Int×aB)}{xs AM:List (List Int)}(_:EntsOf prog w h es xs) (_:EntsOf prog w h GK AM),EntsOf prog w h (es++GK) (xs++AM)
 | [],_,[],_,_,h'=>h'
 | [],_,_::_,_,h,_=>h.elim
 |_::_,_,[],_,h,_=>h.elim
 |e'::es,_,x::xs,_,h,h'=>⟨h.1,EntsOf.app h.2 h'⟩
theorem EntsOf.imp {h h':Heap}(k:∀x a,eQ (eF prog w) h x a->eQ (eF prog w) h' x a):∀{es:List (Int×aB)}{xs:List (List Int)}(_:EntsOf prog w h es xs),EntsOf prog w h' es xs
 | [],[],_=>trivial
 | [],_::_,h=>h.elim
 |_::_,[],h=>h.elim
 |e'::es,x::xs,h=>⟨⟨h.1.1,h.1.2.elim λa ha=>⟨a,ha.1,k _ _ ha.2⟩⟩,EntsOf.imp k h.2⟩
theorem xp {k:Int}{v:aB}(h:(eF prog w).is k v=true):∃t,v=.int k t:=by
 have h':jL k v=true:=h;cases v<;>simp[jL]at h';exact⟨_,by rw[h']⟩
variable {A:cQ}{E:aB->aG->Prop}{s:aG}
theorem items_int {ks:List Int}{vs:List aB}(h:ItemsAre (eF prog w) ks vs):∀v∈vs,∃k t,v=.int k t:=by
 induction h with
 |nil=>intro v hv;simp at hv
 |@cons k v' ks vs h1 _ ih=>
  intro v hv;rcases aU.mp hv with rfl | hv
  ·exact⟨k,xp h1⟩
  ·exact ih v hv
theorem A6 {ks:List Int}{a:Addr}{Q:Bool->aG->Prop}(hk:eQ (eF prog w) s.heap ks a)(h:Q true s):aM (aX prog w) A (yI 8 (.ref a)) Q E s:=by
 have hT:=hk.typeIs;obtain⟨o,items,n,ho,_,hd,hi⟩:=hk;unfold yI;refine aA (lT hT F.slot_tuple_hash.lookup ?_);dsimp only;refine aA (jC ho hd ?_);refine aA ?_;show aM _ _ (forIn items _ _) _ _ s;rw[<-pD];refine nF _ (λrest r s'=>r.1=none/\s'=s/\∀v∈rest,∃k t,v=nI k t) _ ?_ ?_ _ _ ⟨rfl,rfl,items_int hi⟩
 ·intro v rest r s' zE;obtain⟨hr,rfl,AS⟩:=zE;obtain⟨k,t,rfl⟩:=AS v cJ;refine aA (m:=yI 7 (.int k t)) (wpAny_pure ?_);simp only[lH,cZ,if_false];exact wpAny_pure ⟨rfl,rfl,λu IX=>AS u (cC _ IX)⟩
 ·intro zE s' CT;obtain⟨r1,r2⟩:=zE;obtain⟨hr,rfl,_⟩:=CT;simp only at hr;subst hr;exact wpAny_pure h
theorem wf {ks:List Int}{a:Addr}{Q:Bool->aG->Prop}(hk:eQ (eF prog w) s.heap ks a)(h:Q false s):aM (aX prog w) A (vF 8 (.ref a)) Q E s:=by
 have hT:=hk.typeIs;obtain⟨o,items,n,ho,hc,hd,hi⟩:=hk;unfold vF;refine aA (tK hT ?_);dsimp only;rw[if_pos (by decide)];refine aA (wpAny_pure ?_);simp only[lH,cZ,if_false];refine aA (jC ho hd ?_);dsimp only;refine aA ?_;show aM _ _ (forIn items _ _) _ _ s;rw[<-pD];refine nF _ (λrest r s'=>r.1=none/\s'=s/\∀v∈rest,∃k t,v=nI k t) _ ?_ ?_ _ _ ⟨rfl,rfl,items_int hi⟩
 ·intro v rest r s' zE;obtain⟨hr,rfl,AS⟩:=zE;obtain⟨k,t,rfl⟩:=AS v cJ;refine aA (m:=vF 7 (.int k t)) (wpAny_pure ?_);simp only[cZ,if_false];exact wpAny_pure ⟨rfl,rfl,λu IX=>AS u (cC _ IX)⟩
 ·intro zE s' CT;obtain⟨r1,r2⟩:=zE;obtain⟨hr,rfl,_⟩:=CT;simp only at hr;subst hr;exact wpAny_pure h
theorem Rh {α:Type}{M:sY}{c:Bool}{m m':Sem α}{Q:α->aG->Prop}(h1:aM M A m Q E s)(h2:aM M A m' Q E s):aM M A (if c=true then m else m') Q E s:=by
 cases c
 ·exact h2
 ·exact h1
theorem Kd {x:List Int}{a:Addr}{stored:List aB}{Q:Bool->aG->Prop}(hx:eQ (eF prog w) s.heap x a)(hs:∀v∈stored,∃b y,v=.ref b/\eQ (eF prog w) s.heap y b)(h:Q false s) :
  aM (aX prog w) A (searchCouldBeSeen (.ref a) stored) Q E s:=by
 unfold searchCouldBeSeen;refine aA ?_;refine nF _ (λrest r s'=>r.1=none/\s'=s/\∀v∈rest,∃b y,v=.ref b/\eQ (eF prog w) s.heap y b) _ ?_ ?_ _ _ ⟨rfl,rfl,hs⟩
 ·intro v rest r s' zE;obtain⟨hr,rfl,AS⟩:=zE;obtain⟨b,y,rfl,hy⟩:=AS v cJ;have hrest:∀u∈rest,∃b y,u=.ref b/\eQ (eF prog w) s'.heap y b:=λu IX=>AS u (cC _ IX);dsimp only[carriedByValue];refine Rh ?_ ?_
  ·exact wpAny_pure ⟨rfl,rfl,hrest⟩
  ·refine aA (wpAny_eqIsQuiet_tuple hx ?_);simp only[lH,cZ,if_false];refine aA (wpAny_eqIsQuiet_tuple hy ?_);simp only[lH,cZ,if_false];refine aA (wf hx ?_);simp only[cZ,if_false];refine aA (wf hy ?_);simp only[cZ,if_false];exact wpAny_pure ⟨rfl,rfl,hrest⟩
 ·intro zE s' CT;obtain⟨r1,r2⟩:=zE;obtain⟨hr,rfl,_⟩:=CT;simp only at hr;subst hr;exact wpAny_pure h
def zq (prog:aP)(w:aW)(h0 h:Heap)(S:Addr)(t:eK)(xs:List (List Int)):Prop:=
 ∃o es ep,h.get? S=some o/\o.ExactSet/\o.data=.set es ep t/\Kc t xs.length/\EntsOf prog w h0 es.toList xs
theorem j7 {h0 h:Heap}(hk:∀b o,h0.get? b=some o->h.get? b=some o){x:List Int}{a:Addr}(k:eQ (eF prog w) h0 x a):eQ (eF prog w) h x a:=by
 obtain⟨o,items,m,ho,r⟩:=k;exact⟨o,items,m,hk _ _ ho,r⟩
end
end TupSet
namespace TupSet
open SetTable PyProof.Rows
section
variable {prog:aP}{w:aW}{A:cQ}{R:xL->aG->Prop}{I:Addr}{fp wr:List Addr}{G:Array pP->Array pP->Prop}{n:Nat}{P:Nat->aB->Prop}{St:Nat->aG->Prop}
end
section
variable {prog:aP}{w:aW}{A:cQ}{E:aB->aG->Prop}{s:aG}
def zt (w:aW):Bool:=!(w.params.followText "set-order")
theorem Py (a:aB){Q₁:aB->aG->Prop}
  (h:Q₁ (.ref s.heap.objs.size) { s with heap:=s.heap.push { cls:=.type "set",dict:=none,data:=.set #[] 0 (.fresh 0 0 (zt w)) } }) :
  oQ (aX prog w) A (.call (.builtin "set.__new__") ⟨[.type "set",a],[]⟩) (wants Q₁ E) s:=by
 refine wH ?_;show aM _ A.in1 (do nC "set.__new__" ⟨[.type "set",a],[]⟩;again (.builtin "set.__new__" ⟨[.type "set",a],[]⟩)) _ _ s
 refine aA (yG (F.newCall_set_1 a) (wpAny_pure ⟨plainId_quiet F.plain_set_new _,pE F.entry_set_new ?_⟩));rw[pZ F.plain_set_new _];unfold iW.«set.__new__» Builtin.Frozenset.newClass;have BB:=sub_set_self;obtain⟨hp,g,d,tk,os⟩:=s;dsimp only
 wp_walk
 refine qA (wpAny_pure ?_);dsimp only;simp only[newObj];refine aA (wpAny_alloc (wpAny_pure ?_));exact wpAny_pure h
end
end TupSet
namespace TupSet
open SetTable PyProof.Rows
def Rise (t:eK):Prop:=t.place.toList.Pairwise (· < ·)
section
variable (prog:aP)(w:aW)
end
theorem Gs {α:Type}(next:Nat->Nat):∀(f k:Nat)(left:List α) (out:Array α),left.length<=f->(xW next f k left out).toList.Perm (out.toList++left)
 |0,k,left,out,h=>by
  have:left=[]:=List.eq_nil_of_length_eq_zero (by lia);subst this;unfold xW;simp
 |f+1,k,left,out,h=>by
  unfold xW
  match hl:left[next k % left.length]? with
  |none=>
   have:left=[]:=by
    cases left with
    |nil=>rfl
    |cons a l=>
     rw[List.getElem?_eq_none_iff]at hl;exact absurd (pB (next k) (show 0 < (a::l).length by simp)) (by lia)
   subst this;simp
  |some x=>
   dsimp only;obtain⟨zR,hx⟩:=aL.mp hl;have zJ:(left.eraseIdx (next k % left.length)).length<=f:=by
    rw[List.length_eraseIdx_of_lt zR];lia
   refine(Gs next f (k+1) _ _ zJ).trans ?_
   rw[Array.toList_push,pJ];refine List.Perm.append_left _ ?_;have e:left=left.take (next k % left.length)++x::left.drop (next k % left.length+1):=by
    rw[<-hx,<-jS zR,nS]
   rw[List.eraseIdx_eq_take_drop_succ];exact((List.perm_middle (l₁:=left.take (next k % left.length))).symm.trans (List.Perm.of_eq e.symm))
theorem Mq {α:Type}(next:Nat->Nat)(xs:Array α):(xX next xs).toList.Perm xs.toList:=by
 have:=Gs next xs.size 0 xs.toList #[] (by simp)
 simpa[xX]using this
end TupSet
namespace TupSet
open SetTable PyProof.Rows
theorem gn:Slot "set_iterator" "__next__" "set_iterator.__next__":=
 .of (owner:="set_iterator") (n:="__next__") (by rw[typeLookup_type,builtinLookup_eq_fast];kernel_rfl) (by decide +kernel) (by decide +kernel) (by decide +kernel)
  (by first | exact .inl (by decide +kernel) | exact .inr (by decide +kernel)) (by rw[wU];kernel_rfl)
theorem si:entryFor table "set_iterator.__next__"=some iW.«set_iterator.__next__»:=entryFor_of_tree (by kernel_rfl)
theorem uf (a:aB):xR "set_iterator.__next__" ⟨[a],[]⟩:=by
 unfold xR;rw[signature?_of (id:="set_iterator.__next__") (n:=['_','_','t','x','e','n','_','_']) (o:=['r','o','t','a','r','e','t','i','_','t','e','s']) (rows:=Manifest.sig_set_iterator) (by kernel_rfl) (by kernel_rfl)];kernel_rfl
theorem Ek:entryFor table "set.__iter__"=some iW.«frozenset.__iter__»:=
 entryFor_alias (id':="frozenset.__iter__") (by kernel_rfl) rfl (by decide +kernel) (by kernel_rfl)
def e8 (w:aW)(S:Addr)(ep:Nat)(es:Array (Int×aB)):List aB:=
 if w.params.followText "set-order" then (xX (w.params.setOrder S ep) es).toList.map (·.2)else es.toList.map (·.2)
theorem zu (w:aW)(S:Addr)(ep:Nat)(es:Array (Int×aB)):(e8 w S ep es).Perm (es.toList.map (·.2)):=by
 unfold e8
 split
 ·exact(Mq _ _).map _
 ·exact rL _
theorem ln (w:aW)(S:Addr)(ep:Nat)(es:Array (Int×aB)):(e8 w S ep es).length=es.size:=by
 rw[(zu w S ep es).length_eq];simp
def IsSetIter (w:aW)(h:Heap)(I S:Addr)(i:Nat)(n ep:Nat)(t:eK):Prop:=
 ∃(slot:Nat)(o:Obj),h.get? I=some o/\o.cls=.type "set_iterator"/\o.data=.fields #[.int slot 0,.int i 0,.ref S,.int n 0,.int ep 0]/\(w.params.followText "set-order"=false->below t.place slot=i)
section
variable {prog:aP}{w:aW}{A:cQ}{E:aB->aG->Prop}{s:aG}
theorem ug {α:Type}{M:sY}{c:Bool}{m m':Sem α}{Q:α->aG->Prop}(hc:c=false)(h:aM M A m' Q E s):aM M A (if c=true then m else m') Q E s:=by
 subst hc;exact h
theorem IsSetIter.typeIs {I S:Addr}{i n ep:Nat}{t:eK}(x:IsSetIter w s.heap I S i n ep t):s.TypeIs (.ref I) "set_iterator":=
 let ⟨_,o,ho,hc,_⟩:=x;⟨o,ho,hc⟩
structure lq (w:aW)(o:Obj)(es:Array (Int×aB))(ep:Nat)(t:eK):Prop where
 ex:o.ExactSet
 data:o.data=.set es ep t
 small:Kc t es.size
 n3:es.size<=3
 rise:Rise t
 led:w.params.followText "set-order"=false->t.led=true
end
end TupSet
namespace TupSet
open SetTable PyProof.Rows PySem.W
theorem uh:Slot "set_iterator" "__iter__" "set_iterator.__iter__":=
 .of (owner:="set_iterator") (n:="__iter__") (by rw[typeLookup_type,builtinLookup_eq_fast];kernel_rfl) (by decide +kernel) (by decide +kernel) (by decide +kernel)
  (by first | exact .inl (by decide +kernel) | exact .inr (by decide +kernel)) (by rw[wU];kernel_rfl)
theorem El (a:aB):xR "set_iterator.__iter__" ⟨[a],[]⟩:=by
 unfold xR;rw[signature?_of (id:="set_iterator.__iter__") (n:=['_','_','r','e','t','i','_','_']) (o:=['r','o','t','a','r','e','t','i','_','t','e','s']) (rows:=Manifest.sig_set_iterator) (by kernel_rfl) (by kernel_rfl)];kernel_rfl
theorem Cc:entryFor table "set_iterator.__iter__"=some iW.«dict_keyiterator.__iter__»:=
 entryFor_alias (id':="dict_keyiterator.__iter__") (by kernel_rfl) rfl (by decide +kernel) (by kernel_rfl)
section
variable {prog:aP}{w:aW}{A:cQ}{E:aB->aG->Prop}{s:aG}
theorem Pz {r:Addr}{Q:Bool->aG->Prop}(hT:s.TypeIs (.ref r) "set")(h:Q false s):aM (aX prog w) A (Builtin.List.listLengthHint (.ref r)) Q E s:=by
 unfold Builtin.List.listLengthHint;refine aA (lT hT PySem.F.slot_set_len.lookup ?_);generalize LA:("set.__len__":String)=id0
 wp_delta
 rw[show splitId id0=some ("set","__len__")from by subst LA;decide +kernel];subst LA;refine aA (lJ (T:="set") (b:=true) hT (by rw[wU];kernel_rfl) ?_);refine wpAny_ite_split (λBG=>absurd BG (by decide)) (λ_=>?_);refine wpAny_ite_split (λ_=>?_) (λBG=>absurd (by decide +kernel) BG);refine aA (tK hT ?_);exact wpAny_pure h
end
end TupSet
namespace TupSet
open SetTable PyProof.Rows PySem.W
def lexLt:List Int->List Int->Bool
 | [],[]=>false
 | [],_::_=>true
 |_::_,[]=>false
 |a::as,b::bs=>if a=b then lexLt as bs else decide (a < b)
theorem zw:∀x,lexLt x x=false
 | []=>rfl
 |a::as=>by simp[lexLt,zw as]
theorem uk:∀x y,lexLt x y=false->lexLt y x=false->x=y
 | [],[],_,_=>rfl
 | [],_::_,h,_=>nomatch h
 |_::_,[],_,h=>nomatch h
 |a::as,b::bs,h1,h2=>by
  by_cases e:a=b
  ·subst e;simp[lexLt]at h1 h2;rw[uk as bs h1 h2]
  ·have e':¬b=a:=λh=>e h.symm;simp[lexLt,e,e']at h1 h2;lia
theorem uq:∀x y z,lexLt x y=true->lexLt y z=true->lexLt x z=true
 | [],[],_,h,_=>nomatch h
 | [],_::_,[],_,h=>nomatch h
 | [],_::_,_::_,_,_=>rfl
 |_::_,[],_,h,_=>nomatch h
 |_::_,_::_,[],_,h=>nomatch h
 |a::as,b::bs,c::cs,h1,h2=>by
  by_cases e1:a=b
  ·subst e1;by_cases e2:a=c
   ·subst e2;simp[lexLt]at h1 h2 ⊢;exact uq as bs cs h1 h2
   ·simp[lexLt,e2]at h1 h2 ⊢;exact h2
  ·by_cases e2:b=c
   ·subst e2;simp[lexLt,e1]at h1 h2 ⊢;exact h1
   ·simp[lexLt,e1,e2]at h1 h2;have e3:¬a=c:=(by lia);simp[lexLt,e3];lia
theorem lex_asymm {x y:List Int}(h:lexLt x y=true):lexLt y x=false:=by
 cases h':lexLt y x with
 |false=>rfl
 |true=>have:=uq _ _ _ h h';rw[zw]at this;exact nomatch this
def lexLe (x y:List Int):Prop:=lexLt y x=false
theorem B1 {x y z:List Int}(h1:lexLe x y)(h2:lexLe y z):lexLe x z:=by
 unfold lexLe at *;cases h:lexLt z x with
 |false=>rfl
 |true=>
  by_cases e:x=y
  ·subst e;rw[h]at h2;exact h2
  ·have KA:lexLt x y=true:=by
    cases h3:lexLt x y with
    |true=>rfl
    |false=>exact absurd (uk _ _ h3 h1) e
   have:=uq _ _ _ h KA;rw[this]at h2;exact nomatch h2
theorem Em {x y:List Int}(h1:lexLe x y)(h2:lexLe y x):x=y:=uk _ _ h2 h1
def SortedT (l:List (List Int)):Prop:=l.Pairwise lexLe
theorem sr:∀{l l':List (List Int)},l.Perm l'->SortedT l->SortedT l'->l=l'
 | [],l',p,_,_=>by rw[List.Perm.nil_eq p]
 |a::l,[],p,_,_=>by have:=p.length_eq;simp at this
 |a::l,b::l',p,s,s'=>by
  have s1:=lN.mp s;have VX:=lN.mp s';have BG:a=b:=by
   have ha:a∈b::l':=p.mem_iff.mp cJ;have hb:b∈a::l:=p.mem_iff.mpr cJ;rcases aU.mp ha with e | ha
   ·exact e
   ·rcases aU.mp hb with e | hb
    ·exact e.symm
    ·exact Em (s1.1 b hb) (VX.1 a ha)
  subst BG;rw[sr (List.Perm.cons_inv p) s1.2 VX.2]
def A7 (x:List Int):List (List Int)->List (List Int)
 | []=>[x]
 |y::l=>if lexLt y x=true then y::A7 x l else x::y::l
def isort:List (List Int)->List (List Int)
 | []=>[]
 |x::l=>A7 x (isort l)
theorem uu (x:List Int):∀l,(A7 x l).Perm (x::l)
 | []=>rL _
 |y::l=>by
  unfold A7
  split
  ·exact((uu x l).cons y).trans (List.Perm.swap _ _ _)
  ·exact rL _
theorem isort_perm:∀l,(isort l).Perm l
 | []=>rL _
 |x::l=>(uu x _).trans ((isort_perm l).cons x)
theorem wg (x:List Int):∀l,SortedT l->SortedT (A7 x l)
 | [],_=>rP _ _
 |y::l,s=>by
  have s1:=lN.mp s;unfold A7
  split
  ·rename_i h
   refine lN.mpr ⟨λz hz=>?_,wg x l s1.2⟩;rcases aU.mp ((uu x l).mem_iff.mp hz)with e | hz
   ·subst e;exact lex_asymm h
   ·exact s1.1 z hz
  ·rename_i h
   have KA:lexLe x y:=(by unfold lexLe;simpa using h);refine lN.mpr ⟨λz hz=>?_,s⟩;rcases aU.mp hz with e | hz
   ·subst e;exact KA
   ·exact B1 KA (s1.1 z hz)
theorem jy:∀l,SortedT (isort l)
 | []=>oA
 |x::l=>wg x _ (jy l)
theorem isort_of {l l':List (List Int)}(p:l'.Perm l)(s:SortedT l'):l'=isort l:=sr (p.trans (isort_perm l).symm) s (jy l)
def cj {α:Type}(lt:Nat->Nat->Bool):KasT α->α
 | .ret a=>a
 | .ask i j k=>cj lt (k (lt i j))
def ko {α:Type}(n:Nat):KasT α->Bool
 | .ret _=>true
 | .ask i j k=>decide (i < n) && decide (j < n) && ko n (k true) && ko n (k false)
theorem Mr {α:Type}{n i j:Nat}{k:Bool->KasT α}(h:ko n (.ask i j k)=true):i < n/\j < n/\∀b,ko n (k b)=true:=by
 simp only[ko,hZ,decide_eq_true_eq]at h;exact⟨h.1.1.1,h.1.1.2,λb=>by cases b;exact h.2;exact h.1.2⟩
theorem Gu {α:Type}{n:Nat}{lt:Nat->Nat->Bool}{VY:Nat->Nat->(Bool->aG->Prop)->aG->Prop}{s:aG}(hc:∀i j C,i < n->j < n->C (lt i j) s->VY i j C s){Q:α->aG->Prop}:∀(t:KasT α),ko n t=true->Q (cj lt t) s->t.kasWp VY Q s
 | .ret a,_,h=>h
 | .ask i j k,ha,h=>by
  have a:=Mr ha;exact hc i j _ a.1 a.2.1 (Gu hc (k (lt i j)) (a.2.2 _) h)
def ltX (xs:List (List Int))(i j:Nat):Bool:=lexLt (xs.getD i []) (xs.getD j [])
end TupSet
namespace TupSet
open SetTable PyProof.Rows PySem.W
def KeysL (prog:aP)(w:aW)(h:Heap):List aB->List (List Int)->Prop
 | [],[]=>True
 |v::vs,x::xs=>(∃a,v=.ref a/\eQ (eF prog w) h x a)/\KeysL prog w h vs xs
 |_,_=>False
section
variable {prog:aP}{w:aW}
theorem KeysL.length {h:Heap}:∀{vs:List aB}{xs:List (List Int)},KeysL prog w h vs xs->vs.length=xs.length
 | [],[],_=>rfl
 | [],_::_,h=>h.elim
 |_::_,[],h=>h.elim
 |_::_,_::_,h=>by simp[KeysL.length h.2]
theorem KeysL.at {h:Heap}:∀{vs:List aB}{xs:List (List Int)}(_:KeysL prog w h vs xs) {i:Nat},i < xs.length->∃a,vs.getD i .none=.ref a/\eQ (eF prog w) h (xs.getD i []) a
 | [],[],_,i,hi=>by simp at hi
 | [],_::_,h,_,_=>h.elim
 |_::_,[],h,_,_=>h.elim
 |v::vs,x::xs,h,0,_=>by simpa using h.1
 |v::vs,x::xs,h,i+1,hi=>by simpa using KeysL.at h.2 (i:=i) (by simpa using hi)
theorem KeysL.imp {h h':Heap}(k:∀x a,eQ (eF prog w) h x a->eQ (eF prog w) h' x a):∀{vs:List aB}{xs:List (List Int)}(_:KeysL prog w h vs xs),KeysL prog w h' vs xs
 | [],[],_=>trivial
 | [],_::_,h=>h.elim
 |_::_,[],h=>h.elim
 |v::vs,x::xs,h=>⟨h.1.elim λa ha=>⟨a,ha.1,k _ _ ha.2⟩,KeysL.imp k h.2⟩
theorem KeysL.pick {h:Heap}{vs:List aB}{xs:List (List Int)}(k:KeysL prog w h vs xs):∀(p:List Nat),(∀i∈p,i < xs.length)->KeysL prog w h (p.map λi=>vs.getD i .none) (p.map λi=>xs.getD i [])
 | [],_=>trivial
 |i::p,hp=>⟨k.at (hp i cJ),KeysL.pick k p λj hj=>hp j (cC _ hj)⟩
theorem KeysL.perm {h:Heap}{vs VZ:List aB}(p:VZ.Perm vs):∀{xs:List (List Int)},KeysL prog w h vs xs->∃ys,ys.Perm xs/\KeysL prog w h VZ ys:=by
 induction p with
 |nil=>intro xs k;exact⟨xs,rL _,k⟩
 |cons v p ih=>
  intro xs k
  match xs,k with
  | [],k=>exact k.elim
  |x::xs,k=>
   obtain⟨ys,hy,k'⟩:=ih k.2;exact⟨x::ys,hy.cons x,k.1,k'⟩
 |swap u v l=>
  intro xs k
  match xs,k with
  | [],k=>exact k.elim
  | [x],k=>exact k.2.elim
  |x::y::xs,k=>exact⟨y::x::xs,List.Perm.swap _ _ _,k.2.1,k.1,k.2.2⟩
 |trans p q HD HE=>
  intro xs k;obtain⟨ys,hy,k1⟩:=HE k;obtain⟨zs,hz,k2⟩:=HD k1;exact⟨zs,hz.trans hy,k2⟩
theorem EntsOf.keys {h:Heap}:∀{es:List (Int×aB)}{xs:List (List Int)},EntsOf prog w h es xs->KeysL prog w h (es.map (·.2)) xs
 | [],[],_=>trivial
 | [],_::_,h=>h.elim
 |_::_,[],h=>h.elim
 |_::_,_::_,h=>⟨h.1.2,EntsOf.keys h.2⟩
theorem KeysL.firsts {h:Heap}:∀{vs:List aB}{xs:List (List Int)},KeysL prog w h vs xs->(∀x∈xs,x≠[])->∃fs,KatTups h vs fs/\fs.length=vs.length/\∀v∈fs,∃k t,v=nI k t
 | [],[],_,_=>⟨[],trivial,rfl,by simp⟩
 | [],_::_,h,_=>h.elim
 |_::_,[],h,_=>h.elim
 |v::vs,x::xs,k,zO=>by
  obtain⟨⟨a,rfl,o,items,n,ho,hc,hd,hi⟩,kr⟩:=k;obtain⟨fs,h1,h2,h3⟩:=KeysL.firsts kr λy hy=>zO y (cC _ hy);have hx:=zO x cJ;obtain⟨l⟩:=items;dsimp only at hi
  match x,l,hi,hx with
  | [],_,_,hx=>exact absurd rfl hx
  |k0::ks,f::r,hi,_=>
   refine⟨f::fs,KatTups.cons ho hc hd rfl h1,by simp[h2],λv hv=>?_⟩;rcases aU.mp hv with rfl | hv
   ·exact items_int hi v cJ
   ·exact h3 v hv
variable {A:cQ}{E:aB->aG->Prop}{s:aG}
theorem Ms {b:Bool}{Q:Bool->aG->Prop}:∀{x y:List Int}{vs us:List aB}(_:ItemsAre (eF prog w) x vs) (_:ItemsAre (eF prog w) y us) (zL:Bool) (i:Nat),zL=decide (vs.length < us.length)->Q (lexLt x y) s->
  KatLex prog w A b zL Q (vs.zip us) i s
 | [],[],_,_,.nil,.nil,zL,i,hf,h=>by
  rw[hf];exact kat_nil h
 | [],_::_,_,_,.nil,.cons _ _,zL,i,hf,h=>by
  rw[hf];exact kat_nil (by simpa[lexLt]using h)
 |_::_,[],_,_,.cons _ _,.nil,zL,i,hf,h=>by
  rw[hf];exact kat_nil (by simpa[lexLt]using h)
 |p::x,q::y,v::vs,u::us,.cons h1 hx,.cons h2 hy,zL,i,hf,h=>by
  refine kat_cons ((eF prog w).eqBool h1 h2 ?_);by_cases e:p=q
  ·rw[decide_eq_true e];refine kat_yes (Ms hx hy zL (i+1) (by rw[hf];simp) ?_);simpa[lexLt,e]using h
  ·rw[decide_eq_false e];refine kat_no ?_;obtain⟨t1,rfl⟩:=xp h1;obtain⟨t2,rfl⟩:=xp h2;have h':Q (decide (p < q)) s:=(by simpa[lexLt,e]using h);cases(b && i == 0)with
   |true=>exact oneLt_int h'
   |false=>exact kat_one _ _ (P.lt_int (by exact h'))
theorem V2 {b:Bool}{x y:List Int}{a c:Addr}{Q:Bool->aG->Prop}(hx:eQ (eF prog w) s.heap x a)(hy:eQ (eF prog w) s.heap y c)(h:Q (lexLt x y) s) :
  aM (aX prog w) A (keyLt' (tuples' b) (.ref a) (.ref c)) Q E s:=by
 obtain⟨o,items,n,ho,_,hd,hi⟩:=hx;obtain⟨o',items',n',CY,_,BH,DZ⟩:=hy;exact kat_lt ho hd CY BH (Ms hi DZ _ 0 (by simp) h)
theorem Ke {h h':Heap}{ks:List Int}{a d:Addr}{vs:Array aB}{n:Nat}(x:eQ (eF prog w) h ks a)(ho:h.get? d=some (iN "list" vs n))(hs:∀b o,b≠d->h.get? b=some o->h'.get? b=some o) :
  eQ (eF prog w) h' ks a:=by
 obtain⟨o',items,m,CY,hc,BH,hi⟩:=x;have zO:a≠d:=by
  intro zE;subst zE;obtain rfl:o'=iN "list" vs n:=eA (CY.symm.trans ho);simp[iN]at hc
 exact⟨o',items,m,hs a _ zO CY,hc,BH,hi⟩
end
end TupSet
namespace TupSet
open SetTable PyProof.Rows PySem.W
section
variable {prog:aP}{w:aW}{A:cQ}{E:aB->aG->Prop}{s:aG}
end
end TupSet
namespace TupSet
open SetTable PyProof.Rows PySem.W
section
variable {prog:aP}{w:aW}
variable {A:cQ}{E:aB->aG->Prop}{s:aG}
end
end TupSet
end PySem
namespace L2
open PySem PySem.Spec PyProof.Rows PySem.TupSet
section
variable {P:aP}{w:aW}{H H':Hp}{h h':Heap}{a:Addr}{o:HO}{fs ex:List Addr}
theorem ObjOk.has (x:ObjOk P w H h a o):∃ob,h.get? a=some ob:=by
 cases o with
 |lst xs=>obtain⟨_,_,_,_,e⟩:=x;exact⟨_,e⟩
 |tup xs=>obtain⟨_,_,_,ob,e,_⟩:=x;exact⟨_,e⟩
 |dK kvs=>obtain⟨_,_,_,_,o,_,_,e,_⟩:=x;exact⟨_,e⟩
 |dT kvs=>obtain⟨_,_,_,_,o,_,_,e,_⟩:=x;exact⟨_,e⟩
 |set S n=>obtain⟨o,_,_,_,e,_⟩:=x;exact⟨_,e⟩
 |ins C dx fs=>obtain⟨_,_,_,e,_⟩:=x;exact⟨_,e⟩
 |own y=>obtain⟨_,e⟩:=x;exact⟨_,e⟩
 |xd fs=>obtain⟨_,⟨_,_,_,e,_⟩,_⟩:=x;exact⟨_,e⟩
 |rng lo hi=>obtain⟨_,_,_,e⟩:=x;exact⟨_,e⟩
 |frz ob u=>obtain⟨e,_⟩:=x;exact⟨_,e⟩
 |tbl ps=>exact⟨_,show h.get? a=some _ from x⟩
 |met f y=>exact⟨_,show h.get? a=some _ from x⟩
 |ext φ=>obtain⟨_,⟨_,e⟩,_⟩:=x;exact⟨_,e⟩
theorem HOk.none_at (x:HOk P w H h)(e:h.get? a=none):H a=none:=by
 cases q:H a with
 |none=>rfl
 |some u=>
  obtain⟨ob,z⟩:=(x a u q).has;rw[e]at z;cases z
theorem HOk.laidN (x:HOk P w H h)(k:∀b u,h.get? b=some u->h'.get? b=some u)(hp:h.get? a=none)(new:ObjOk P w (upd H a o) h' a o):HOk P w (upd H a o) h':=λb u e=>by
 have hn:=x.none_at hp;by_cases hb:b=a
 ·subst hb;rw[ac]at e;cases e;exact new
 ·rw[ai hb]at e;exact(x b u e).stay (λc v _ q=>k c v q) (λc q=>by rw[ai (am q hn)];exact q) λc xs q=>by rw[ai (am q hn)];exact q
theorem Un.laidN (k:∀b u,h.get? b=some u->h'.get? b=some u)(hp:h.get? a=none)(hn:H a=none):Un fs ex H (upd H a o) h h' where
 keep:=λb u q _ _ _=>k b u q
 slot:=λb u q _ _ _=>⟨u.slots,k b u q⟩
 free:=λb u q n _=>by rw[ai (λz=>by rw[z,hp]at q;cases q)];exact n
 there:=λb u q _=>⟨u,k b u q⟩
 tups:=λb xs q=>by rw[ai (am q hn)];exact q
 frzs:=λb u xs q=>by rw[ai (am q hn)];exact q
 tbls:=λb ps q=>⟨#[],by rw[ai (am q hn),q];simp⟩
end
theorem Inv.laidN {X:Cx}{f':List (Addr×Obj)}{σ:List (Option V)}{H:Hp}{s:aG}{h':Heap}{a:Addr}{o:HO}{t':Nat}(I:Inv X f' σ H s)(k:∀b u,s.heap.get? b=some u->h'.get? b=some u)(hp:s.heap.get? a=none)(new:ObjOk X.prog X.w (upd H a o) h' a o) :
  Inv X f' σ (upd H a o) { s with heap:=h',toks:=t' }:=I.un (Un.laidN k hp (I.hok.none_at hp)) (I.hok.laidN k hp new)
def TupsV (K:aC)(H:Hp)(ys:List V)(L:List (List Int)):Prop:=Paired (λy x=>∃a,y=.ref a/\SqT K H a (x.map V.int)) ys L
theorem En {prog:aP}{w:aW}:∀{x:List Int}{its:List aB},Vals (x.map V.int) its->PySem.ItemsAre (eF prog w) x its
 | [],_,.nil=>.nil
 |k::x,_,.cons r t=>by
  obtain⟨tk,rfl⟩:=r;exact .cons (by show jL k (.int k tk)=true;simp[jL]) (En t)
section
variable {X:Cx}{f':List (Addr×Obj)}{σ:St}{H:Hp}{s:aG}
theorem Inv.tkey (I:Inv X f' σ H s){a:Addr}{x:List Int}(h:SqT X.K H a (x.map V.int)):eQ (eF X.prog X.w) s.heap x a:=by
 obtain⟨its,r,⟨o,ho,hc,n,hd⟩,_⟩:=I.tuple h;exact⟨o,its.toArray,n,ho,hc,hd,by simpa using En r⟩
open Classical in
noncomputable def ny (K:aC)(H:Hp)(h:Heap):Heap:=PySem.W.hideAll h ((eE h.objs.size).filter λa=>!decide (∃x:List Int,SqT K H a (x.map V.int)))
theorem A8 {K:aC}{h:Heap}{b:Addr}{o:Obj}(e:(ny K H h).get? b=some o):h.get? b=some o/\∃x:List Int,SqT K H b (x.map V.int):=by
 have e':=PySem.W.of_hideAll _ e;refine⟨e',qQ λn=>?_⟩;have hm:b∈(eE h.objs.size).filter λa=>!@decide (∃x:List Int,SqT K H a (x.map V.int)) (Classical.propDecidable _):=List.mem_filter.mpr ⟨iI.mpr (aZ e'),by simp[n]⟩;have z:(ny K H h).get? b=none:=PySem.W.hideAll_none _ hm;rw[z]at e;cases e
theorem P0 {K:aC}{h:Heap}{b:Addr}{o:Obj}{x:List Int}(e:h.get? b=some o)(k:SqT K H b (x.map V.int)):(ny K H h).get? b=some o:=by
 refine PySem.W.hideAll_get _ e λhm=>?_;have q:=(lA.mp hm).2;have:∃x:List Int,SqT K H b (x.map V.int):=⟨x,k⟩;simp[this]at q
theorem Inv.tupK (I:Inv X f' σ H s){a:Addr}{x:List Int}(h:SqT X.K H a (x.map V.int)):eQ (eF X.prog X.w) (ny X.K H s.heap) x a:=by
 obtain⟨o,its,n,ho,r⟩:=I.tkey h;exact⟨o,its,n,P0 ho h,r⟩
theorem Inv.ofTupK (I:Inv X f' σ H s){a:Addr}{x:List Int}(h:eQ (eF X.prog X.w) (ny X.K H s.heap) x a):SqT X.K H a (x.map V.int):=by
 obtain⟨o,its,n,ho,r⟩:=h;obtain⟨CY,y,hy⟩:=A8 ho;have e:x=y:=IsTupleKey.inj (knd:=eF X.prog X.w) ⟨o,its,n,CY,r⟩ (I.tkey hy);subst e;exact hy
theorem Inv.ofKeysL (I:Inv X f' σ H s):∀{vs:List aB}{xs:List (List Int)},KeysL X.prog X.w (ny X.K H s.heap) vs xs->∃ys,Vals ys vs/\TupsV X.K H ys xs
 | [],[],_=>⟨[],.nil,.nil⟩
 | [],_::_,h=>h.elim
 |_::_,[],h=>h.elim
 |v::vs,x::xs,h=>by
  obtain⟨⟨a,rfl,k⟩,hr⟩:=h;obtain⟨ys,h1,h2⟩:=I.ofKeysL hr;exact⟨.ref a::ys,.cons rfl h1,.cons ⟨a,rfl,I.ofTupK k⟩ h2⟩
theorem TupsV.get {K:aC}:∀{ys:List V}{L:List (List Int)}{its:List aB},TupsV K H ys L->Vals ys its->∀(i:Nat)(v:aB),its[i]?=some v->∃a x,v=.ref a/\L[i]?=some x/\SqT K H a (x.map V.int)
 |_,_,_,.nil,.nil,i,v,e=>by simp at e
 |_,_,_,.cons (b:=x) p q,.cons r t,0,v,e=>by
  obtain⟨a,rfl,k⟩:=p;cases r;simp at e;exact⟨a,x,e.symm,rfl,k⟩
 |_,_,_,.cons p q,.cons r t,i+1,v,e=>by
  obtain⟨a,x,h1,h2,h3⟩:=TupsV.get q t i v (by simpa using e);exact⟨a,x,h1,by simpa using h2,h3⟩
end
section
variable {X:Cx}{e:Expr}{te:TE}{x y:Str}{p p2 pos CU:Pos}
end
end L2
namespace PySem
namespace TupSet
open SetTable
def h8 (m:Nat)(p:Probe):Probe:=
 if p.more > 0 then { p with j:=p.j+1,more:=p.more - 1 }else
 { p with j:=(leap m p.i p.perturb).1,more:=runEnd m (leap m p.i p.perturb).1 - (leap m p.i p.perturb).1,i:=(leap m p.i p.perturb).1,perturb:=(leap m p.i p.perturb).2 }
theorem Mt (t:eK)(p:Probe):t.advance p=h8 t.mask p:=rfl
def md (m:Nat)(h:Int):Probe:={ j:=bits h % (m+1),more:=runEnd m (bits h % (m+1)) - bits h % (m+1),i:=bits h % (m+1),perturb:=bits h,dummy:=none }
theorem Mu (m:Nat)(p:Probe):(h8 m p).dummy=p.dummy:=by unfold h8;split<;>rfl
def ComesM (m j₀:Nat):Nat->Probe->Prop
 |0,p=>p.j=j₀
 |k+1,p=>p.j=j₀\/ComesM m j₀ k (h8 m p)
theorem ComesM.mono {m j₀:Nat}:∀{k n:Nat}{p:Probe},ComesM m j₀ k p->k<=n->ComesM m j₀ n p
 |0,0,_,h,_=>h
 |0,n+1,_,h,_=>.inl h
 |k+1,0,_,_,h=>absurd h (by lia)
 |k+1,n+1,_,.inl h,_=>.inl h
 |k+1,n+1,_,.inr h,hm=>.inr (ComesM.mono h (by lia))
def d8 (m j:Nat):Nat->Nat->Bool
 |0,i=>i == j
 |l+1,i=>i == j || d8 m j l ((i * 5+1) % (m+1))
def it (m:Nat):Nat->Nat->Nat
 |0,i=>i
 |k+1,i=>it m k ((i * 5+1) % (m+1))
theorem zx (m:Nat):∀(a b i:Nat),it m (a+b) i=it m b (it m a i)
 |0,b,i=>by rw[vZ];rfl
 |a+1,b,i=>by rw[show a+1+b=(a+b)+1 by lia];exact zx m a b _
theorem o0 {m j:Nat}:∀{k l i:Nat},it m k i=j->k<=l->d8 m j l i=true
 |0,0,i,h,_=>by have:i=j:=h;simp[d8,this]
 |0,l+1,i,h,_=>by have:i=j:=h;simp[d8,this]
 |k+1,0,i,_,h=>absurd h (by lia)
 |k+1,l+1,i,h,hl=>by unfold d8;rw[o0 (k:=k) h (by lia),nK]
theorem wj {m j:Nat}:∀{l i:Nat},d8 m j l i=true->∃k,k<=l/\it m k i=j
 |0,i,h=>⟨0,aN _,by show i=j;simpa[d8]using h⟩
 |l+1,i,h=>by
  unfold d8 at h;rw[tU]at h;rcases h with h | h
  ·exact⟨0,eV _,by show i=j;simpa using h⟩
  ·obtain⟨k,hk,e⟩:=wj h;exact⟨k+1,by lia,e⟩
def Eo (m:Nat):Bool:=(eE (m+1)).all (λj=>d8 m j m 0) && it m (m+1) 0 == 0
theorem orb7:Eo 7=true:=by decide +kernel
theorem Xh:Eo 31=true:=by decide +kernel
theorem V3:Eo 127=true:=by decide +kernel
def M3 (m:Nat):Prop:=m=7\/m=31\/m=127
theorem Tn {m:Nat}(hm:M3 m):(∀j,j<=m->∃k,k<=m/\it m k 0=j)/\it m (m+1) 0=0:=by
 have h:Eo m=true:=by
  rcases hm with rfl | rfl | rfl
  ·exact orb7
  ·exact Xh
  ·exact V3
 unfold Eo at h;rw[hZ]at h;exact⟨λj hj=>wj (oK.mp h.1 j (iI.mpr (by lia))),by simpa using h.2⟩
theorem B2 {m:Nat}(hm:M3 m){i j:Nat}(hi:i<=m)(hj:j<=m):d8 m j m i=true:=by
 obtain⟨o,per⟩:=Tn hm;obtain⟨a,ha,ea⟩:=o i hi;obtain⟨b,hb,eb⟩:=o j hj;by_cases h:a<=b
 ·refine o0 (k:=b - a) ?_ (by lia);rw[<-ea,<-zx,show a+(b - a)=b by lia];exact eb
 ·refine o0 (k:=b+(m+1) - a) ?_ (by lia);rw[<-ea,<-zx,show a+(b+(m+1) - a)=(m+1)+b by lia,zx,per];exact eb
def Head (m:Nat)(p:Probe):Prop:=p.j=p.i/\p.i<=m/\p.more=runEnd m p.i - p.i
theorem Head.start (m:Nat)(h:Int):Head m (md m h):=⟨rfl,by show bits h % (m+1)<=m;have:=pB (bits h) (show 0 < m+1 by lia);lia,rfl⟩
def oj (m:Nat)(p:Probe):Probe:={ p with j:=(leap m p.i p.perturb).1,more:=runEnd m (leap m p.i p.perturb).1 - (leap m p.i p.perturb).1,i:=(leap m p.i p.perturb).1,perturb:=(leap m p.i p.perturb).2 }
theorem Head.next {m:Nat}(p:Probe):Head m (oj m p):=⟨rfl,by show(leap m p.i p.perturb).1<=m;unfold leap;have:=pB (p.i * 5+1+p.perturb / 32) (show 0 < m+1 by lia);dsimp only;lia,rfl⟩
theorem xq {m j₀:Nat}:∀(c:Nat)(p:Probe),p.more=c->∀k,ComesM m j₀ k (oj m p)->ComesM m j₀ (k+(c+1)) p
 |0,p,hc,k,h=>by
  refine .inr ?_;have e:h8 m p=oj m p:=(by unfold h8;rw[if_neg (by lia)];rfl);rw[e];exact h
 |c+1,p,hc,k,h=>by
  have e:h8 m p={ p with j:=p.j+1,more:=p.more - 1 }:=(by unfold h8;rw[if_pos (by lia)]);refine .inr ?_;rw[e];exact xq c { p with j:=p.j+1,more:=p.more - 1 } (by show p.more - 1=c;lia) k h
theorem uw (m i:Nat):runEnd m i - i<=9:=by unfold runEnd;split<;>lia
theorem wk {m j₀:Nat}:∀(l:Nat)(p:Probe),Head m p->p.perturb=0->d8 m j₀ l p.i=true->ComesM m j₀ (10 * l) p
 |0,p,H,h0,h=>by
  show p.j=j₀;rw[H.1];simpa[d8]using h
 |l+1,p,H,h0,h=>by
  by_cases e:p.i=j₀
  ·exact ComesM.mono (show ComesM m j₀ 0 p from H.1.trans e) (by lia)
  ·have h':d8 m j₀ l ((p.i * 5+1) % (m+1))=true:=by
    unfold d8 at h;rw[tU]at h;rcases h with h | h
    ·exact absurd (by simpa using h) e
    ·exact h
   have e1:(leap m p.i p.perturb)=((p.i * 5+1) % (m+1),0):=(by unfold leap;rw[h0]);have x:=wk l (oj m p) (Head.next p) (by show(leap m p.i p.perturb).2=0;rw[e1]) (by show d8 m j₀ l (leap m p.i p.perturb).1=true;rw[e1];exact h')
   exact ComesM.mono (xq p.more p rfl _ x) (by rw[H.2.2];have:=uw m p.i;lia)
theorem zy {m j₀:Nat}(hm:M3 m)(hj:j₀<=m):∀(k:Nat)(p:Probe),Head m p->p.perturb < 32 ^ k->ComesM m j₀ (10 * (k+m)) p
 |0,p,H,hp=>by
  have:p.perturb=0:=(by simpa using hp);rw[vZ];exact wk m p H this (B2 hm H.2.1 hj)
 |k+1,p,H,hp=>by
  have LX:(oj m p).perturb < 32 ^ k:=by
   show p.perturb / 32 < 32 ^ k;rw[qZ]at hp;exact Nat.div_lt_of_lt_mul (by rw[qU];exact hp)
  have x:=zy hm hj k (oj m p) (Head.next p) LX
  exact ComesM.mono (xq p.more p rfl _ x) (by rw[H.2.2];have:=uw m p.i;lia)
theorem Gv (h:Int):bits h < 2 ^ 64:=by
 unfold bits;have h1:h % (2 ^ 64:Int) < 2 ^ 64:=Int.emod_lt_of_pos _ (by decide);have h2:0<=h % (2 ^ 64:Int):=Int.emod_nonneg _ (by decide);lia
theorem Ep {m j₀:Nat}(hm:M3 m)(hj:j₀<=m)(h:Int):ComesM m j₀ (10 * (13+m)) (md m h):=
 zy hm hj 13 _ (Head.start m h) (eG (Gv h) (by decide))
def Thru (m:Nat)(ne:Nat->Prop)(j:Nat):Nat->Probe->Prop
 |0,p=>p.j=j
 |k+1,p=>p.j=j\/(ne p.j/\Thru m ne j k (h8 m p))
theorem Thru.mono {m j:Nat}{ne V':Nat->Prop}(hn:∀i,ne i->V' i):∀{k n:Nat}{p:Probe},Thru m ne j k p->k<=n->Thru m V' j n p
 |0,0,_,h,_=>h
 |0,n+1,_,h,_=>.inl h
 |k+1,0,_,_,h=>absurd h (by lia)
 |k+1,n+1,_,.inl h,_=>.inl h
 |k+1,n+1,_,.inr h,hm=>.inr ⟨hn _ h.1,Thru.mono hn h.2 (by lia)⟩
end TupSet
namespace TupSet
open SetTable
def RiseA (xs:Array Nat):Prop:=xs.toList.Pairwise (· < ·)
theorem RiseA.lt {xs:Array Nat}(h:RiseA xs){a b v u:Nat}(ha:xs[a]?=some v)(hb:xs[b]?=some u)(BG:a < b):v < u:=by
 rw[<-dZ]at ha hb;obtain⟨h1,rfl⟩:=aL.mp ha;obtain⟨h2,rfl⟩:=aL.mp hb;exact List.pairwise_iff_getElem.mp h a b h1 h2 BG
theorem xr {xs:Array Nat}(hr:RiseA xs)(j:Nat):∀(f lo hi:Nat),hi - lo<=f->lo<=hi->hi<=xs.size->(∀(a v:Nat),xs[a]?=some v->(a < lo->v < j)/\(hi<=a->j<=v))->
  ∀(a v:Nat),xs[a]?=some v->(a < below.go xs j f lo hi->v < j)/\(below.go xs j f lo hi<=a->j<=v)
 |0,lo,hi,hf,h1,h2,h,a,v,e=>by
  have:hi=lo:=(by lia);subst this;exact h a v e
 |f+1,lo,hi,hf,h1,h2,h,a,v,e=>by
  unfold below.go;by_cases zR:lo < hi
  ·rw[if_pos zR];dsimp only;have hm:(lo+hi) / 2 < xs.size:=(by lia);have em:xs[(lo+hi) / 2]?=some xs[(lo+hi) / 2]:=dX hm;have eg:xs.getD ((lo+hi) / 2) j=xs[(lo+hi) / 2]:=(by rw[eP,em];rfl);rw[eg];by_cases hv:xs[(lo+hi) / 2] < j
   ·rw[if_pos hv];refine xr hr j f _ _ (by lia) (by lia) h2 (λa v e=>⟨λha=>?_,(h a v e).2⟩) a v e;by_cases c:a=(lo+hi) / 2
    ·subst c;rw[em]at e;cases e;exact hv
    ·exact jK (hr.lt e em (by lia)) hv
   ·rw[if_neg hv];refine xr hr j f _ _ (by lia) (by lia) (by lia) (λa v e=>⟨(h a v e).1,λha=>?_⟩) a v e;by_cases c:a=(lo+hi) / 2
    ·subst c;rw[em]at e;cases e;lia
    ·have:=hr.lt em e (by lia);lia
  ·rw[if_neg zR];exact⟨(h a v e).1,λha=>(h a v e).2 (by lia)⟩
theorem ic {xs:Array Nat}(hr:RiseA xs)(j:Nat){a v:Nat}(e:xs[a]?=some v):(a < below xs j->v < j)/\(below xs j<=a->j<=v):=by
 refine xr hr j xs.size 0 xs.size (by lia) (eV _) (aN _) (λa v e=>⟨λh=>absurd h (nR _),λh=>?_⟩) a v e;obtain⟨h1,_⟩:=iA.mp e;lia
theorem xv {xs:Array Nat}(hr:RiseA xs){i j:Nat}(e:xs[i]?=some j):below xs j=i:=by
 have h1:=(ic hr j e).1;by_cases c:below xs j=i
 ·exact c
 ·have zR:below xs j < i:=by
   by_cases h:i < below xs j
   ·exact absurd (h1 h) (jH _)
   ·lia
  obtain⟨h2,_⟩:=iA.mp e;have eb:xs[below xs j]?=some xs[below xs j]:=dX (by lia);have h3:=hr.lt eb e zR;have h4:=(ic hr j eb).2 (aN _);lia
structure Tb (t:eK)(n:Nat):Prop where
 mask:M3 t.mask
 dum:t.dummies=#[]
 size:t.place.size=n
 plain:t.plain=true
 rise:RiseA t.place
 inb:∀j∈t.place.toList,j<=t.mask
theorem Tb.fill {t:eK}{n:Nat}(S:Tb t n):t.fill=n:=by unfold SetTable.fill;rw[S.dum,S.size];rfl
theorem Tb.fresh (led:Bool):Tb (SetTable.fresh 0 0 led) 0:=⟨.inl rfl,rfl,rfl,rfl,.nil,λj hj=>nomatch hj⟩
theorem Tb.slot {t:eK}{n:Nat}(S:Tb t n)(j:Nat):(∃i,t.place[i]?=some j/\t.slot j=.live i)\/((∀i:Nat,t.place[i]?≠some j)/\t.slot j=.empty):=by
 unfold SetTable.slot;dsimp only;by_cases h:t.place[below t.place j]?=some j
 ·exact .inl ⟨below t.place j,h,by rw[if_pos (by simpa using h)]⟩
 ·refine .inr ⟨λi e=>h (by rw[xv S.rise e];exact e),?_⟩;rw[if_neg (by simpa using h),if_neg (by rw[S.dum];simp[has])]
theorem Tb.live {t:eK}{n i j:Nat}(S:Tb t n)(h:t.slot j=.live i):t.place[i]?=some j/\i < n:=by
 rcases S.slot j with⟨i',e,e'⟩ | ⟨_,e'⟩
 ·rw[e']at h;cases h;exact⟨e,by rw[<-S.size];exact(iA.mp e).1⟩
 ·rw[e']at h;cases h
theorem Tb.liveOf {t:eK}{n i j:Nat}(S:Tb t n)(h:t.place[i]?=some j):t.slot j=.live i:=by
 rcases S.slot j with⟨i',e,e'⟩ | ⟨h',_⟩
 ·have:i'=i:=(by rw[<-xv S.rise e,xv S.rise h]);rw[e',this]
 ·exact absurd h (h' i)
theorem Tb.noDummy {t:eK}{n j:Nat}(S:Tb t n)(h:t.slot j=.dummy):False:=by
 rcases S.slot j with⟨i',e,e'⟩ | ⟨_,e'⟩<;>(rw[e']at h;cases h)
theorem Mv:∀(m:Nat)(l:List Nat),(∀j,j < m->j∈l)->m<=l.length
 |0,l,_=>eV _
 |m+1,l,h=>by
  have hm:=h m (by lia);have:=Mv m (l.erase m) (λj hj=>(List.mem_erase_of_ne (by lia)).mpr (h j (by lia)));rw[List.length_erase_of_mem hm]at this;have:=List.length_pos_of_mem hm;lia
theorem Tb.free {t:eK}{n:Nat}(S:Tb t n)(hn:n<=t.mask):∃j,j<=t.mask/\t.slot j=.empty:=by
 refine qQ λhc=>?_;have:=Mv (t.mask+1) t.place.toList (λj hj=>?_)
 ·rw[gA,S.size]at this;lia
 ·rcases S.slot j with⟨i,e,_⟩ | ⟨_,e⟩
  ·rw[<-dZ]at e;exact bK e
  ·exact absurd ⟨j,by lia,e⟩ hc
def Ne (t:eK)(j:Nat):Prop:=t.slot j≠.empty
theorem goM {t:eK}{n:Nat}(S:Tb t n){hs:Nat->Int}{h:Int}{j₀:Nat}(he:t.slot j₀=.empty):∀(k f:Nat)(p:Probe),ComesM t.mask j₀ k p->p.dummy=none->k < f->
  (∃j,probe.go t hs h f p=some (.empty j none)/\t.slot j=.empty/\Thru t.mask (Ne t) j k p)\/
  (∃j i next c,probe.go t hs h f p=some (.candidate j i next)/\t.slot j=.live i/\hs i=h/\next.dummy=none/\0 < c/\c<=k/\ComesM t.mask j₀ (k - c) next/\∀j' m,Thru t.mask (Ne t) j' m next->Thru t.mask (Ne t) j' (m+c) p)
 |k,0,_,_,_,h=>absurd h (by lia)
 |k,f+1,p,hc,hd,hf=>by
  unfold probe.go
  match BO:t.slot p.j with
  | .empty=>exact .inl ⟨p.j,by rw[hd],BO,Thru.mono (λ_ z=>z) (show Thru t.mask (Ne t) p.j 0 p from rfl) (eV _)⟩
  | .dummy=>exact(S.noDummy BO).elim
  | .live i=>
   have zO:p.j≠j₀:=(by rintro e;rw[e,he]at BO;exact nomatch BO);have hn:Ne t p.j:=by unfold Ne;rw[BO];exact λz=>nomatch z
   match k,hc with
   |0,hc=>exact absurd hc zO
   |k+1,hc=>
    have KN:ComesM t.mask j₀ k (h8 t.mask p):=hc.resolve_left zO;have BH:(h8 t.mask p).dummy=none:=(by rw[Mu];exact hd);dsimp only;rw[Mt];by_cases hh:(hs i == h)=true
    ·rw[if_pos hh];exact .inr ⟨p.j,i,_,1,rfl,BO,by simpa using hh,BH,by lia,by lia,by simpa using KN,λj' m z=>.inr ⟨hn,z⟩⟩
    ·rw[if_neg hh];rcases goM S he k f _ KN BH (by lia)with⟨j,e,e1,e2⟩ | ⟨j,i',nx,c,e,e1,e2,e3,c0,ck,e4,e5⟩
     ·exact .inl ⟨j,e,e1,.inr ⟨hn,e2⟩⟩
     ·exact .inr ⟨j,i',nx,c+1,e,e1,e2,e3,by lia,by lia,by rw[show k+1 - (c+1)=k - c by lia];exact e4,λj' m z=>by
        rw[show m+(c+1)=(m+c)+1 by lia];exact .inr ⟨hn,e5 j' m z⟩⟩
theorem Ri {t:eK}{n:Nat}(S:Tb t n){hs:Nat->Int}{eq:Nat->Bool}{h:Int}{j₀:Nat}(he:t.slot j₀=.empty):∀(k f:Nat)(p:Probe),ComesM t.mask j₀ k p->p.dummy=none->k < f->k < 10 * turns t.mask->
  (mo t hs eq h f p=some none/\∃i,i < n/\hs i=h/\eq i=true)\/∃j,mo t hs eq h f p=some (some j)/\t.slot j=.empty/\Thru t.mask (Ne t) j k p
 |k,0,_,_,_,h,_=>absurd h (by lia)
 |k,f+1,p,hc,hd,hf,hk=>by
  unfold mo;have hp:t.probe hs h p=probe.go t hs h (10 * turns t.mask) p:=rfl;rw[hp];rcases goM S (hs:=hs) (h:=h) he k (10 * turns t.mask) p hc hd hk with⟨j,e,e1,e2⟩ | ⟨j,i,nx,c,e,e1,e2,e3,c0,ck,e4,e5⟩
  ·rw[e];exact .inr ⟨j,rfl,e1,e2⟩
  ·rw[e];dsimp only;by_cases hq:eq i=true
   ·rw[if_pos hq];exact .inl ⟨rfl,i,(S.live e1).2,e2,hq⟩
   ·rw[if_neg hq];rcases Ri S he (k - c) f nx e4 e3 (by lia) (by lia)with h | ⟨j',x1,x2,x3⟩
    ·exact .inl h
    ·exact .inr ⟨j',x1,x2,by have:=e5 j' _ x3;rw[show k - c+c=k by lia]at this;exact this⟩
theorem Kf {t:eK}{n:Nat}(S:Tb t n)(hn:n<=t.mask)(hs:Nat->Int)(eq:Nat->Bool)(h:Int) :
  (mo t hs eq h 100000 (t.probeStart h)=some none/\∃i,i < n/\hs i=h/\eq i=true)\/∃j,mo t hs eq h 100000 (t.probeStart h)=some (some j)/\t.slot j=.empty/\Thru t.mask (Ne t) j (10 * (13+t.mask)) (t.probeStart h):=by
 obtain⟨j,hj,he⟩:=S.free hn;have h127:t.mask<=127:=(by rcases S.mask with e | e | e<;>rw[e]<;>decide);exact Ri S he _ 100000 _ (Ep S.mask hj h) rfl (by lia) (by unfold turns;lia)
theorem goF {t:eK}{n:Nat}(S:Tb t n){hs:Nat->Int}{h:Int}{j i:Nat}(hl:t.slot j=.live i)(hh:hs i=h):∀(k f:Nat)(p:Probe),Thru t.mask (Ne t) j k p->k < f->
  ∃j' i' next,probe.go t hs h f p=some (.candidate j' i' next)/\t.slot j'=.live i'/\(j'=j\/∃c,0 < c/\c<=k/\Thru t.mask (Ne t) j (k - c) next)
 |k,0,_,_,h=>absurd h (by lia)
 |k,f+1,p,ht,hf=>by
  by_cases e:p.j=j
  ·unfold probe.go;rw[e,hl];dsimp only;rw[if_pos (by simp[hh])];exact⟨j,i,_,rfl,hl,.inl rfl⟩
  ·match k,ht with
   |0,ht=>exact absurd ht e
   |k+1,ht=>
    obtain⟨hn,WA⟩:=ht.resolve_left e;unfold probe.go
    match BO:t.slot p.j with
    | .empty=>exact absurd BO hn
    | .dummy=>exact(S.noDummy BO).elim
    | .live i2=>
     dsimp only;rw[Mt];by_cases hq:(hs i2 == h)=true
     ·rw[if_pos hq];exact⟨p.j,i2,_,rfl,BO,.inr ⟨1,by lia,by lia,by simpa using WA⟩⟩
     ·rw[if_neg hq];obtain⟨j',i',nx,e1,e2,e3⟩:=goF S hl hh k f _ WA (by lia);refine⟨j',i',nx,e1,e2,?_⟩;rcases e3 with e3 | ⟨c,c0,ck,e3⟩
      ·exact .inl e3
      ·exact .inr ⟨c+1,by lia,by lia,by rw[show k+1 - (c+1)=k - c by lia];exact e3⟩
theorem Rj {t:eK}{n:Nat}(S:Tb t n){hs:Nat->Int}{eq:Nat->Bool}{h:Int}{j i:Nat}(hl:t.slot j=.live i)(hh:hs i=h)(hq:eq i=true):∀(k f:Nat)(p:Probe),Thru t.mask (Ne t) j k p->k < f->k < 10 * turns t.mask->mo t hs eq h f p=some none
 |k,0,_,_,h,_=>absurd h (by lia)
 |k,f+1,p,ht,hf,hk=>by
  unfold mo;have hp:t.probe hs h p=probe.go t hs h (10 * turns t.mask) p:=rfl;rw[hp];obtain⟨j',i',nx,e,e1,e2⟩:=goF S hl hh k (10 * turns t.mask) p ht hk;rw[e];dsimp only;by_cases CJ:eq i'=true
  ·rw[if_pos CJ]
  ·rw[if_neg CJ];rcases e2 with e2 | ⟨c,c0,ck,e2⟩
   ·subst e2;rw[hl]at e1;cases e1;exact absurd hq CJ
   ·exact Rj S hl hh hq (k - c) f nx e2 (by lia) (by lia)
end TupSet
namespace TupSet
open SetTable
theorem Tb.ne {t:eK}{n:Nat}(S:Tb t n)(k:Nat):Ne t k↔k∈t.place.toList:=by
 unfold Ne;rcases S.slot k with⟨i,e,e'⟩ | ⟨h,e'⟩
 ·rw[e'];rw[<-dZ]at e;exact⟨λ_=>bK e,λ_ z=>nomatch z⟩
 ·rw[e'];refine⟨λz=>absurd rfl z,λz=>?_⟩;obtain⟨i,hi⟩:=jG z;rw[dZ]at hi;exact absurd hi (h i)
theorem sv {α:Type}(xs:Array α)(p:Nat)(x:α):(insertAt xs p x).toList=xs.toList.take p++x::xs.toList.drop p:=by
 unfold insertAt;simp;exact lF (by simp)
theorem vo {α:Type}{l:List α}{p:Nat}{x y:α}:y∈l.take p++x::l.drop p↔y=x\/y∈l:=by
 rw[eC,aU];constructor
 ·rintro(h | h | h)
  ·exact .inr (lX h)
  ·exact .inl h
  ·exact .inr (List.mem_of_mem_drop h)
 ·rintro(h | h)
  ·exact .inr (.inl h)
  ·rw[<-nS p l,eC]at h;rcases h with h | h
   ·exact .inl h
   ·exact .inr (.inr h)
theorem Tb.put {t:eK}{n j:Nat}(S:Tb t n)(he:t.slot j=.empty)(hj:j<=t.mask) :
  Tb (t.put j).1 (n+1)/\(t.put j).2<=n/\(t.put j).1.led=t.led/\(t.put j).1.moves=t.moves/\(t.put j).1.mask=t.mask/\(t.put j).1.place.toList=t.place.toList.take (t.put j).2++j::t.place.toList.drop (t.put j).2:=by
 have hb:=xo t.place j;have el:(t.put j).1.place.toList=t.place.toList.take (below t.place j)++j::t.place.toList.drop (below t.place j):=sv _ _ _;have OM:∀i:Nat,t.place[i]?≠some j:=by
  rcases S.slot j with⟨i,e,e'⟩ | ⟨h,_⟩
  ·rw[e']at he;cases he
  ·exact h
 refine⟨⟨S.mask,?_,?_,S.plain,?_,?_⟩,by rw[<-S.size];exact hb,rfl,rfl,rfl,el⟩
 ·show(if has t.dummies j then eraseAt t.dummies (below t.dummies j)else t.dummies)=#[]
  rw[S.dum,if_neg];simp[has]
 ·show(insertAt t.place (below t.place j) j).size=n+1;rw[Cb _ _ _ hb,S.size]
 ·unfold RiseA;rw[el];have lo:∀a∈t.place.toList.take (below t.place j),a < j:=λa ha=>by
   obtain⟨i,hi⟩:=jG ha;rw[List.getElem?_take]at hi
   split at hi
   ·next zR=>
    rw[dZ]at hi;exact(ic S.rise j hi).1 zR
   ·cases hi
  have DZ:∀a∈t.place.toList.drop (below t.place j),j < a:=λa ha=>by
   obtain⟨i,hi⟩:=jG ha;rw[List.getElem?_drop,dZ]at hi;have h1:=(ic S.rise j hi).2 (by lia);have h2:a≠j:=λe=>OM _ (by rw[e]at hi;exact hi);lia
  have rs:=S.rise;unfold RiseA at rs;rw[<-nS (below t.place j) t.place.toList,List.pairwise_append]at rs;refine List.pairwise_append.mpr ⟨rs.1,lN.mpr ⟨DZ,rs.2.1⟩,λa ha b hb=>?_⟩;rcases aU.mp hb with rfl | hb
  ·exact lo a ha
  ·exact rs.2.2 a ha b hb
 ·intro k hk;rw[el,vo]at hk;rcases hk with rfl | hk
  ·exact hj
  ·exact S.inb k hk
def Rc (t:eK)(H:List Int):Prop:=∀q∈t.place.toList.zip H,Thru t.mask (λk=>k∈t.place.toList) q.1 (10 * (14+t.mask)+9) (md t.mask q.2)
theorem To {α β:Type}{l:List α}{m:List β}{p:Nat}{x:α}{y:β}(h:l.length=m.length):(l.take p++x::l.drop p).zip (m.take p++y::m.drop p)=(l.zip m).take p++(x,y)::(l.zip m).drop p:=by
 rw[List.zip_append (by simp[h]),List.zip_cons_cons];simp only[List.zip_eq_zipWith,List.take_zipWith,List.drop_zipWith]
theorem Rc.put {t:eK}{n j:Nat}{H:List Int}{h:Int}(S:Tb t n)(hl:H.length=n)(R:Rc t H)(he:t.slot j=.empty)(hj:j<=t.mask)(ht:Thru t.mask (Ne t) j (10 * (13+t.mask)) (md t.mask h)) :
  Rc (t.put j).1 (H.take (t.put j).2++h::H.drop (t.put j).2):=by
 obtain⟨T,hp,_,_,em,el⟩:=S.put he hj;intro q hq;rw[em,el];rw[el,To (by rw[gA,S.size,hl]),vo]at hq;have up:∀i,i∈t.place.toList->i∈t.place.toList.take (t.put j).2++j::t.place.toList.drop (t.put j).2:=λi hi=>vo.mpr (.inr hi);rcases hq with rfl | hq
 ·exact Thru.mono (λi hi=>up i ((S.ne i).mp hi)) ht (by lia)
 ·exact Thru.mono up (R q hq) (aN _)
theorem Rc.find {t:eK}{n i:Nat}{H:List Int}{h:Int}{eq:Nat->Bool}(S:Tb t n)(hl:H.length=n)(R:Rc t H)(hi:H[i]?=some h)(hq:eq i=true) :
  mo t (λi=>(H[i]?).getD 0) eq h 100000 (t.probeStart h)=some none:=by
 have EG:i < n:=(by rw[<-hl];exact(aL.mp hi).1);have hsz:i < t.place.size:=(by rw[S.size];exact EG);have ep:t.place[i]?=some t.place[i]:=dX hsz;have hz:(t.place[i],h)∈t.place.toList.zip H:=by
  refine bK (i:=i) ?_;rw[List.getElem?_zip_eq_some];exact⟨by rw[dZ];exact ep,hi⟩
 have h127:t.mask<=127:=(by rcases S.mask with e | e | e<;>rw[e]<;>decide);exact Rj S (S.liveOf ep) (by show(H[i]?).getD 0=h;rw[hi];rfl) hq _ 100000 _ (Thru.mono (λk hk=>(S.ne k).mpr hk) (R _ hz) (aN _)) (by lia) (by unfold turns;lia)
def landsP (m j:Nat):Nat->Nat->Nat->Prop
 |0,i,_=>i=j
 |l+1,i,q=>i=j\/landsP m j l (leap m i q).1 (leap m i q).2
theorem landsP.mono {m j:Nat}:∀{l k i q:Nat},landsP m j l i q->l<=k->landsP m j k i q
 |0,0,_,_,h,_=>h
 |0,k+1,_,_,h,_=>.inl h
 |l+1,0,_,_,_,h=>absurd h (by lia)
 |l+1,k+1,_,_,.inl h,_=>.inl h
 |l+1,k+1,_,_,.inr h,hk=>.inr (landsP.mono h (by lia))
theorem wn {m j:Nat}:∀{l i:Nat},d8 m j l i=true->landsP m j l i 0
 |0,i,h=>by show i=j;simpa[d8]using h
 |l+1,i,h=>by
  unfold d8 at h;rw[tU]at h;rcases h with h | h
  ·exact .inl (by simpa using h)
  ·refine .inr ?_;have e:leap m i 0=((i * 5+1) % (m+1),0):=(by unfold leap;rfl);rw[e];exact wn h
theorem Aa {m j:Nat}(hm:M3 m)(hj:j<=m):∀(k i q:Nat),i<=m->q < 32 ^ k->landsP m j (k+m) i q
 |0,i,q,hi,hq=>by
  have:q=0:=(by simpa using hq);subst this;rw[vZ];exact wn (B2 hm hi hj)
 |k+1,i,q,hi,hq=>by
  rw[show k+1+m=(k+m)+1 by lia];refine .inr (Aa hm hj k _ _ ?_ ?_)
  ·unfold leap;have:=pB (i * 5+1+q / 32) (show 0 < m+1 by lia);dsimp only;lia
  ·show q / 32 < 32 ^ k;rw[qZ]at hq;exact Nat.div_lt_of_lt_mul (by rw[qU];exact hq)
def NeO (ow:Array (Option Nat))(j:Nat):Prop:=∃k,ow[j]?=some (some k)
theorem Er {m:Nat}{ne:Nat->Prop}:∀(k:Nat)(p:Probe),k<=p.more->(∀a,a < k->ne (p.j+a))->Thru m ne (p.j+k) k p
 |0,p,_,_=>rfl
 |k+1,p,hk,h=>by
  refine .inr ⟨h 0 (by lia),?_⟩;have e:h8 m p={ p with j:=p.j+1,more:=p.more - 1 }:=(by unfold h8;rw[if_pos (by lia)]);rw[e];have:=Er (m:=m) (ne:=ne) k { p with j:=p.j+1,more:=p.more - 1 } (by show k<=p.more - 1;lia) (λa ha=>by show ne (p.j+1+a);rw[show p.j+1+a=p.j+(a+1)by lia];exact h (a+1) (by lia));show Thru m ne (p.j+(k+1)) k _;rw[show p.j+(k+1)=p.j+1+k by lia];exact this
theorem B3 {m j:Nat}{ne:Nat->Prop}:∀(c:Nat)(p:Probe),p.more=c->(∀a,a<=c->ne (p.j+a))->∀k,Thru m ne j k (oj m p)->Thru m ne j (k+(c+1)) p
 |0,p,hc,h,k,x=>by
  refine .inr ⟨h 0 (by lia),?_⟩;have e:h8 m p=oj m p:=(by unfold h8;rw[if_neg (by lia)];rfl);rw[e];exact x
 |c+1,p,hc,h,k,x=>by
  have e:h8 m p={ p with j:=p.j+1,more:=p.more - 1 }:=(by unfold h8;rw[if_pos (by lia)]);refine .inr ⟨h 0 (by lia),?_⟩;rw[e];exact B3 c { p with j:=p.j+1,more:=p.more - 1 } (by show p.more - 1=c;lia) (λa ha=>by show ne (p.j+1+a);rw[show p.j+1+a=p.j+(a+1)by lia];exact h (a+1) (by lia)) k x
def Kg (m i q:Nat):Probe:={ j:=i,more:=runEnd m i - i,i:=i,perturb:=q,dummy:=none }
theorem ux (m i:Nat):i<=runEnd m i:=by unfold runEnd;split<;>lia
theorem uy {m i:Nat}(hi:i<=m):runEnd m i<=m:=by unfold runEnd;split<;>lia
theorem Gw {m j₀:Nat}{ow:Array (Option Nat)}(sz:ow.size=m+1)(he:ow[j₀]?=some none):∀(l i q:Nat),i<=m->landsP m j₀ l i q->
  ∃j,layClean.free m ow (l+1) i q=some j/\ow[j]?=some none/\Thru m (NeO ow) j (10 * l+9) (Kg m i q)
 |l,i,q,hi,hl=>by
  have ge:=ux m i;have le:=uy hi;have r9:=uw m i;have tk:∀a,i+a<=runEnd m i->¬(ow.getD (i+a) (some 0)).isNone=true->NeO ow (i+a):=λa ha hn=>by
   have e:ow[i+a]?=some (ow[i+a]'(by lia)):=dX (by lia);rw[eP,e]at hn;cases h:ow[i+a]'(by lia)with
   |none=>rw[h]at hn;exact absurd rfl hn
   |some k=>exact⟨k,by rw[e,h]⟩
  unfold layClean.free;cases hf:(eE (runEnd m i+1 - i)).find? (λk=>(ow.getD (i+k) (some 0)).isNone)with
  |some k=>
   dsimp only;have hk:=List.find?_some hf;have hm:=List.mem_of_find?_eq_some hf;have hkr:k < runEnd m i+1 - i:=iI.mp hm;obtain⟨_,as,bs,eq,hb⟩:=List.find?_eq_some_iff_append.mp hf;refine⟨i+k,rfl,?_,?_⟩
   ·have e:ow[i+k]?=some (ow[i+k]'(by lia)):=dX (by lia);rw[eP,e]at hk;cases h:ow[i+k]'(by lia)with
    |none=>rw[e,h]
    |some z=>rw[h]at hk;cases hk
   ·refine Thru.mono (λ_ z=>z) (Er k (Kg m i q) (by show k<=runEnd m i - i;lia) (λa ha=>?_)) (by lia);refine tk a (by lia) (λz=>?_);have DN:a∈as:=by
     have:(eE (runEnd m i+1 - i))[a]?=some a:=oO (by lia);have EX:(eE (runEnd m i+1 - i))[as.length]?=some k:=(by rw[eq];simp);rw[oO (by have:=(aL.mp EX).1;simpa using this)]at EX;cases EX;rw[eq,eB ha]at this;exact bK this
    have:=hb a DN;rw[z]at this;cases this
  |none=>
   dsimp only;have hn:=List.find?_eq_none.mp hf;have AS:∀a,a<=runEnd m i - i->NeO ow (i+a):=λa ha=>tk a (by lia) (hn a (iI.mpr (by lia)));have zO:i≠j₀:=λe=>by
    obtain⟨k,hk⟩:=AS 0 (by lia);rw[Nat.add_zero,e,he]at hk;cases hk
   match l,hl with
   |0,hl=>exact absurd hl zO
   |l+1,hl=>
    have KL:=hl.resolve_left zO;have DZ:(leap m i q).1<=m:=(by unfold leap;have:=pB (i * 5+1+q / 32) (show 0 < m+1 by lia);dsimp only;lia);obtain⟨j,e1,e2,e3⟩:=Gw sz he l _ _ DZ KL;refine⟨j,e1,e2,?_⟩;exact Thru.mono (λ_ z=>z) (B3 (runEnd m i - i) (Kg m i q) rfl AS _ e3) (by lia)
end TupSet
namespace TupSet
open SetTable
theorem Gx:∀(l:List (Option Nat)),(l.filterMap id).length < l.length->none∈l
 | [],h=>absurd h (jH _)
 |none::l,_=>cJ
 |some a::l,h=>cC _ (Gx l (by simpa using h))
theorem xx {k:Nat}:∀(l:List (Option Nat))(j:Nat),l[j]?=some none->((l.set j (some k)).filterMap id).Perm (k::l.filterMap id)
 | [],j,h=>by simp at h
 |a::l,0,h=>by
  have:a=none:=(by simpa using h);subst this;exact .refl _
 |none::l,j+1,h=>by
  have:=xx (k:=k) l j (by simpa using h);simpa using this
 |some a::l,j+1,h=>by
  have:=xx (k:=k) l j (by simpa using h);simp only[List.set_cons_succ,gZ,id];exact(this.cons a).trans (.swap _ _ _)
structure OwI (m:Nat)(ow:Array (Option Nat))(k:Nat)(hs:List Int):Prop where
 sz:ow.size=m+1
 perm:(ow.toList.filterMap id).Perm (eE k)
 thru:∀j k',ow[j]?=some (some k')->∃h,hs[k']?=some h/\Thru m (NeO ow) j (10 * (14+m)+9) (md m h)
def qd (m:Nat)(zN:Option (Array (Option Nat)×Nat))(h:Int):Option (Array (Option Nat)×Nat):=do
 let (owner,k) <-zN
 let j <-layClean.free m owner (turns m) (bits h % (m+1)) (bits h)
 pure (owner.setIfInBounds j (some k),k+1)
theorem Fj (m:Nat)(hs:Array Int):layClean m hs=(hs.toList.foldl (qd m) (some (wI (m+1) none,0))).map (·.1):=by
 unfold layClean;rw[<-Array.foldl_toList];rfl
theorem OwI.step {m k:Nat}{ow:Array (Option Nat)}{hs:List Int}{h:Int}(hm:M3 m)(O:OwI m ow k hs)(hk:k<=m)(hh:hs[k]?=some h):∃JB,qd m (some (ow,k)) h=some (JB,k+1)/\OwI m JB (k+1) hs:=by
 have zJ:(ow.toList.filterMap id).length=k:=(by rw[O.perm.length_eq,gR]);obtain⟨j₀,EH⟩:=jG (Gx ow.toList (by rw[zJ,gA,O.sz];lia));rw[dZ]at EH;have hj₀m:j₀<=m:=(by have:=(iA.mp EH).1;rw[O.sz]at this;lia);have hb:bits h % (m+1)<=m:=(by have:=pB (bits h) (show 0 < m+1 by lia);lia);obtain⟨j,e1,e2,e3⟩:=Gw O.sz EH (14+m) _ (bits h) hb ((Aa hm hj₀m 13 _ _ hb (eG (Gv h) (by decide))).mono (by lia));have et:turns m=14+m+1:=(by unfold turns;lia);have hjs:j < ow.size:=(iA.mp e2).1;have up:∀i,NeO ow i->NeO (ow.setIfInBounds j (some k)) i:=λi ⟨k',hi⟩=>by
  by_cases c:i=j
  ·rw[c,e2]at hi;cases hi
  ·exact⟨k',by rw[Array.getElem?_setIfInBounds_ne (λz=>c z.symm)];exact hi⟩
 refine⟨ow.setIfInBounds j (some k),?_,?_,?_,?_⟩
 ·unfold qd;dsimp only[Option.bind_eq_bind,Option.bind_some];rw[et,e1];rfl
 ·rw[Array.size_setIfInBounds];exact O.sz
 ·rw[Array.toList_setIfInBounds];refine(xx _ _ (by rw[dZ];exact e2)).trans ?_;rw[lU];exact(O.perm.cons k).trans (List.perm_append_singleton _ _).symm
 ·intro j' k' e;by_cases c:j'=j
  ·subst c;rw[Array.getElem?_setIfInBounds_self_of_lt hjs]at e;cases e;exact⟨h,hh,Thru.mono up e3 (aN _)⟩
  ·rw[Array.getElem?_setIfInBounds_ne (λz=>c z.symm)]at e;obtain⟨h',a,b⟩:=O.thru j' k' e;exact⟨h',a,Thru.mono up b (aN _)⟩
theorem Es {m:Nat}{hs:List Int}(hm:M3 m)(hn:hs.length<=m+1):∀(rest dn:List Int)(ow:Array (Option Nat)),hs=dn++rest->OwI m ow dn.length hs->∃JB,rest.foldl (qd m) (some (ow,dn.length))=some (JB,hs.length)/\OwI m JB hs.length hs
 | [],dn,ow,e,O=>by rw[lB]at e;subst e;exact⟨ow,rfl,O⟩
 |h::rest,dn,ow,e,O=>by
  obtain⟨JB,e1,O'⟩:=O.step (h:=h) hm (by rw[e]at hn;simp at hn;lia) (by rw[e];simp);rw[tL,e1];have:=Es hm hn rest (dn++[h]) JB (by rw[e];simp) (by rw[aO];exact O');rw[aO]at this;exact this
theorem V4 {m:Nat}{hs:List Int}(hm:M3 m)(hn:hs.length<=m+1):∃ow,layClean m hs.toArray=some ow/\OwI m ow hs.length hs:=by
 have O:OwI m (wI (m+1) none) 0 hs:=⟨by simp,by simp,λj k' e=>by rw[Array.getElem?_replicate]at e;split at e<;>cases e⟩;obtain⟨ow,e,O'⟩:=Es hm hn hs [] _ rfl O;refine⟨ow,?_,O'⟩;rw[Fj];show rK _ (hs.foldl (qd m) (some (wI (m+1) none,([]:List Int).length)))=_;rw[e];rfl
theorem Mw {t:eK}{n:Nat}{H:List Int}{w:Nat}(hp:t.plain=true)(hl:H.length=n)(hm:M3 (sizeAbove w - 1))(hn:n<=sizeAbove w - 1) :
  ∃t' order,t.relaid H.toArray w=some (t',order)/\Tb t' n/\t'.mask=sizeAbove w - 1/\t'.led=t.led/\order.toList.Perm (eE n)/\Rc t' (order.toList.map λk=>(H[k]?).getD 0):=by
 generalize em:sizeAbove w - 1=m at hm hn;obtain⟨ow,e,O⟩:=V4 (hs:=H) hm (by lia);rw[hl]at O;have rg:(eE (m+1)).map (λj=>ow.getD j none)=ow.toList:=by
  apply rX;intro i;rw[cY,dZ (xs:=ow)];by_cases h:i < m+1
  ·rw[oO h,dX (by rw[O.sz];exact h)];simp[eP,dX (show i < ow.size by rw[O.sz];exact h)]
  ·rw[jV (by simpa using h),Array.getElem?_eq_none (by rw[O.sz];lia)];rfl
 generalize hL:(eE (m+1)).filterMap (λj=>(ow.getD j none).map (j,·))=live;have CV:∀q∈live,q.1<=m/\ow[q.1]?=some (some q.2):=λq hq=>by
  rw[<-hL]at hq;obtain⟨j,hj,hjq⟩:=List.mem_filterMap.mp hq;have EM:=iI.mp hj;obtain⟨k,hk,rfl⟩:=iU.mp hjq;refine⟨by show j<=m;lia,?_⟩;show ow[j]?=some (some k);have ej:ow[j]?=some (ow[j]'(by rw[O.sz];exact EM)):=dX (by rw[O.sz];exact EM);rw[eP,ej]at hk;rw[ej];exact congrArg some hk
 have h1:live.map (·.1)=(eE (m+1)).filter λj=>(ow.getD j none).isSome:=by
  rw[<-hL,List.map_filterMap,<-List.filterMap_eq_filter];congr 1
  funext j
  have key:∀z:Option Nat,rK (λx=>x.fst) (rK (λx=>(j,x)) z)=if z.isSome=true then some j else none:=λz=>by cases z<;>rfl
  unfold Option.guard;rw[key]
 have h2:live.map (·.2)=ow.toList.filterMap id:=by
  rw[<-rg,<-hL,List.map_filterMap,List.filterMap_map];congr 1
  funext j
  show(rK (λx=>(j,x)) (ow.getD j none)).map _=id (ow.getD j none);generalize ow.getD j none=z;cases z<;>rfl
 have zJ:live.length=n:=by
  have:=congrArg List.length h2;rw[aI,O.perm.length_eq,gR]at this;exact this
 have er:t.relaid H.toArray w=some ({ mask:=m,place:=(live.map (·.1)).toArray,dummies:=#[],finger:=t.finger,led:=t.led,moves:=t.movedTo m,plain:=t.plain },(live.map (·.2)).toArray):=by
  unfold SetTable.relaid SetTable.laid;rw[em,e];show some _=some _;rw[hL]
 have AL:∀j,j∈live.map (·.1)↔NeO ow j:=λj=>by
  rw[h1,lA,List.mem_range];constructor
  ·intro zE;obtain⟨hj,hs⟩:=zE;have ej:ow[j]?=some (ow[j]'(by rw[O.sz];exact hj)):=dX (by rw[O.sz];exact hj);rw[eP,ej]at hs;obtain⟨k,hk⟩:=oJ.mp hs;exact⟨k,by rw[ej];exact congrArg some hk⟩
  ·intro zE;obtain⟨k,hk⟩:=zE;have:=(iA.mp hk).1;rw[O.sz]at this;exact⟨this,by rw[eP,hk];rfl⟩
 refine⟨_,_,er,⟨hm,rfl,by simp[zJ],hp,?_,λj hj=>?_⟩,rfl,rfl,?_,?_⟩
 ·show((live.map (·.1)).toArray).toList.Pairwise (· < ·);rw[List.toList_toArray,h1];exact List.pairwise_lt_range.filter _
 ·obtain⟨q,hq,rfl⟩:=jD.mp (show j∈live.map (·.1)from hj);exact(CV q hq).1
 ·show(live.map (·.2)).Perm _;rw[h2];exact O.perm
 ·intro q hq;show Thru m (λk=>k∈live.map (·.1)) q.1 (10 * (14+m)+9) (md m q.2);have hz:q∈(live.map (·.1)).zip ((live.map (·.2)).map λk=>(H[k]?).getD 0):=hq;rw[rA,List.zip_map']at hz;obtain⟨z,hz1,rfl⟩:=jD.mp hz;obtain⟨h',a,b⟩:=O.thru _ _ (CV z hz1).2;show Thru m _ z.1 _ (md m ((H[z.2]?).getD 0));rw[a];exact Thru.mono (λi hi=>(AL i).mpr hi) b (aN _)
end TupSet
namespace TupG
open SetTable TupSet
def Pin (m:Nat)(p:Probe):Prop:=p.j+p.more<=m
theorem Pin.adv {m:Nat}{p:Probe}(h:Pin m p):Pin m (h8 m p):=by
 unfold h8 Pin at *
 split
 ·show p.j+1+(p.more - 1)<=m;lia
 ·show(leap m p.i p.perturb).1+(runEnd m (leap m p.i p.perturb).1 - (leap m p.i p.perturb).1)<=m;have h1:(leap m p.i p.perturb).1<=m:=(by unfold leap;have:=pB (p.i * 5+1+p.perturb / 32) (show 0 < m+1 by lia);dsimp only;lia);have:=uy h1;have:=ux m (leap m p.i p.perturb).1;lia
theorem Pin.start (m:Nat)(h:Int):Pin m (md m h):=by
 show bits h % (m+1)+(runEnd m (bits h % (m+1)) - bits h % (m+1))<=m;have h1:bits h % (m+1)<=m:=(by have:=pB (bits h) (show 0 < m+1 by lia);lia);have:=uy h1;have:=ux m (bits h % (m+1));lia
theorem Pin.thru {m j:Nat}{ne:Nat->Prop}:∀{k:Nat}{p:Probe},Pin m p->Thru m ne j k p->j<=m
 |0,p,h,t=>by have:p.j=j:=t;unfold Pin at h;lia
 |k+1,p,h,.inl t=>by unfold Pin at h;lia
 |k+1,p,h,.inr t=>Pin.thru h.adv t.2
theorem Xi {t:eK}{n:Nat}(S:Tb t n){hs:Nat->Int}{h:Int}{p:Probe}{j i:Nat}{nx:Probe}:∀f,probe.go t hs h f p=some (.candidate j i nx)->t.slot j=.live i/\i < n/\hs i=h:=by
 intro f
 induction f generalizing p with
 |zero=>intro e;exact nomatch e
 |succ f ih=>
  intro e;unfold probe.go at e
  match BO:t.slot p.j with
  | .empty=>rw[BO]at e;exact nomatch e
  | .dummy=>exact(S.noDummy BO).elim
  | .live i'=>
   rw[BO]at e;dsimp only at e;by_cases hh:(hs i' == h)=true
   ·rw[if_pos hh]at e;injection e with e;injection e with e1 e2 e3;subst e1;subst e2;exact⟨BO,(S.live BO).2,by simpa using hh⟩
   ·rw[if_neg hh]at e;exact ih e
theorem rj {t:eK}{n:Nat}(S:Tb t n)(hn:n<=t.mask):t.fits n=true:=by
 unfold SetTable.fits;rw[S.fill,S.size];simp;lia
theorem Xj {t:eK}{n:Nat}(S:Tb t n):t.gaveWay=false:=by
 unfold SetTable.gaveWay;rcases S.mask with e | e | e<;>rw[e]<;>rfl
section
variable {prog:aP}{w:aW}{A:cQ}{E:aB->aG->Prop}{s:aG}
theorem P1 {S:Addr}{o:Obj}{es:Array (Int×aB)}{ep:Nat}{t t':eK}{order:Array Nat}{wd:Nat}{Q:Unit->aG->Prop}(ho:s.heap.get? S=some o)(hd:o.data=.set es ep t)(hf:t.fits es.size=true)
  (hw:¬pF wd > sizeLine) (hr:t.relaid (es.map (·.1)) wd=some (t',order)) (hz:(order.filterMap (es[·]?)).size=es.size) (hb:es.size < scanBound)
  (h:Q () { s with heap:=s.heap.update S (qB (order.filterMap (es[·]?)) t') }):aM (aX prog w) A (setRelay S wd) Q E s:=by
 unfold setRelay;refine aA (jQ ho hd hf ?_);dsimp only;rw[if_neg hw];refine aA ?_;rw[hr];have hc:((order.filterMap (es[·]?)).size != es.size)=false:=(by rw[hz];simp);show aM (aX prog w) A (ite (((order.filterMap (es[·]?)).size != es.size)=true) _ _) _ E s;rw[hc,if_neg bZ];refine wpAny_pure ?_;exact wpAny_storeSet_of ho hd h (fits_of_scanBound (by rw[hz];exact hb))
theorem om {S a:Addr}{o:Obj}{es:Array (Int×aB)}{ep:Nat}{t:eK}{xs:List (List Int)}{x:List Int}{Q:SetFound->aG->Prop}
  (hu:A.units < iK) (ho:s.heap.get? S=some o) (hd:o.data=.set es ep t) (Sm:Tb t xs.length) (hn:xs.length<=t.mask) (hE:EntsOf prog w s.heap es.toList xs)
  (hx:eQ (eF prog w) s.heap x a) (h:Int):∀(f:Nat)(BE:Option Probe) (r:Option Nat),
   mo t (λi=>((xs[i]?).map (c8 prog w)).getD 0) (λi=>decide (xs[i]?=some x)) h f (BE.getD (t.probeStart h))=some r->
   (match r with | none=>Q (.there none) s | some j=>Q (.free j false) s)->
   aM (aX prog w) A (setSearchFrom S (.ref a) h true f BE) Q E s
 |0,_,_,e,_=>nomatch e
 |f+1,BE,r,e,hQ=>by
  have zJ:=hE.length;rw[gA]at zJ;have AK:t.fits es.size=true:=(by rw[zJ];exact rj Sm hn);unfold setSearchFrom;refine aA (jQ ho hd AK ?_);dsimp only;rw[Xj Sm];simp only[cZ,if_false];unfold mo at e;have hg:∀g:Nat->Int,(∀i,g i=((es[i]?).map (·.1)).getD 0)->g=λi=>((xs[i]?).map (c8 prog w)).getD 0:=λg hg=>funext λi=>by
   rw[hg i,<-hE.hash i,dZ]
  match hp:t.probe (λi=>((xs[i]?).map (c8 prog w)).getD 0) h (BE.getD (t.probeStart h))with
  |none=>rw[hp]at e;exact nomatch e
  |some (.empty j (some d))=>rw[hp]at e;exact nomatch e
  |some (.empty j none)=>
   rw[hp]at e;injection e with e;subst e;have LX:∀g:Nat->Int,(∀i,g i=((es[i]?).map (·.1)).getD 0)->t.probe g h (BE.getD (t.probeStart h))=some (.empty j none):=λg NK=>(by rw[hg g NK];exact hp);rw[LX]
   ·dsimp only;exact wpAny_pure hQ
   ·intro i;rfl
  |some (.candidate j i next)=>
   rw[hp]at e;dsimp only at e;have LX:∀g:Nat->Int,(∀i,g i=((es[i]?).map (·.1)).getD 0)->t.probe g h (BE.getD (t.probeStart h))=some (.candidate j i next):=λg NK=>by rw[hg g NK];exact hp
   rw[LX]
   rotate_left
   ·intro i;rfl
   dsimp only;have hc:=Xi Sm (hs:=λi=>((xs[i]?).map (c8 prog w)).getD 0) (h:=h) (p:=BE.getD (t.probeStart h)) (j:=j) (i:=i) (nx:=next) (10 * turns t.mask) hp
   have hi:i < es.size:=(by rw[zJ];exact hc.2.1);have LY:es[i]?=some es[i]:=dX hi;obtain⟨y,hy,hent⟩:=hE.get (i:=i) (e:=es[i]) (by rw[dZ];exact LY);obtain⟨_,b,hb,WB⟩:=hent;have DI:∀v∈List.map (λx=>x.snd) (Array.filter (λx=>x.fst == h) es).toList,∃b y,v=.ref b/\eQ (eF prog w) s.heap y b:=by
    intro v hv;obtain⟨e',HB,rfl⟩:=jD.mp hv;rw[Array.toList_filter]at HB;have hm:=(lA.mp HB).1;obtain⟨k,hk⟩:=jG hm;obtain⟨y',_,_,b',QX,BZ⟩:=hE.get hk;exact⟨b',y',QX,BZ⟩
   generalize hEi:es[i]=ei at LY hb;obtain⟨h1,v1⟩:=ei;dsimp only at hb;subst hb;rw[LY];refine Rh ?_ ?_
   ·refine aA (Kd hx DI ?_);simp only[cZ,if_false];refine aA (gH (rB hu WB hx ?_));refine aA (jQ ho hd AK ?_);dsimp only;by_cases FO:y=x
    ·rw[decide_eq_true FO];subst FO;rw[hy]at e;simp only[decide_true,if_true]at e;injection e with e;subst e;simp only[xG,if_true];exact wpAny_pure hQ
    ·rw[decide_eq_false FO];simp only[rH,cZ,if_false];have RG:t.sameMemory t.moves t.mask=some true:=(by unfold SetTable.sameMemory;simp);rw[RG];simp only[if_true];rw[hc.1];dsimp only;rw[LY];dsimp only;refine aA (wpAny_isSame_ref_self ?_);simp only[if_true];refine aA (wpAny_pure ?_);dsimp only;rw[hy]at e;rw[if_neg (by simpa using FO)]at e;exact om hu ho hd Sm hn hE hx h f (some next) r e hQ
   ·refine aA (gH (rB hu WB hx ?_));refine aA (jQ ho hd AK ?_);dsimp only;by_cases FO:y=x
    ·rw[decide_eq_true FO];subst FO;rw[hy]at e;simp only[decide_true,if_true]at e;injection e with e;subst e;simp only[xG,if_true];exact wpAny_pure hQ
    ·rw[decide_eq_false FO];simp only[rH,cZ,if_false];have RG:t.sameMemory t.moves t.mask=some true:=(by unfold SetTable.sameMemory;simp);rw[RG];simp only[if_true];rw[hc.1];dsimp only;rw[LY];dsimp only;refine aA (wpAny_isSame_ref_self ?_);simp only[if_true];refine aA (wpAny_pure ?_);dsimp only;rw[hy]at e;rw[if_neg (by simpa using FO)]at e;exact om hu ho hd Sm hn hE hx h f (some next) r e hQ
structure TOk (prog:aP)(w:aW)(t:eK)(xs:List (List Int)):Prop where
 tb:Tb t xs.length
 room:xs.length * 5 < t.mask * 3
 rc:Rc t (xs.map (c8 prog w))
 nd:xs.Nodup
def zq (prog:aP)(w:aW)(h0 h:Heap)(S:Addr)(t:eK)(xs:List (List Int)):Prop:=
 ∃o es ep,h.get? S=some o/\o.ExactSet/\o.data=.set es ep t/\TOk prog w t xs/\EntsOf prog w h0 es.toList xs
theorem TOk.fit {t:eK}{xs:List (List Int)}(T:TOk prog w t xs):xs.length<=t.mask:=by have:=T.room;lia
theorem EntsOf.hashes {h:Heap}:∀{es:List (Int×aB)}{xs:List (List Int)},EntsOf prog w h es xs->es.map (·.1)=xs.map (c8 prog w)
 | [],[],_=>rfl
 |e::es,x::xs,z=>by rw[eO,eO,z.1.1,EntsOf.hashes z.2]
 | [],_::_,z=>z.elim
 |_::_,[],z=>z.elim
theorem EntsOf.pick {h:Heap}{es:List (Int×aB)}{xs:List (List Int)}(E:EntsOf prog w h es xs):∀(p:List Nat),(∀i∈p,i < xs.length)->EntsOf prog w h (p.filterMap (es[·]?)) (p.map λi=>xs.getD i [])
 | [],_=>trivial
 |i::p,hp=>by
  have hi:=hp i cJ;have hl:=E.length;have e:es[i]?=some es[i]:=aK (by lia);obtain⟨x,hx,ent⟩:=E.get e;rw[gZ,e,eO];refine⟨?_,EntsOf.pick E p λj hj=>hp j (cC _ hj)⟩;have:xs.getD i []=x:=(by rw[gI,hx];rfl);rw[this];exact ent
theorem tf {α:Type}{l:List α}:∀(p:List Nat),(∀i∈p,i < l.length)->(p.filterMap (l[·]?)).length=p.length
 | [],_=>rfl
 |i::p,hp=>by
  rw[gZ,aK (hp i cJ)];simp only[cX];rw[tf p λj hj=>hp j (cC _ hj)]
theorem Mx (xs:List (List Int)):(eE xs.length).map (λi=>xs.getD i [])=xs:=by
 apply rX;intro i;rw[cY];by_cases h:i < xs.length
 ·rw[oO h];simp[gI,aK h]
 ·rw[jV (by simpa using h),jV (by lia)];rfl
theorem wp_add {S a:Addr}{h0:Heap}{t:eK}{xs:List (List Int)}{x:List Int}{Q:Bool->aG->Prop}
  (hu:A.units < iK) (hK:∀b o,h0.get? b=some o->s.heap.get? b=some o) (hS:zq prog w h0 s.heap S t xs) (hn:xs.length<=75) (CO:eQ (eF prog w) h0 x a)
  (h:∀(b:Bool)(h':Heap) t' AM,gG S s.heap h'->zq prog w h0 h' S t' AM->t'.led=t.led->(∀y,y∈AM↔y=x\/y∈xs)->AM.length<=xs.length+1->Q b { s with heap:=h',toks:=s.toks+(x.length+1) }) :
  aM (aX prog w) A (setAdd S (.ref a)) Q E s:=by
 obtain⟨o,es,ep,ho,hex,hd,T,NY⟩:=hS;have hx:=j7 hK CO;have hE:EntsOf prog w s.heap es.toList xs:=NY.imp λy b=>j7 hK;have zJ:=hE.length;rw[gA]at zJ;have AK:t.fits es.size=true:=(by rw[zJ];exact rj T.tb T.fit);unfold setAdd;refine gH ?_;refine aA (wpAny_pyHash_tuple hu hx ?_);unfold setAddHashed;refine gH ?_;unfold setAddHashedIn;refine aA (jQ (s:={ s with toks:=s.toks+(x.length+1) }) ho hd AK ?_);dsimp only;have hb:byScan (.ref a) es=false:=rfl;rw[hb];simp only[cZ,if_false];have hf:(λ(i:Nat)=>(((xs.map (c8 prog w))[i]?).getD 0))=λ(i:Nat)=>((xs[i]?).map (c8 prog w)).getD 0:=by
  funext i;rw[cY]
 unfold setSearch;by_cases EG:x∈xs
 ·obtain⟨i,hi⟩:=jG EG;have hr:mo t (λi=>((xs[i]?).map (c8 prog w)).getD 0) (λi=>decide (xs[i]?=some x)) (c8 prog w x) 100000 (t.probeStart (c8 prog w x))=some none:=by
   rw[<-hf];exact Rc.find T.tb (aI _) T.rc (i:=i) (by rw[cY,hi];rfl) (by simp[hi])
  refine aA (om (s:={ s with toks:=s.toks+(x.length+1) }) hu ho hd T.tb T.fit hE hx (c8 prog w x) 100000 none none hr ?_);dsimp only;exact wpAny_pure (h false s.heap t xs (vD _ _) ⟨o,es,ep,ho,hex,hd,T,NY⟩ rfl (λy=>⟨λz=>.inr z,λz=>by rcases z with rfl | z;exact EG;exact z⟩) (by lia))
 ·rcases Kf T.tb T.fit (λi=>((xs[i]?).map (c8 prog w)).getD 0) (λi=>decide (xs[i]?=some x)) (c8 prog w x)with⟨_,i,_,_,hq⟩ | ⟨j,hr,he,WC⟩
  ·exact absurd (bK (of_decide_eq_true hq)) EG
  refine aA (om (s:={ s with toks:=s.toks+(x.length+1) }) hu ho hd T.tb T.fit hE hx (c8 prog w x) 100000 none (some j) hr ?_);have hj:j<=t.mask:=Pin.thru (Pin.start _ _) WC;dsimp only;refine aA (jQ (s:={ s with toks:=s.toks+(x.length+1) }) ho hd AK ?_);dsimp only;obtain⟨Sp,UU,BI,hmv,RH,AL⟩:=T.tb.put he hj;have RI:=Rc.put (h:=c8 prog w x) T.tb (aI _) T.rc he hj WC;rw[Sp.plain];simp only[if_true];refine aA (A6 (s:={ s with toks:=s.toks+(x.length+1) }) hx ?_);simp only[if_true];generalize hes:insertAt es (t.put j).2 (xV (eF prog w) x,cE a)=BR;generalize AI:xs.take (t.put j).2++x::xs.drop (t.put j).2=xs1;have hins:BR.toList=es.toList.take (t.put j).2++(c8 prog w x,cE a)::es.toList.drop (t.put j).2:=(by rw[<-hes];exact sv _ _ _);have LZ:EntsOf prog w h0 BR.toList xs1:=by
   rw[hins,<-AI];exact(NY.take _).app ⟨⟨rfl,a,rfl,CO⟩,NY.drop _⟩
  have DD:xs1.length=xs.length+1:=(by rw[<-AI];simp;lia);have hsz:BR.size=es.size+1:=(by have:=LZ.length;rw[gA,DD]at this;lia);have CV:∀y,y∈xs1↔y=x\/y∈xs:=λy=>(by rw[<-AI];exact vo);have WD:xs1.Nodup:=by
   rw[<-AI];have p:(xs.take (t.put j).2++x::xs.drop (t.put j).2).Perm (x::xs):=by
    refine List.perm_middle.trans (List.Perm.cons _ ?_);rw[nS]
   exact p.nodup_iff.mpr (iQ.mpr ⟨EG,T.nd⟩)
  have hmap:xs1.map (c8 prog w)=(xs.map (c8 prog w)).take (t.put j).2++c8 prog w x::(xs.map (c8 prog w)).drop (t.put j).2:=by
   rw[<-AI,cU,eO,List.map_take,xF]
  rw[<-hmap]at RI;generalize (t.put j).1=t1 at Sp BI hmv RH AL RI;have RJ:Tb t1 xs1.length:=(by rw[DD];exact Sp);have NR:BR.size < scanBound:=(by rw[hsz,zJ];show _ < 4096;lia);have hg:(s.heap.update S (qB BR t1)).get? S=some { o with data:=.set BR (ep+1) t1 }:=by
   have:=gY (qB BR t1) ho (by rw[xY _ _ hd];rfl);rw[xY _ _ hd]at this;exact this
  have KB:=iY s.heap S (qB BR t1);refine aA (wpAny_storeSet_of (s:={ s with toks:=s.toks+(x.length+1) }) ho hd ?_ (fits_of_scanBound NR));cases KC:t1.tooFull with
  |false=>
   simp only[rH,cZ,if_false];refine wpAny_pure (h true _ t1 xs1 KB ⟨_,_,_,hg,hex,rfl,⟨RJ,?_,RI,WD⟩,LZ⟩ BI CV (by lia));unfold SetTable.tooFull at KC;rw[RJ.fill]at KC;have:=of_decide_eq_false KC;lia
  |true=>
   have JC:(xs.length+1) * 5>=t.mask * 3:=by
    unfold SetTable.tooFull at KC;rw[Sp.fill,RH]at KC;exact of_decide_eq_true KC
   have NQ:=T.room;obtain⟨NE,WE,QL,HL⟩:¬pF (rM (es.size+1)) > sizeLine/\M3 (pF (rM (es.size+1)) - 1)/\xs1.length<=pF (rM (es.size+1)) - 1/\xs1.length * 5 < (pF (rM (es.size+1)) - 1) * 3:=by
    rw[zJ,DD];rcases T.tb.mask with e | e | e
    ·have:xs.length=4:=(by rw[e]at JC NQ;lia);rw[this];exact⟨by decide +kernel,.inr (.inl (by decide +kernel)),by decide +kernel,by decide +kernel⟩
    ·have:xs.length=18:=(by rw[e]at JC NQ;lia);rw[this];exact⟨by decide +kernel,.inr (.inr (by decide +kernel)),by decide +kernel,by decide +kernel⟩
    ·rw[e]at JC;lia
   generalize rM (es.size+1)=wd at NE WE QL HL;have heh:BR.map (·.1)=(xs1.map (c8 prog w)).toArray:=by
    apply Array.toList_inj.mp;rw[Array.toList_map,EntsOf.hashes LZ]
   obtain⟨t2,order,er,T2,em2,el2,pm,rc2⟩:=Mw (t:=t1) (n:=xs1.length) (H:=xs1.map (c8 prog w)) Sp.plain (aI _) WE QL;have JD:∀i∈order.toList,i < xs1.length:=λi hi=>(by simpa using pm.mem_iff.mp hi);have CF:=LZ.length;have HM:order.toList.length=xs1.length:=(by rw[pm.length_eq,gR]);have WF:(order.filterMap (BR[·]?)).toList=order.toList.filterMap (BR.toList[·]?):=by
    rw[Array.toList_filterMap];congr 1
    funext i
    rw[dZ]
   have hz:(order.filterMap (BR[·]?)).size=BR.size:=by
    rw[<-gA,WF,tf _ (by rw[CF];exact JD),HM,<-CF,gA]
   have p2:(order.toList.map λi=>xs1.getD i []).Perm xs1:=by
    have:=pm.map (λi=>xs1.getD i []);rw[Mx]at this;exact this
   simp only[Bool.not_false,xG,if_true];refine aA (P1 (s:={ s with heap:=s.heap.update S (qB BR t1),toks:=s.toks+(x.length+1) }) (t':=t2) (order:=order) hg rfl (by rw[hsz,zJ,<-DD];exact rj RJ (by rw[RH,DD];have:=T.fit;lia)) NE (by rw[heh];exact er) hz NR ?_);refine wpAny_pure ?_;have RK:((s.heap.update S (qB BR t1)).update S (qB (order.filterMap (BR[·]?)) t2)).get? S=some { o with data:=.set (order.filterMap (BR[·]?)) (ep+1+1) t2 }:=by
    have:=gY (qB (order.filterMap (BR[·]?)) t2) hg (by rw[xY _ _ rfl];rfl);rw[xY _ _ rfl]at this;exact this
   refine h true _ t2 (order.toList.map λi=>xs1.getD i []) (KB.trans (iY _ S _)) ⟨_,_,_,RK,hex,rfl,⟨?_,?_,?_,p2.nodup_iff.mpr WD⟩,?_⟩ (el2.trans BI) (λy=>p2.mem_iff.trans (CV y)) (by rw[p2.length_eq];lia)
   ·rw[p2.length_eq];exact T2
   ·rw[p2.length_eq,em2];exact HL
   ·have e3:(order.toList.map λi=>xs1.getD i []).map (c8 prog w)=order.toList.map λk=>((xs1.map (c8 prog w))[k]?).getD 0:=by
     rw[rA];refine List.map_congr_left λk hk=>?_;have BZ:=JD k hk;show c8 prog w (xs1.getD k [])=_;rw[cY,gI,aK BZ];rfl
    rw[e3];exact rc2
   ·rw[WF];exact EntsOf.pick LZ _ JD
end
end TupG
namespace TupG
open SetTable TupSet PyProof.Rows
def Got (prog:aP)(w:aW)(h0 h:Heap)(S:Addr)(led:Bool)(Y:List (List Int)):Prop:=∃t xs,zq prog w h0 h S t xs/\t.led=led/\(∀y,y∈xs↔y∈Y)/\xs.length<=Y.length
section
variable {prog:aP}{w:aW}{A:cQ}{R:xL->aG->Prop}{I:Addr}{fp wr:List Addr}{G:Array pP->Array pP->Prop}{n:Nat}{P:Nat->aB->Prop}{St:Nat->aG->Prop}
theorem My (W:WalksS prog w A.in1 I fp wr G n P St)(S:Addr)(NZ:S ∉ fp)(h0:Heap)(L:List (List Int))(led:Bool)(hnL:n=L.length)(h3:n<=76)(hu:A.in1.units < iK)
  (hP:∀i v,P i v->∃a x,v=.ref a/\L[i]?=some x/\eQ (eF prog w) h0 x a) (hS0:h0.get? S=none) (hwr:∀b∈wr,h0.get? b=none) :
  ∀(k i:Nat)(s:aG),n - i=k->i<=n->St i s->(∀b o,h0.get? b=some o->s.heap.get? b=some o)->
   Got prog w h0 s.heap S led (L.take i)->
   (∀s',Moved (S::wr) G s s'->(∀b o,h0.get? b=some o->s'.heap.get? b=some o)->Got prog w h0 s'.heap S led L->R (.ok (.ret .none)) s')->
   oQ (aX prog w) A (.builtin "set.update.loop" ⟨[.ref S,.ref I],[]⟩) R s:=by
 have hSw:S ∉ wr:=λh=>NZ (W.sub _ h);have BB:∀b∈wr,b∈S::wr:=λb hb=>cC _ hb;have HN:∀{s s':aG},Moved wr G s s'->(∀b o,h0.get? b=some o->s.heap.get? b=some o)->∀b o,h0.get? b=some o->s'.heap.get? b=some o:=λhm hK b o hb=>
  hm.heap b o (λhw=>by rw[hwr b hw]at hb;exact nomatch hb) (hK b o hb)
 have HP:∀{s s':aG}{Y},Moved wr G s s'->Got prog w h0 s.heap S led Y->Got prog w h0 s'.heap S led Y:=λhm hS=>by
  obtain⟨t,xs,⟨o,es,ep,ho,rest⟩,r2⟩:=hS;exact⟨t,xs,⟨o,es,ep,hm.heap S _ hSw ho,rest⟩,r2⟩
 intro k
 induction k with
 |zero=>
  intro i s hk hi DI hK hS hR;have EG:i=n:=(by lia);subst EG;refine pE PyProof.Rows.F.entry_set_update_loop ?_;rw[pZ nL _];show aM _ A.in1 (lE (.ref I) >>= _) _ _ s;refine aA (W.done s _ _ DI λs' hm=>?_);show aM _ A.in1 (ret gP) _ _ s';have EY:=HP hm hS;rw[hnL,eZ]at EY;exact wpAny_pure (hR s' (hm.mono BB) (HN hm hK) EY)
 |succ k ih=>
  intro i s hk hi DI hK hS hR;have zR:i < n:=(by lia);refine pE PyProof.Rows.F.entry_set_update_loop ?_;rw[pZ nL _];show aM _ A.in1 (lE (.ref I) >>= _) _ _ s;refine aA (W.item i s _ _ zR DI λv s' hPv hst' hm=>?_);obtain⟨a,x,rfl,hxL,hxk⟩:=hP i v hPv;have EY:=HP hm hS;have WG:=HN hm hK;obtain⟨t,xs,hT,BI,CV,hxl⟩:=EY;rw[dJ]at hxl;show aM _ A.in1 (rF [cE a] (setAdd S (.ref a)) >>= _) _ _ s';refine aA (gH ?_);refine TupG.wp_add hu WG hT (by lia) hxk λb h' t' AM KB hT2 zW LP FJ=>?_;have hS2:Got prog w h0 h' S led (L.take (i+1)):=⟨t',AM,hT2,zW.trans BI,λy=>by
    rw[LP,CV,eJ,hxL];simp only[Option.toList_some,eC,aY];exact Or.comm,by rw[dJ];lia⟩
  have hK2:∀b o,h0.get? b=some o->h'.get? b=some o:=λb o hb=>by
   rw[KB.2 b (λe=>by rw[e,hS0]at hb;exact nomatch hb)];exact WG b o hb
  refine wpAny_pure ⟨plainId_quiet nL _,ih (i+1) _ (by lia) zR (W.frame _ s' _ _ hst' (sQ _ _) λb hb o e=>?_) hK2 hS2 λKQ hm'' hK'' hS''=>?_⟩
  ·rw[KB.2 b (λh:b=S=>NZ (by rw[<-h];exact hb))];exact e
  ·refine hR KQ (Moved.trans W.gtrans ((hm.mono BB).then_heap (sQ _ _) λb o hb e=>?_) hm'') hK'' hS'';rw[KB.2 b (λh:b=S=>hb (by rw[h];exact cJ))];exact e
end
section
variable {prog:aP}{w:aW}{A:cQ}{E:aB->aG->Prop}{s:aG}
theorem Mz (h0 h:Heap)(S:Addr)(led:Bool)(hg:h.get? S=some { cls:=.type "set",dict:=none,data:=.set #[] 0 (.fresh 0 0 led) }):Got prog w h0 h S led []:=
 ⟨_,[],⟨_,_,_,hg,⟨rfl,rfl,rfl⟩,rfl,⟨Tb.fresh led,by show 0 * 5 < 7 * 3;lia,(λq hq=>nomatch hq),jN⟩,trivial⟩,rfl,λy=>zD,aN _⟩
theorem call_setG {l:Addr}{items:Array aB}{L:List (List Int)}{h0:Heap}{Q:aB->aG->Prop}
  (EI:∀b o,h0.get? b=some o->s.heap.get? b=some o) (hh:A.handled=none) (hu:A.units+8 < iK) (hl:s.heap.IsList l items) (hL:items.size=L.length) (h3:L.length<=76)
  (hi:∀(i:Nat)(v:aB),items[i]?=some v->∃a x,v=.ref a/\L[i]?=some x/\eQ (eF prog w) h0 x a)
  (h:∀(h':Heap)(tk:Nat),Got prog w h0 h' s.heap.objs.size (zt w) L->(∀b o,s.heap.get? b=some o->h'.get? b=some o)->Q (.ref s.heap.objs.size) { s with heap:=h',toks:=tk }) :
  aM (aX prog w) A (call (.type "set") [.ref l]) Q E s:=by
 have WH:∀b,s.heap.objs.size<=b->h0.get? b=none:=λb hb=>by
  cases e:h0.get? b with
  |none=>rfl
  |some o=>exact absurd (aZ (EI b o e)) (Nat.not_lt.mpr hb)
 obtain⟨c,tl,hmro⟩:=F.called_set.mro;have hmade:=F.called_set.made;have BB:=F.called_set.sub;refine tJ (wH ?_);show aM _ _ (callAny (.type "set") _) _ _ _;refine wpAny_pure ⟨qX _ (by decide +kernel),pE F.entry_type_call ?_⟩;rw[Around.under_plain (weight_type_call_type "set" [.ref l] []) rfl];have h1:=F.called_set.notType;have h2:=F.called_set.canCreate;have hct:=F.typeCall_set_1 (.ref l)
 repeat (any_goals (first | assumption | wp_step))
 obtain⟨led,BI⟩:∃led,zt w=led:=⟨_,rfl⟩;rw[BI]at h;refine nJ (Py (.ref l) (E:=E) (Q₁:=λobj s₁=>obj=.ref s.heap.objs.size/\s₁={ s with heap:=s.heap.push { cls:=.type "set",dict:=none,data:=.set #[] 0 (.fresh 0 0 led) } }) (by rw[BI];exact⟨rfl,rfl⟩)) λr s₁ hr=>?_;cases r with
 |error e=>exact hr
 |ok fl=>
  cases fl with
  |ret obj=>
   obtain⟨rfl,rfl⟩:=hr;have hS:(s.heap.push { cls:=.type "set",dict:=none,data:=.set #[] 0 (.fresh 0 0 led) }).get? s.heap.objs.size=some { cls:=.type "set",dict:=none,data:=.set #[] 0 (.fresh 0 0 led) }:=bV _ rfl;have hT:Shared.TypeIs { s with heap:=s.heap.push { cls:=.type "set",dict:=none,data:=.set #[] 0 (.fresh 0 0 led) } } (.ref s.heap.objs.size) "set":=⟨_,hS,rfl⟩;have hli:=F.called_set.init.lookup;have HC:=F.called_set.init.bind (.ref s.heap.objs.size)
   repeat (any_goals (first | assumption | wp_step))
   refine nJ (tP (R:=wants (λr s₂=>r=.none/\∃h' tk,s₂={ s with heap:=h',toks:=tk }/\Got prog w h0 h' s.heap.objs.size led L/\(∀b o,s.heap.get? b=some o->h'.get? b=some o)) E) F.called_set.init.plain F.entry_set_init (check_set_init_1 hT ?_)) λr₂ s₂ EJ=>?_
   ·obtain⟨ol,HM,WI,nl,WJ⟩:=hl;obtain⟨ocls,odict,odata,oslots⟩:=ol;simp only at WI WJ;subst WI;subst WJ;have hol':(s.heap.push { cls:=.type "set",dict:=none,data:=.set #[] 0 (.fresh 0 0 led) }).get? l=some { cls:=.type "list",dict:=odict,data:=.seq items nl,slots:=oslots }:=aJ _ HM;have hsls:=F.sub_list_set;have hslf:=F.sub_list_frozenset;have zO:(rC "list" == rC "dict")=false:=(by decide);have CF:(s.heap.push { cls:=.type "set",dict:=none,data:=.set #[] 0 (.fresh 0 0 led) }).IsList l items:=⟨_,hol',rfl,nl,rfl⟩;unfold iW.«set.__init__» noKeywords Builtin.Frozenset.updateFrom;generalize hPI:yP=PI
    wp_walk
    subst hPI;refine iM CF ?_;refine aA (wpAny_runValue ?_);have WK:l < s.heap.objs.size:=aZ HM;have hh3:A.in1.in1.in1.handled=none:=(by simp[hh]);have FP:(s.heap.push { cls:=.type "set",dict:=none,data:=.set #[] 0 (.fresh 0 0 led) }).objs.size=s.heap.objs.size+1:=gK _ _;have hneI:l≠(s.heap.push { cls:=.type "set",dict:=none,data:=.set #[] 0 (.fresh 0 0 led) }).objs.size:=(by rw[FP];exact cK (rW WK));have NZ:s.heap.objs.size ∉ [(s.heap.push { cls:=.type "set",dict:=none,data:=.set #[] 0 (.fresh 0 0 led) }).objs.size,l]:=by
     rw[FP];intro hm;rcases aU.mp hm with e | e
     ·exact absurd e (cK (oH _))
     ·exact absurd (aY.mp e) (gN WK)
    have zT:∀b o,s.heap.get? b=some o->((s.heap.push { cls:=.type "set",dict:=none,data:=.set #[] 0 (.fresh 0 0 led) }).push { cls:=.type "list_iterator",data:=.fields #[.ref l,.int 0 0] }).get? b=some o:=λb o e=>
     aJ _ (aJ _ e)
    refine My ((yW hh3 _ l hneI items).toS) s.heap.objs.size NZ h0 L led hL (by rw[hL];exact h3) ?hun hi (WH _ (aN _)) ?hwr
     (items.size - 0) 0 _ (by lia) (eV _) ⟨⟨_,bV _ rfl,rfl,rfl⟩,(CF.push _)⟩ (λb o e=>zT b o (EI b o e)) ?hS0 ?hR
    case hun=>show A.units+1+1+1 < iK;lia
    case hwr=>
     intro b hb;rw[aY.mp hb,FP];exact WH _ (uJ _)
    case hS0=>
     exact Mz _ _ _ _ (aJ _ hS)
    case hR=>
     intro s' hm hK EY;obtain⟨h',g',d',tk',OL⟩:=s';have eg:g'=s.gens:=hm.gens;have ed:d'=s.drawn:=hm.drawn;have eo:OL=s.os:=hm.os;subst eg;subst ed;subst eo;show aM _ _ _ _ _ _;refine wpAny_pure ?_;show aM _ _ (ret gP) _ _ _;exact wpAny_pure ⟨rfl,h',tk',rfl,EY,λb o e=>hm.heap b o (λhb=>by
       rcases aU.mp hb with z | z
       · rw[z]at e;exact absurd (aZ e) (jH _)
       · rw[aY.mp z,FP]at e;exact absurd (aZ e) (Nat.not_lt.mpr (uJ _))) (zT b o e)⟩
   ·cases r₂ with
    |error e=>exact EJ
    |ok fl₂=>
     cases fl₂ with
     |ret r=>
      obtain⟨rfl,h',tk,rfl,EY,BZ⟩:=EJ
      repeat (any_goals (first | assumption | wp_step))
      exact h _ _ EY BZ
     |_=>exact EJ.elim
  |_=>exact hr.elim
end
end TupG
namespace TupSet
open SetTable PyProof.Rows PySem.W
structure Ord (lt:Nat->Nat->Bool):Prop where
 asym:∀i j,lt i j=true->lt j i=false
 tr:∀i j k,lt j i=false->lt k j=false->lt k i=false
def Up (lt:Nat->Nat->Bool)(p:Array Nat)(m:Nat):Prop:=∀a b,a < b->b < m->lt (p.getD b 0) (p.getD a 0)=false
def Dn (lt:Nat->Nat->Bool)(p:Array Nat)(m:Nat):Prop:=∀a b,a < b->b < m->lt (p.getD a 0) (p.getD b 0)=false
def Sm (lt:Nat->Nat->Bool)(p:Array Nat)(i j:Nat):Prop:=∀a b,i<=a->a < j->i<=b->b < j->lt (p.getD a 0) (p.getD b 0)=false
theorem jp {α β:Type}{lt:Nat->Nat->Bool}{f:α->KasT β}:∀(t:KasT α),cj lt (t.bind f)=cj lt (f (cj lt t))
 | .ret a=>rfl
 | .ask i j k=>jp (k (lt i j))
section
variable {lt:Nat->Nat->Bool}
theorem Ord.irr (O:Ord lt)(i:Nat):lt i i=false:=by
 cases h:lt i i with
 |false=>rfl
 |true=>rw[O.asym _ _ h]at h;cases h
theorem Ord.eqv (O:Ord lt){u v:Nat}(h1:lt u v=false)(h2:lt v u=false)(x:Nat):lt x u=lt x v/\lt u x=lt v x:=by
 constructor
 ·cases h:lt x v with
  |false=>exact O.tr u v x h2 h
  |true=>
   cases h':lt x u with
   |true=>rfl
   |false=>rw[O.tr v u x h1 h']at h;cases h
 ·cases h:lt v x with
  |false=>exact O.tr x v u h h1
  |true=>
   cases h':lt u x with
   |true=>rfl
   |false=>rw[O.tr x u v h' h2]at h;cases h
theorem Up.succ (O:Ord lt){p:Array Nat}{n:Nat}(h:Up lt p n)(h1:1<=n)(e:lt (p.getD n 0) (p.getD (n - 1) 0)=false):Up lt p (n+1):=by
 intro a b BG hb;by_cases RL:b < n
 ·exact h a b BG RL
 ·have:b=n:=(by lia);subst this;by_cases ha:a=b - 1
  ·subst ha;exact e
  ·exact O.tr _ _ _ (h a (b - 1) (by lia) (by lia)) e
theorem Dn.succ (O:Ord lt){p:Array Nat}{n:Nat}(h:Dn lt p n)(h1:1<=n)(e:lt (p.getD (n - 1) 0) (p.getD n 0)=false):Dn lt p (n+1):=by
 intro a b BG hb;by_cases RL:b < n
 ·exact h a b BG RL
 ·have:b=n:=(by lia);subst this;by_cases ha:a=b - 1
  ·subst ha;exact e
  ·exact O.tr _ _ _ e (h a (b - 1) (by lia) (by lia))
theorem Up.le {p:Array Nat}{n m:Nat}(h:Up lt p n)(hm:m<=n):Up lt p m:=λa b BG hb=>h a b BG (by lia)
theorem Et (O:Ord lt)(p:Array Nat):∀(f n:Nat),1<=n->Up lt p n->n<=cj lt (rN p f n)/\cj lt (rN p f n)<=n+f/\Up lt p (cj lt (rN p f n))/\
  (cj lt (rN p f n) < n+f->lt (p.getD (cj lt (rN p f n)) 0) (p.getD (cj lt (rN p f n) - 1) 0)=true)
 |0,n,_,h=>⟨aN _,aN _,h,λz=>absurd z (jH _)⟩
 |f+1,n,h1,h=>by
  have e:cj lt (rN p (f+1) n)=cj lt (if lt (p.getD n 0) (p.getD (n - 1) 0)=true then .ret n else rN p f (n+1)):=rfl
  rw[e];cases hc:lt (p.getD n 0) (p.getD (n - 1) 0)with
  |true=>
   rw[if_pos rfl];exact⟨aN _,by show n<=_;lia,h,λ_=>hc⟩
  |false=>
   rw[if_neg bZ];obtain⟨a,b,c,d⟩:=Et O p f (n+1) (by lia) (h.succ O h1 hc);exact⟨by lia,by lia,c,λz=>d (by lia)⟩
theorem xy {p:Array Nat}{i j:Nat}(hj:j<=p.size)(k:Nat):(lP p i j).getD k 0=if i<=k/\k < j then p.getD (i+j - 1 - k) 0 else p.getD k 0:=by
 rw[eP];unfold lP;rw[getElem?_mirror_all hj]
 split
 ·rw[eP]
 ·rw[eP]
theorem Eu {p:Array Nat}{k l:Nat}(hk:k < p.size)(hl:l<=k)(i:Nat):(yY p k (k - l)).getD i 0=if i=l then p.getD k 0 else if l < i/\i<=k then p.getD (i - 1) 0 else p.getD i 0:=by
 simp only[eP];rw[getElem?_bubble hk _ (by lia),show k - (k - l)=l by lia];by_cases h:i=l
 ·rw[if_pos h,if_pos h]
 ·rw[if_neg h,if_neg h];by_cases h2:l < i/\i<=k
  ·rw[if_pos h2,if_pos h2]
  ·rw[if_neg h2,if_neg h2]
theorem xz (O:Ord lt){p:Array Nat}{i j:Nat}(hj:j<=p.size)(S:Sm lt p i j)(k x:Nat):lt x ((lP p i j).getD k 0)=lt x (p.getD k 0)/\lt ((lP p i j).getD k 0) x=lt (p.getD k 0) x:=by
 rw[xy hj]
 split
 ·next h=>exact O.eqv (S _ _ (by lia) (by lia) h.1 h.2) (S _ _ h.1 h.2 (by lia) (by lia)) x
 ·exact⟨rfl,rfl⟩
theorem qe {p p':Array Nat}(h:∀k x,lt x (p'.getD k 0)=lt x (p.getD k 0)/\lt (p'.getD k 0) x=lt (p.getD k 0) x)(a b:Nat):lt (p'.getD a 0) (p'.getD b 0)=lt (p.getD a 0) (p.getD b 0):=by
 rw[(h b _).1,(h a _).2]
structure V5 (lt:Nat->Nat->Bool)(p:Array Nat)(n f:Nat)(r:Array Nat×Nat×Nat):Prop where
 perm:r.1.Perm p
 lo:n<=r.2.1
 hi:r.2.1<=n+f
 q:r.2.2+1<=r.2.1
 dn:Dn lt r.1 r.2.1
 sm:Sm lt r.1 (r.2.1 - (r.2.2+1)) r.2.1
theorem vq (O:Ord lt):∀(f:Nat)(p:Array Nat) (n q:Nat),n+f<=p.size->q+1<=n->Dn lt p n->Sm lt p (n - (q+1)) n->V5 lt p n f (cj lt (pI f p n q))
 |0,p,n,q,_,hq,d,s=>⟨.rfl,aN _,aN _,hq,d,s⟩
 |f+1,p,n,q,hs,hq,d,s=>by
  have e:cj lt (pI (f+1) p n q)=cj lt (if lt (p.getD n 0) (p.getD (n - 1) 0)=true then (if q > 0 then pI f (lP p (n - (q+1)) n) (n+1) 0 else pI f p (n+1) 0)else .ask (p.getD (n - 1) 0) (p.getD n 0) λd=>if d=true then .ret (p,n,q)else pI f p (n+1) (q+1)):=rfl
  rw[e];cases hc:lt (p.getD n 0) (p.getD (n - 1) 0)with
  |true=>
   rw[if_pos rfl];have hd:=O.asym _ _ hc;have one:∀(p:Array Nat),Sm lt p (n+1 - (0+1)) (n+1):=λp a b h1 h2 h3 h4=>by
    rw[show a=b by lia];exact O.irr _
   by_cases q0:q > 0
   ·rw[if_pos q0];have sz:(lP p (n - (q+1)) n).size=p.size:=xZ _ _;have sm:=xz O (by lia) s;have d':Dn lt (lP p (n - (q+1)) n) n:=λa b h1 h2=>(by rw[qe sm];exact d a b h1 h2);have x:=vq O f (lP p (n - (q+1)) n) (n+1) 0 (by lia) (by lia) (d'.succ O (by lia) (by rw[qe sm];exact hd)) (one _);exact⟨x.perm.trans (uN _ _ _ _),by have:=x.lo;lia,by have:=x.hi;lia,x.q,x.dn,x.sm⟩
   ·rw[if_neg q0];have x:=vq O f p (n+1) 0 (by lia) (by lia) (d.succ O (by lia) hd) (one _);exact⟨x.perm,by have:=x.lo;lia,by have:=x.hi;lia,x.q,x.dn,x.sm⟩
  |false=>
   rw[if_neg bZ];have e2:cj lt (.ask (p.getD (n - 1) 0) (p.getD n 0) λd=>if d=true then .ret (p,n,q)else pI f p (n+1) (q+1))=cj lt (if lt (p.getD (n - 1) 0) (p.getD n 0)=true then .ret (p,n,q)else pI f p (n+1) (q+1)):=rfl
   rw[e2];cases hd:lt (p.getD (n - 1) 0) (p.getD n 0)with
   |true=>
    rw[if_pos rfl];exact⟨.rfl,aN _,by show n<=_;lia,hq,d,s⟩
   |false=>
    rw[if_neg bZ];have x:=vq O f p (n+1) (q+1) (by lia) (by lia) (d.succ O (by lia) hd) (λa b h1 h2 h3 h4=>?_)
    ·exact⟨x.perm,by have:=x.lo;lia,by have:=x.hi;lia,x.q,x.dn,x.sm⟩
    ·by_cases ha:a=n
     ·by_cases hb:b=n
      ·rw[ha,hb];exact O.irr _
      ·rw[ha];exact O.tr _ _ _ (s (n - 1) b (by lia) (by lia) (by lia) (by lia)) hc
     ·by_cases hb:b=n
      ·rw[hb];exact O.tr _ _ _ hd (s a (n - 1) (by lia) (by lia) (by lia) (by lia))
      ·exact s a b (by lia) (by lia) (by lia) (by lia)
structure Kh (lt:Nat->Nat->Bool)(p:Array Nat)(r:Nat×Array Nat):Prop where
 perm:r.2.Perm p
 lo:1<=r.1
 hi:r.1<=p.size
 up:Up lt r.2 r.1
theorem Ev (O:Ord lt){p:Array Nat}{n:Nat}(h1:1<=n)(hn:n<=p.size)(d:Dn lt p n):Kh lt p (cj lt (yA n p.size p)):=by
 have up:Up lt (lP p 0 n) n:=λa b BG hb=>by
  rw[xy hn,xy hn,if_pos ⟨eV _,hb⟩,if_pos ⟨eV _,by lia⟩];exact d _ _ (by lia) (by lia)
 obtain⟨a,b,c,_⟩:=Et O (lP p 0 n) (p.size - n) n h1 up;unfold yA;rw[jp];exact⟨uN _ _ _ _,by show 1<=cj lt _;lia,by show cj lt _<=_;lia,c⟩
theorem wo (O:Ord lt){p:Array Nat}{n:Nat}(h1:1<=n)(hn:n < p.size)(d:Dn lt p n)(hd:lt (p.getD n 0) (p.getD (n - 1) 0)=true):Kh lt p (cj lt (tV n p.size p)):=by
 have x:=vq O (p.size - (n+1)) p (n+1) 0 (by lia) (by lia) (d.succ O h1 (O.asym _ _ hd)) (λa b h1 h2 h3 h4=>by rw[show a=b by lia];exact O.irr _);unfold tV;rw[jp];generalize cj lt (pI (p.size - (n+1)) p (n+1) 0)=r at x;have lo:=x.lo;have hi:=x.hi;have sz:r.1.size=p.size:=x.perm.size_eq
 split
 ·have sm:=xz O (by lia) x.sm;have sz2:(lP r.1 (r.2.1 - (r.2.2+1)) r.2.1).size=p.size:=(by rw[xZ,sz]);have y:=Ev O (p:=lP r.1 (r.2.1 - (r.2.2+1)) r.2.1) (n:=r.2.1) (by lia) (by lia) (λa b h1 h2=>by rw[qe sm];exact x.dn a b h1 h2);rw[sz2]at y;exact⟨(y.perm.trans (uN _ _ _ _)).trans x.perm,y.lo,by have:=y.hi;lia,y.up⟩
 ·have y:=Ev O (p:=r.1) (n:=r.2.1) (by lia) (by lia) x.dn;rw[sz]at y;exact⟨y.perm.trans x.perm,y.lo,by have:=y.hi;lia,y.up⟩
theorem P2 (O:Ord lt){p:Array Nat}(h1:1<=p.size):Kh lt p (cj lt (yB p.size p)):=by
 obtain⟨a,b,c,d⟩:=Et O p (p.size - 1) 1 (aN _) (λa b h1 h2=>by lia);unfold yB;rw[jp];generalize cj lt (rN p (p.size - 1) 1)=n at a b c d;by_cases e:n=p.size
 ·rw[if_pos (by simp[e])];exact⟨.rfl,a,by show n<=_;lia,c⟩
 rw[if_neg (by simpa using e)];have hd:=d (by lia);by_cases n1:n > 1
 ·rw[if_pos n1];have e2:cj lt (.ask (p.getD 0 0) (p.getD (n - 1) 0) λc=>if c=true then .ret (n,p)else tV n p.size (lP p 0 n))=cj lt (if lt (p.getD 0 0) (p.getD (n - 1) 0)=true then .ret (n,p)else tV n p.size (lP p 0 n)):=rfl
  rw[e2];cases h0:lt (p.getD 0 0) (p.getD (n - 1) 0)with
  |true=>
   rw[if_pos rfl];exact⟨.rfl,a,by show n<=_;lia,c⟩
  |false=>
   rw[if_neg bZ];have WL:∀a b,a<=b->b < n->lt (p.getD b 0) (p.getD a 0)=false:=λa b h1 h2=>by
    by_cases e:a=b
    ·rw[e];exact O.irr _
    ·exact c a b (by lia) h2
   have s:Sm lt p 0 n:=λi j _ hi _ hj=>by
    exact O.tr _ _ _ (WL j (n - 1) (by lia) (by lia)) (O.tr _ _ _ h0 (WL 0 i (by lia) hi))
   have sm:=xz O (by lia) s;have sz:(lP p 0 n).size=p.size:=xZ _ _;have y:=wo O (p:=lP p 0 n) (n:=n) (by lia) (by lia) (λa b h1 h2=>by rw[qe sm];exact s a b (by lia) (by lia) (by lia) (by lia)) (by rw[qe sm];exact hd);rw[sz]at y;exact⟨y.perm.trans (uN _ _ _ _),y.lo,by have:=y.hi;lia,y.up⟩
 ·rw[if_neg n1];have e1:n=1:=(by lia);subst e1;exact wo O (aN _) (by lia) (λa b h1 h2=>by lia) hd
theorem x4 (O:Ord lt){p:Array Nat}{k:Nat}(u:Up lt p k):∀(f l r:Nat),r - l<=f->l<=r->r<=k->(∀a,a < l->lt (p.getD k 0) (p.getD a 0)=false)->(∀a,r<=a->a < k->lt (p.getD k 0) (p.getD a 0)=true)->
  ∃m,cj lt (pN p k f l r)=m/\m<=k/\(∀a,a < m->lt (p.getD k 0) (p.getD a 0)=false)/\(∀a,m<=a->a < k->lt (p.getD k 0) (p.getD a 0)=true)
 |0,l,r,hf,hlr,hr,h1,h2=>⟨l,rfl,by lia,h1,λa ha=>h2 a (by lia)⟩
 |f+1,l,r,hf,hlr,hr,h1,h2=>by
  by_cases hl:l>=r
  ·refine⟨l,?_,by lia,h1,λa ha=>h2 a (by lia)⟩;unfold pN;rw[if_pos hl];rfl
  ·have e:cj lt (pN p k (f+1) l r)=cj lt (if lt (p.getD k 0) (p.getD ((l+r) / 2) 0)=true then pN p k f l ((l+r) / 2)else pN p k f ((l+r) / 2+1) r):=by
    conv=>lhs;unfold pN
    rw[if_neg hl];rfl
   rw[e];cases hc:lt (p.getD k 0) (p.getD ((l+r) / 2) 0)with
   |true=>
    rw[if_pos rfl];refine x4 O u f l ((l+r) / 2) (by lia) (by lia) (by lia) h1 (λa ha hk=>?_);by_cases e:a=(l+r) / 2
    ·rw[e];exact hc
    ·cases h:lt (p.getD k 0) (p.getD a 0)with
     |true=>rfl
     |false=>
      rw[O.tr _ _ _ (u ((l+r) / 2) a (by lia) hk) h]at hc;cases hc
   |false=>
    rw[if_neg bZ];refine x4 O u f ((l+r) / 2+1) r (by lia) (by lia) hr (λa ha=>?_) h2;by_cases e:a=(l+r) / 2
    ·rw[e];exact hc
    ·exact O.tr _ _ _ (u a ((l+r) / 2) (by lia) (by lia)) hc
theorem V6 (O:Ord lt){p:Array Nat}{k m:Nat}(hk:k < p.size)(hm:m<=k)(u:Up lt p k)(h1:∀a,a < m->lt (p.getD k 0) (p.getD a 0)=false)(h2:∀a,m<=a->a < k->lt (p.getD k 0) (p.getD a 0)=true) :
  Up lt (yY p k (k - m)) (k+1):=by
 intro a b BG hb;rw[Eu hk hm,Eu hk hm];by_cases eb:b=m
 ·rw[if_pos eb,if_neg (by lia),if_neg (by lia)];exact h1 a (by lia)
 ·rw[if_neg eb];by_cases ea:a=m
  ·rw[if_pos ea,if_pos (by lia)];exact O.asym _ _ (h2 (b - 1) (by lia) (by lia))
  ·rw[if_neg ea];by_cases h3:m < b/\b<=k
   ·rw[if_pos h3];by_cases h4:m < a/\a<=k
    ·rw[if_pos h4];exact u _ _ (by lia) (by lia)
    ·rw[if_neg h4];exact u _ _ (by lia) (by lia)
   ·rw[if_neg h3,if_neg (by lia)];exact u _ _ BG (by lia)
theorem M0 (O:Ord lt):∀(f:Nat)(p:Array Nat) (k:Nat),k+f=p.size->Up lt p k->Up lt (cj lt (wV f p k)) p.size/\(cj lt (wV f p k)).Perm p
 |0,p,k,h,u=>⟨by rw[<-h];exact u,.rfl⟩
 |f+1,p,k,h,u=>by
  obtain⟨m,e,hm,h1,h2⟩:=x4 O u k 0 k (by lia) (eV _) (aN _) (λa ha=>absurd ha (nR _)) (λa ha hk=>absurd ha (by lia));have e2:cj lt (wV (f+1) p k)=cj lt (wV f (yY p k (k - m)) (k+1)):=by
   show cj lt ((pN p k k 0 k).bind λl=>wV f (yY p k (k - l)) (k+1))=_;rw[jp,e]
  obtain⟨x,y⟩:=M0 O f (yY p k (k - m)) (k+1) (by rw[bubble_size];lia) (V6 O (by lia) hm u h1 h2);rw[e2];rw[bubble_size]at x;exact⟨x,y.trans (bubble_perm _ _ _)⟩
theorem Tp (O:Ord lt){n:Nat}(h1:1<=n):Up lt (cj lt (oM n)) n/\(cj lt (oM n)).toList.Perm (eE n):=by
 have sz:(eE n).toArray.size=n:=(by simp);have c:=P2 O (p:=(eE n).toArray) (by lia);rw[sz]at c;unfold oM;rw[jp];generalize cj lt (yB n (eE n).toArray)=r at c;have hi:=c.hi;have lo:=c.lo;have s2:r.2.size=n:=(by rw[c.perm.size_eq,sz]);by_cases h:r.1 < n
 ·rw[if_pos h];obtain⟨x,y⟩:=M0 O (n - max r.1 1) r.2 (max r.1 1) (by lia) (c.up.le (by lia));rw[s2]at x;exact⟨x,by have:=(y.trans c.perm).toList;simpa using this⟩
 ·rw[if_neg h];have e:r.1=n:=(by lia);exact⟨by show Up lt r.2 n;rw[<-e];exact c.up,by have:=c.perm.toList;show r.2.toList.Perm _;simpa using this⟩
end
def AskQ {α:Type}(n:Nat)(P:α->Prop):KasT α->Prop
 | .ret a=>P a
 | .ask i j k=>i < n/\j < n/\∀b,AskQ n P (k b)
theorem AskQ.bind {α β:Type}{n:Nat}{P:α->Prop}{Q:β->Prop}{f:α->KasT β}(hf:∀a,P a->AskQ n Q (f a)):∀(t:KasT α),AskQ n P t->AskQ n Q (t.bind f)
 | .ret a,h=>hf a h
 | .ask i j k,h=>⟨h.1,h.2.1,λb=>AskQ.bind hf (k b) (h.2.2 b)⟩
theorem AskQ.asks {α:Type}{n:Nat}{P:α->Prop}:∀(t:KasT α),AskQ n P t->ko n t=true
 | .ret a,_=>rfl
 | .ask i j k,h=>by
  simp only[ko,hZ,decide_eq_true_eq];exact⟨⟨⟨h.1,h.2.1⟩,AskQ.asks _ (h.2.2 true)⟩,AskQ.asks _ (h.2.2 false)⟩
def Alln (n:Nat)(p:Array Nat):Prop:=0 < n/\∀x∈p.toList,x < n
theorem Alln.at {n:Nat}{p:Array Nat}(h:Alln n p)(i:Nat):p.getD i 0 < n:=by
 rw[eP];cases e:p[i]? with
 |none=>exact h.1
 |some x=>exact h.2 x (by rw[<-dZ]at e;exact bK e)
theorem Alln.perm {n:Nat}{p q:Array Nat}(h:Alln n p)(e:q.Perm p):Alln n q:=⟨h.1,λx hx=>h.2 x (e.toList.mem_iff.mp hx)⟩
theorem Alln.rev {n:Nat}{p:Array Nat}(h:Alln n p)(i j:Nat):Alln n (lP p i j):=h.perm (uN _ _ _ _)
section
variable {n:Nat}
theorem A9 {p:Array Nat}(h:Alln n p):∀f m,AskQ n (λ_=>True) (rN p f m)
 |0,m=>trivial
 |f+1,m=>⟨h.at _,h.at _,λb=>by cases b;exact A9 h f (m+1);exact trivial⟩
theorem rq:∀(f:Nat) {p:Array Nat}(h:Alln n p) (m q:Nat),AskQ n (λr=>Alln n r.1) (pI f p m q)
 |0,p,h,m,q=>h
 |f+1,p,h,m,q=>⟨h.at _,h.at _,λb=>by
     cases b
     · exact⟨h.at _,h.at _,λb=>by cases b;exact rq f h (m+1) (q+1);exact h⟩
     · show AskQ n _ (if q > 0 then pI f (lP p (m - (q+1)) m) (m+1) 0 else pI f p (m+1) 0)
       split
       · exact rq f (h.rev _ _) (m+1) 0
       · exact rq f h (m+1) 0⟩
theorem B4 {p:Array Nat}(h:Alln n p)(m r:Nat):AskQ n (λr=>Alln n r.2) (yA m r p):=by
 unfold yA;refine AskQ.bind (P:=λ_=>True) (λa _=>?_) _ (A9 (h.rev _ _) _ _);exact h.rev 0 m
theorem uz {p:Array Nat}(h:Alln n p)(m r:Nat):AskQ n (λr=>Alln n r.2) (tV m r p):=AskQ.bind (λa ha=>by
  show AskQ n _ (if a.2.2 > 0 then _ else _)
  split
  · exact B4 (ha.rev _ _) _ _
  · exact B4 ha _ _) _ (rq _ h _ _)
theorem M2 {p:Array Nat}(h:Alln n p)(r:Nat):AskQ n (λr=>Alln n r.2) (yB r p):=AskQ.bind (λm _=>by
  show AskQ n _ (if (m == r)=true then _ else _)
  split
  · exact h
  · split
    · exact⟨h.at _,h.at _,λb=>by cases b;exact uz (h.rev _ _) _ _;exact h⟩
    · exact uz h _ _) _ (A9 h _ _)
theorem u6 {p:Array Nat}(h:Alln n p)(k:Nat):∀f l r,AskQ n (λ_=>True) (pN p k f l r)
 |0,l,r=>trivial
 |f+1,l,r=>by
  unfold pN
  split
  ·trivial
  ·exact⟨h.at _,h.at _,λb=>by cases b;exact u6 h k f _ _;exact u6 h k f _ _⟩
theorem Gy:∀(f:Nat) {p:Array Nat}(h:Alln n p) (k:Nat),AskQ n (λr=>Alln n r) (wV f p k)
 |0,p,h,k=>h
 |f+1,p,h,k=>AskQ.bind (λl _=>Gy f (h.perm (bubble_perm _ _ _)) (k+1)) _ (u6 h k k 0 k)
theorem P3 (h:0 < n):ko n (oM n)=true:=by
 have a:Alln n (eE n).toArray:=⟨h,λx hx=>by simpa using hx⟩;refine AskQ.asks (P:=λr=>Alln n r) _ (AskQ.bind (λr hr=>?_) _ (M2 a n));show AskQ n _ (if r.1 < n then _ else _)
 split
 ·exact Gy _ hr _
 ·exact hr
end
end TupSet
namespace TupSet
open SetTable PyProof.Rows PySem.W
theorem Tq (xs:List (List Int)):Ord (ltX xs) where
 asym _ _ h:=lex_asymm h
 tr i j k h1 h2:=B1 (x:=xs.getD i []) (y:=xs.getD j []) (z:=xs.getD k []) h1 h2
theorem P4 (xs:List (List Int)):(eE xs.length).map (λi=>xs.getD i [])=xs:=by
 apply rX;intro i;rw[cY];by_cases h:i < xs.length
 ·rw[oO h];simp[gI,aK h]
 ·rw[jV (by simpa using h),jV (by lia)];rfl
theorem Xk {xs:List (List Int)}(h1:1<=xs.length) :
  ko xs.length (oM xs.length)=true/\(cj (ltX xs) (oM xs.length)).toList.map (λi=>xs.getD i [])=isort xs/\∀i∈(cj (ltX xs) (oM xs.length)).toList,i < xs.length:=by
 obtain⟨u,p⟩:=Tp (Tq xs) h1;refine⟨P3 h1,isort_of ?_ ?_,λi hi=>by simpa using p.mem_iff.mp hi⟩
 ·have:=p.map (λi=>xs.getD i []);rw[P4]at this;exact this
 ·have hl:(cj (ltX xs) (oM xs.length)).size=xs.length:=(by rw[<-gA,p.length_eq,gR]);generalize cj (ltX xs) (oM xs.length)=q at u hl;rw[SortedT,List.pairwise_map,List.pairwise_iff_getElem];intro i j hi hj VD;have e:∀k (hk:k < q.toList.length),q.toList[k]=q.getD k 0:=λk hk=>by
   rw[eP,<-dZ,aK hk];rfl
  rw[e,e];exact u i j VD (by rw[gA,hl]at hj;exact hj)
section
variable {prog:aP}{w:aW}{A:cQ}{E:aB->aG->Prop}{s:aG}
theorem Ew {a:Addr}{vs:List aB}{n:Nat}{xs:List (List Int)}{g:Heap}{P:PySem.Fin->aG->Prop}(ho:s.heap.get? a=some (iN "list" vs.toArray n))(hG:KeysL prog w g vs xs)(kg:∀x c,eQ (eF prog w) g x c->eQ (eF prog w) s.heap x c)(zO:∀x∈xs,x≠[])(h3:xs.length < 64)
  (h:∀h' out c,(∀b o,b≠a->s.heap.get? b=some o->h'.get? b=some o)->h'.get? a=some (iN "list" (jE out) c)->KeysL prog w g out (isort xs)->P (.done (.ret .none)) { s with heap:=h' }) :
  aM (aX prog w) A (iW.«list.sort» ⟨[.ref a],[]⟩) P E s:=by
 have hK:KeysL prog w s.heap vs xs:=hG.imp kg;have zJ:=hK.length;have halt:a < s.heap.objs.size:=aZ ho;have s1:=iY s.heap a (iR λ_=>(#[]:Array aB));obtain⟨e1,MA⟩:∃e1,(s.heap.update a (iR λ_=>(#[]:Array aB))).get? a=some (iN "list" #[] e1):=⟨_,get?_update_seq ho λ_=>#[]⟩;have KD:(((s.heap.update a (iR λ_=>(#[]:Array aB))).push (iN "tuple" vs.toArray 0)).push (iN "list" #[] 0)).get? a=some (iN "list" #[] e1):=
  aJ _ (aJ _ MA)
 have kp:∀b o,b≠a->s.heap.get? b=some o->(((s.heap.update a (iR λ_=>(#[]:Array aB))).push (iN "tuple" vs.toArray 0)).push (iN "list" #[] 0)).get? b=some o:=λb o hb e=>
  aJ _ (aJ _ (by rw[s1.2 b hb];exact e))
 generalize hH:((s.heap.update a (iR λ_=>(#[]:Array aB))).push (iN "tuple" vs.toArray 0)).push (iN "list" #[] 0)=H at KD kp;have RM:KeysL prog w H vs xs:=hK.imp λx c k=>Ke k ho kp;have zL:∀(out:List aB),out.length=vs.length->KeysL prog w g out (isort xs)->∃c2,(H.update a (iR λ_=>jE out)).get? a=some (iN "list" (jE out) c2)/\P (.done (.ret .none)) { s with heap:=H.update a (iR λ_=>jE out) }:=λout HM DG=>by
  have s2:=iY H a (iR λ_=>jE out);obtain⟨c2,DV⟩:∃c2,(H.update a (iR λ_=>jE out)).get? a=some (iN "list" (jE out) c2):=⟨_,get?_update_seq KD λ_=>jE out⟩;have kk:∀b o,b≠a->H.get? b=some o->(H.update a (iR λ_=>jE out)).get? b=some o:=λb o hb e=>(by rw[s2.2 b hb];exact e);exact⟨c2,DV,h _ out c2 (λb o hb e=>kk b o hb (kp b o hb e)) DV DG⟩
 have h4:vs.length < 64:=(by lia);rw[list_sort_plain];refine aA (listItems_at ho rfl ?_);refine aA (xH ho rfl ?_ (by rw[aS,gS];lia) (eV _));refine aA (yJ MA rfl ?_);refine aA (uH ?_ (by show vs.length<=_;rw[gS];lia));refine aA (uY ?_ (eV _));refine gH ?_;show aM (aX prog w) A _ P E { s with heap:=((s.heap.update a (iR λ_=>(#[]:Array aB))).push (iN "tuple" vs.toArray 0)).push (iN "list" #[] 0) };rw[hH];dsimp only;by_cases h2:2<=vs.length
 ·have DU:¬vs.toArray.size < 2:=(by rw[aS];lia);rw[if_neg DU,if_neg DU];obtain⟨fs,hf1,hf2,hf3⟩:=RM.firsts zO;refine aA (kat_kind (s:={ s with heap:=H }) (T:=.type "int") hf1 (by lia) (λv hv=>by obtain⟨k,t,rfl⟩:=hf3 v hv;exact .now) (by decide) ?_);obtain⟨q1,q2,q3⟩:=Xk (xs:=xs) (by lia);refine aA (iD (kat_run (s:={ s with heap:=H }) (ks:=vs) (vs:=vs) (Q:=λBT s'=>s'={ s with heap:=H }/\failedOf BT=none/\(arrOf BT).map (·.2)=jE ((cj (ltX xs) (oM xs.length)).toList.map λi=>vs.getD i gP)) (G:=λp s'=>s'={ s with heap:=H }/\p=cj (ltX xs) (oM xs.length)) rfl h2 (by lia) (λp BT s' a1 a2 a3 a4=>⟨a4.1,a3,by rw[kat_snds rfl a2,a4.2]⟩) ?_) ?_ λ_ _ e=>e)
  ·rw[zJ];refine Gu (n:=xs.length) (lt:=ltX xs) (λi j C hi hj hC=>?_) _ q1 ⟨rfl,rfl⟩;obtain⟨c,ec,kc⟩:=RM.at hi;obtain⟨d,ed,kd⟩:=RM.at hj;unfold kas_ask;rw[ec,ed];exact V2 (s:={ s with heap:=H }) kc kd hC
  ·intro zE s' CT;obtain⟨⟨⟩,BT⟩:=zE;obtain⟨rfl,hfail,hout⟩:=CT;dsimp only;rw[hout];have DG:=hG.pick _ q3;rw[q2]at DG;have HM:((cj (ltX xs) (oM xs.length)).toList.map λi=>vs.getD i gP).length=vs.length:=by
    rw[DG.length,(isort_perm xs).length_eq,zJ]
   obtain⟨c2,DV,hP⟩:=zL _ HM DG;refine aA (yJ KD rfl ?_);refine aA (xH (s:={ s with heap:=H }) KD rfl ?_ (eV _) (by rw[aS,HM,gS];lia));rw[hfail];simp only[bne_self_eq_false,cZ,if_false];exact wpAny_pure hP
 ·have DU:vs.toArray.size < 2:=(by rw[aS];lia);rw[if_pos DU,if_pos DU];have JE:isort xs=xs:=by
   match xs,zJ with
   | [],_=>rfl
   | [x],_=>rfl
   |_::_::_,e=>simp at e;lia
  obtain⟨c2,DV,hP⟩:=zL vs rfl (by rw[JE];exact hG);refine aA (wpAny_pure ?_);refine aA (wpAny_pure ?_);dsimp only;have hz:Array.map (λx=>x.snd) (arrOf (SortSt.mk' general' (vs.toArray.zip vs.toArray) #[] 7 none))=jE vs:=by
   show Array.map (λx=>x.snd) (vs.toArray.zip vs.toArray)=_;apply Array.toList_inj.mp;rw[Array.toList_map,Array.toList_zip];exact List.map_snd_zip (aN _)
  rw[hz];refine aA (yJ KD rfl ?_);refine aA (xH (s:={ s with heap:=H }) KD rfl ?_ (eV _) (by rw[aS,gS];lia));simp only[bne_self_eq_false,cZ,if_false];exact wpAny_pure hP
end
end TupSet
namespace TupG
open SetTable TupSet PyProof.Rows PySem.W
theorem Fk {xs:Array Nat}(hr:RiseA xs){i v:Nat}(hi:xs[i]?=some v):below xs (v+1)=i+1:=by
 have hl:=xo xs (v+1);have h1:i < below xs (v+1):=by
  by_cases h:below xs (v+1)<=i
  ·have:=(ic hr (v+1) hi).2 h;lia
  ·lia
 by_cases h:below xs (v+1)=i+1
 ·exact h
 ·have e:xs[i+1]?=some (xs[i+1]'(by lia)):=dX (by lia);have h2:=(ic hr (v+1) e).1 (by lia);have h3:=hr.lt hi e (by lia);lia
theorem Fl {xs:Array Nat}(hr:RiseA xs):below xs 0=0:=by
 have hl:=xo xs 0;by_cases h:below xs 0=0
 ·exact h
 ·have e:xs[0]?=some (xs[0]'(by lia)):=dX (by lia);have:=(ic hr 0 e).1 (by lia);lia
section
variable {prog:aP}{w:aW}{A:cQ}{E:aB->aG->Prop}{s:aG}
theorem Ab {S:Addr}{o:Obj}{es:Array (Int×aB)}{ep slot i:Nat}{t:eK}{Q:Option (aB×Nat)->aG->Prop}
  (ho:s.heap.get? S=some o) (hd:o.data=.set es ep t) (Sm:Tb t es.size) (hn:es.size<=t.mask) (BI:w.params.followText "set-order"=false->t.led=true)
  (MB:w.params.followText "set-order"=false->below t.place slot=i)
  (h:∀nx,(w.params.followText "set-order"=false->i < es.size->below t.place nx=i+1)->Q (((e8 w S ep es)[i]?).map λv=>(v,nx)) s) :
  aM (aX prog w) A (setNext S slot i ep) Q E s:=by
 have AK:t.fits es.size=true:=rj Sm hn;unfold setNext;refine aA (jQ ho hd AK ?_);dsimp only;unfold yZ;refine aA (aA (qA (wpAny_pure ?_)));cases hf:w.params.followText "set-order" with
 |true=>
  rw[show((aX prog w).w.params.followText "set-order")=true from hf];simp only[if_true];rw[if_neg (by simp)];unfold setWalk;refine aA (aA (jQ ho hd AK ?_));dsimp only;unfold yZ;refine aA (aA (qA (wpAny_pure ?_)));rw[show((aX prog w).w.params.followText "set-order")=true from hf];simp only[if_true];refine aA (qA (wpAny_pure (wpAny_pure ?_)));have:=h slot (λe=>by rw[hf]at e;exact nomatch e);have hw:e8 w S ep es=(xX (w.params.setOrder S ep) es).toList.map (·.2):=(by unfold e8;rw[if_pos hf]);rw[hw,cY,dZ,Option.map_map]at this;exact this
 |false=>
  rw[show((aX prog w).w.params.followText "set-order")=false from hf];simp only[cZ,if_false];refine ug (show(!t.plain && decide (es.size > 1))=false by rw[Sm.plain];rfl) ?_;refine aA ?_;show aM _ _ (ite ((!t.led && !es.isEmpty)=true) _ _) _ _ _;refine ug (by rw[BI hf];rfl) (wpAny_pure ?_);rw[MB hf];have hw:e8 w S ep es=es.toList.map (·.2):=(by unfold e8;rw[hf];rfl);by_cases hi:i < es.size
  ·have AL:i < t.place.size:=(by rw[Sm.size];exact hi);rw[dX hi,dX AL];have:=h (t.place[i]+1) (λ_ _=>Fk Sm.rise (dX AL));rw[hw,cY,dZ,dX hi]at this;exact wpAny_pure this
  ·have:=h 0 (λ_ h'=>absurd h' hi);rw[hw,cY,dZ,qH.mpr (by lia)]at this;rw[qH.mpr (by lia)];exact wpAny_pure this
structure lq (w:aW)(o:Obj)(es:Array (Int×aB))(ep:Nat)(t:eK):Prop where
 ex:o.ExactSet
 data:o.data=.set es ep t
 small:Tb t es.size
 fit:es.size<=t.mask
 n76:es.size<=76
 led:w.params.followText "set-order"=false->t.led=true
theorem Ex {I S:Addr}{o:Obj}{es:Array (Int×aB)}{ep i:Nat}{t:eK}{v:aB}{Q:Option aB->aG->Prop}
  (BY:IsSetIter w s.heap I S i es.size ep t) (ho:s.heap.get? S=some o) (D:lq w o es ep t) (hv:(e8 w S ep es)[i]?=some v)
  (hQ:∀h',IsSetIter w h' I S (i+1) es.size ep t->gG I s.heap h'->Q (some v) { s with heap:=h' }) :
  aM (aX prog w) A (lE (.ref I)) Q E s:=by
 have hT:=BY.typeIs;obtain⟨slot,oi,HQ,hc,FQ,MB⟩:=BY;have hi:i < es.size:=by
  rw[<-ln w S ep es];exact(aL.mp hv).1
 unfold lE;refine aA (nX (gC (name:=iC "__next__") hT gn (fV gn hT si ?_ (uf _))));show aM _ _ (fieldsOf (.ref I) >>= _) _ _ s;refine aA (wpAny_fieldsOf HQ FQ ?_);dsimp only;refine aA (tY ho D.data (rj D.small D.fit) ?_);refine ug (by simp) ?_;refine aA (Ab (i:=i) (slot:=slot) ho D.data D.small D.fit D.led MB λnx WM=>?_);rw[show((ep:Int)).toNat=ep from gE ep,hv];dsimp only[rK];refine aA (nB HQ FQ (by simp) ?_);have MA:=gY (oS λxs=>xs.setIfInBounds 0 (jF nx)) HQ (nN (iH FQ _));refine aA (nB MA (iH FQ _) (by simp) (wpAny_pure ⟨v,rfl,wpAny_pure (hQ _ ?_ ((iY ..).trans (iY ..)))⟩));refine⟨nx,_,gY _ MA (nN (iH (iH FQ _) _)),(rT ..).trans ((rT ..).trans hc),?_,λhf=>WM hf hi⟩;rw[iH (iH FQ _)];simp[jF]
theorem Fm {I S:Addr}{o:Obj}{es:Array (Int×aB)}{ep:Nat}{t:eK}{Q:Option aB->aG->Prop}(hh:A.handled=none)
  (BY:IsSetIter w s.heap I S es.size es.size ep t) (ho:s.heap.get? S=some o) (D:lq w o es ep t)
  (hQ:∀h',uK I s.heap h'->Q none { s with heap:=h' }) :
  aM (aX prog w) A (lE (.ref I)) Q E s:=by
 have hT:=BY.typeIs;obtain⟨slot,oi,HQ,hc,FQ,MB⟩:=BY;unfold lE;refine aA (nX (gC (name:=iC "__next__") hT gn (fV gn hT si ?_ (uf _))));show aM _ _ (fieldsOf (.ref I) >>= _) _ _ s;refine aA (wpAny_fieldsOf HQ FQ ?_);dsimp only;refine aA (tY ho D.data (rj D.small D.fit) ?_);refine ug (by simp) ?_;refine aA (Ab (i:=es.size) (slot:=slot) ho D.data D.small D.fit D.led MB λnx WM=>?_);rw[List.getElem?_eq_none_iff.mpr (by rw[ln];exact aN _)];dsimp only[rK];refine aA (nB HQ FQ (by simp) ?_);refine aA ?_;simp only[newExc,yK];refine aA (gJ ?_ (by size_fits));refine aA (m:=uE _ _) (yG (a:=gP) (by first | rfl | (simp only[uE];rfl)) ?_)
 refine gJ ?_ (by size_fits);simp only[raiseNew];refine aA (wpAny_handled ?_)
 first | rw[show A.in1.handled=none from hh] | rw[hh]
 refine aA (wpAny_pure (wpAny_throw ?_));refine aA (lJ (T:="StopIteration") (b:=true) ⟨_,bV _ rfl,rfl⟩ uI ?_);exact wpAny_pure (hQ _ (((iY ..).extBut.push _).push _))
theorem Tr {S:Addr}{o:Obj}{es:Array (Int×aB)}{ep:Nat}{t:eK}{Q:aB->aG->Prop}(ho:s.heap.get? S=some o)(D:lq w o es ep t)
  (hQ:Q (.ref s.heap.objs.size) { s with heap:=s.heap.push { cls:=.type "set_iterator",data:=.fields #[.int 0 0,.int 0 0,.ref S,.int es.size 0,.int ep 0] } }) :
  aM (aX prog w) A (yP (.ref S)) Q E s:=by
 have hT:s.TypeIs (.ref S) "set":=⟨o,ho,D.ex.1⟩;have AK:=rj D.small D.fit;refine wpAny_pyIter_slot hT F.slot_set_iter (fV F.slot_set_iter hT Ek ?_ (F.args_set_iter_1 _));show aM _ _ (Builtin.Frozenset.sizeOf S >>= _) _ _ s;unfold Builtin.Frozenset.sizeOf;refine aA (aA (tY ho D.data AK (wpAny_pure ?_)));unfold setDrawn;refine aA (aA (jQ ho D.data AK ?_));dsimp only;unfold yZ;refine aA (aA (qA (wpAny_pure (wpAny_pure ?_))));refine ug (show(!(w.params.followText "set-order") && (!t.plain && decide (es.size > 1)))=false by rw[D.small.plain];simp) ?_;refine aA (wpAny_pure ?_);refine aA (wpAny_setEpoch_of ho D.data AK ?_);refine aA (gJ (wpAny_pure ⟨_,rfl,"set_iterator",_,⟨_,bV _ rfl,rfl⟩,gn.lookup,hQ⟩))
theorem M4 (hh:A.handled=none){I S:Addr}(zO:S≠I){o:Obj}{es:Array (Int×aB)}{ep:Nat}{t:eK}(D:lq w o es ep t) :
  Walks prog w A I [I,S] [I] es.size (λi v=>(e8 w S ep es)[i]?=some v) (λi h=>IsSetIter w h I S i es.size ep t/\h.get? S=some o) where
 sub:=λb hb=>by simp at hb;simp[hb]
 frame:=λi h h' st hk=>by
  obtain⟨⟨slot,oi,HQ,r⟩,hS⟩:=st;exact⟨⟨slot,oi,hk I (by simp) _ HQ,r⟩,hk S (by simp) _ hS⟩
 item:=λi s Q E hi st hQ=>by
  have hl:=ln w S ep es;have hv:(e8 w S ep es)[i]?=some ((e8 w S ep es)[i]'(by lia)):=aK _;refine Ex st.1 st.2 D hv λh' hit' BO=>?_;exact hQ _ h' s.toks hv ⟨hit',by rw[BO.2 S zO];exact st.2⟩ λb o hb e=>BO.extBut b o (λh=>hb (by simp[h])) e
 done:=λs Q E st hQ=>Fm hh st.1 st.2 D λh' HB=>hQ h' s.toks λb o hb e=>HB b o (λh=>hb (by simp[h])) e
 self:=λi s Q E st hQ=>by
  have hT:=st.1.typeIs;refine wpAny_pyIter_slot hT uh (fV uh hT Cc ?_ (El _));show aM _ _ (ret (.ref I)) _ _ s;exact wpAny_pure ⟨_,rfl,"set_iterator",_,hT,gn.lookup,hQ⟩
theorem Ts {S:Addr}{o:Obj}{es:Array (Int×aB)}{ep:Nat}{t:eK}(D:lq w o es ep t) :
  KdlSrc prog w "set" S S es.size (λi v=>(e8 w S ep es)[i]?=some v) (λh=>h.get? S=some o) where
 type:=λs ho=>⟨o,ho,D.ex.1⟩
 there:=λh ho=>⟨aZ ho,aZ ho⟩
 keep:=λh h' ho hk=>hk S (.inl rfl) _ ho
 notList:=by decide
 notTuple:=by decide
 hint:=λA E s Q ho h=>Pz ⟨o,ho,D.ex.1⟩ h
 iter:=λA s hh ho=>⟨_,_,λE Q h=>Tr ho D h,M4 hh (cK (aZ ho)) D,⟨0,_,bV _ rfl,rfl,rfl,λ_=>Fl D.small.rise⟩,aJ _ ho⟩
theorem Ki {S:Addr}{o:Obj}{es:Array (Int×aB)}{ep:Nat}{t:eK}{Q:List aB->aG->Prop}(hh:A.handled=none)(ho:s.heap.get? S=some o)(D:lq w o es ep t)
  (h:∀h' tk,(∀b o,s.heap.get? b=some o->h'.get? b=some o)->Q (e8 w S ep es) { s with heap:=h',toks:=tk }) :
  aM (aX prog w) A (collect (.ref S)) Q E s:=by
 unfold collect;refine aA (wpAny_runValue (pE entry_proto_collect' ?_));show aM _ _ (do again (.builtin "list.__iadd__" ⟨[<-newList [],.ref S],[]⟩)) _ _ s
 refine aA (uY (wpAny_pure ⟨qX _ (by decide +kernel),pE entry_list_iadd' ?_⟩));rw[pZ PySem.F.plain_list_iadd _];show aM _ A.in1 (Builtin.List.listExtendWith (.ref s.heap.objs.size) (.ref S) (.ref s.heap.objs.size)) _ _ _;have zR:=aZ ho;refine kdl_extend (prog:=prog) (R:=λr s'=>match r with
   | .ok (.ret v)=>aM (aX prog w) A (match v with
     | .ref a=>(do
       let x <-load a
       match x.data with
         | .seq xs _=>pure xs.toList
         |_=>wN "internal:collect")
     |_=>wN "internal:collect") Q E s'
   | .ok _=>False
   | .error e=>E e s') (s:={ s with heap:=s.heap.push { cls:=.type "list",data:=.seq #[] } }) (Ts D) hh (aJ _ ho) s.heap.objs.size (gN zR) (gN zR) (.ref s.heap.objs.size) 0 (bV _ rfl) (λh' tk FR c' hk EY MD=>?_) (by rw[gS];have:=D.n76;lia)
 have e:FR.toList=e8 w S ep es:=by
  refine rX λj=>?_;rw[dZ];by_cases hj:j < FR.size
  ·have hv:FR[j]?=some FR[j]:=dX hj;rw[hv];exact(MD.2 j _ hv).symm
  ·rw[qH.mpr (by lia),List.getElem?_eq_none_iff.mpr];rw[ln,<-MD.1];lia
 dsimp only;refine aA (wpAny_load EY (wpAny_pure ?_));rw[e];exact h h' tk λb o hb=>hk b o (cK (aZ hb)) (aJ _ hb)
theorem Fn {S:Addr}{o:Obj}{es:Array (Int×aB)}{ep:Nat}{t:eK}{xs:List (List Int)}{h0:Heap}{Q:aB->aG->Prop}(EI:∀b o,h0.get? b=some o->s.heap.get? b=some o)(hh:A.handled=none)(ho:s.heap.get? S=some o)(D:lq w o es ep t)
  (hE:EntsOf prog w h0 es.toList xs) (zO:∀x∈xs,x≠[]) (N':xs.length < 64)
  (h:∀d h' tk out c,s.heap.get? d=none->(∀b o,s.heap.get? b=some o->h'.get? b=some o)->h'.get? d=some (iN "list" (jE out) c)->KeysL prog w h0 out (isort xs)->Q (.ref d) { s with heap:=h',toks:=tk }) :
  aM (aX prog w) A (call (.builtin "sorted") [.ref S]) Q E s:=by
 have zJ:=hE.length;rw[gA]at zJ;have GX:=D.n76;have N':=N';obtain⟨ys,AO,OA⟩:=(EntsOf.keys hE).perm (zu w S ep es);have hyl:ys.length < 64:=(by rw[AO.length_eq];lia);have NA:=ln w S ep es;have JE:isort ys=isort xs:=isort_of ((isort_perm ys).trans AO) (jy ys);refine Calls.call_function_entry kind_sorted plain_sorted entry_sorted (args_sorted1 _) ?_;unfold iW.«sorted»;refine aA (m:=checkCount "sorted" 1 1 _) (wpAny_pure ?_);refine aA (Ki (A:=A.in1) hh ho D λh1 IN WN=>?_);refine aA (uY ?_ (by rw[gS];lia));show aM _ _ _ _ _ { s with heap:=h1.push (iN "list" (e8 w S ep es).toArray 0),toks:=IN };have IA:(h1.push (iN "list" (e8 w S ep es).toArray 0)).get? h1.objs.size=some (iN "list" (e8 w S ep es).toArray 0):=bV _ rfl;have kp:∀b o,s.heap.get? b=some o->(h1.push (iN "list" (e8 w S ep es).toArray 0)).get? b=some o:=λb o e=>aJ _ (WN b o e);have CB:s.heap.get? h1.objs.size=none:=by
  cases e:s.heap.get? h1.objs.size with
  |none=>rfl
  |some o'=>exact absurd (aZ (WN _ _ e)) (jH _)
 refine aA (gH (fV slot_list_sort ⟨_,IA,rfl⟩ entry_list_sort ?body (args_list_sort _)))
 case body=>
  refine Ew (s:={ s with heap:=h1.push (iN "list" (e8 w S ep es).toArray 0),toks:=IN }) IA OA (λx a k=>j7 kp (j7 EI k)) (λx hx=>zO x (AO.mem_iff.mp hx)) hyl λh' out c hk hd DG=>?_;rw[JE]at DG;refine⟨_,rfl,wpAny_pure ⟨_,rfl,h _ h' IN out c CB (λb o e=>hk b o (λeb=>?_) (kp b o e)) hd DG⟩⟩;rw[eb,CB]at e;exact nomatch e
end
end TupG
namespace TupG
open SetTable TupSet PyProof.Rows PySem.W
def dd:List (List Int)->List (List Int)
 | []=>[]
 |x::l=>if x∈l then dd l else x::dd l
theorem mem_dd {y:List Int}:∀{l:List (List Int)},y∈dd l↔y∈l
 | []=>zD
 |x::l=>by
  unfold dd
  split
  ·next h=>
   rw[mem_dd,aU];exact⟨.inr,λz=>by rcases z with rfl | z;exact h;exact z⟩
  ·rw[aU,aU,mem_dd]
theorem nodup_dd:∀(l:List (List Int)),(dd l).Nodup
 | []=>jN
 |x::l=>by
  unfold dd
  split
  ·exact nodup_dd l
  ·next h=>exact iQ.mpr ⟨λz=>h (mem_dd.mp z),nodup_dd l⟩
theorem M5:∀(l:List (List Int)),(dd l).length<=l.length
 | []=>aN _
 |x::l=>by
  unfold dd;have:=M5 l
  split
  ·rw[cX];lia
  ·rw[cX,cX];lia
theorem nodup_perm:∀{xs ys:List (List Int)},xs.Nodup->ys.Nodup->(∀y,y∈xs↔y∈ys)->xs.Perm ys
 | [],ys,_,_,h=>by
  cases ys with
  |nil=>exact .refl _
  |cons y ys=>exact nomatch (h y).mpr cJ
 |x::xs,ys,hx,hy,h=>by
  have KA:=(h x).mp cJ;have AX:=iQ.mp hx;refine(List.Perm.cons x (nodup_perm AX.2 (hy.erase x) λy=>?_)).trans (List.perm_cons_erase KA).symm;rw[hy.mem_erase_iff,<-h,aU];exact⟨λz=>⟨λe=>AX.1 (e ▸ z),.inr z⟩,λzF=>by obtain⟨n,z⟩:=zF;exact z.resolve_left n⟩
def srtG (L:List (List Int)):List (List Int):=isort (dd L)
theorem srtG_len (L:List (List Int)):(srtG L).length<=L.length:=by
 unfold srtG;rw[(isort_perm _).length_eq];exact M5 L
theorem Tt {L xs:List (List Int)}(nd:xs.Nodup)(h:∀y,y∈xs↔y∈L):isort xs=srtG L:=
 isort_of ((isort_perm xs).trans (nodup_perm nd (nodup_dd L) λy=>(h y).trans mem_dd.symm)) (jy xs)
section
variable {prog:aP}{w:aW}{A:cQ}{E:aB->aG->Prop}{s:aG}
theorem call_sorted_ofG {h0:Heap}{S:Addr}{L:List (List Int)}{Q:aB->aG->Prop}(hh:A.handled=none)(h3:L.length < 64)(zO:∀x∈L,x≠[])
  (k:Got prog w h0 s.heap S (zt w) L) (hk:∀b o,h0.get? b=some o->s.heap.get? b=some o)
  (h:∀d h' tk out c,s.heap.get? d=none->(∀b o,s.heap.get? b=some o->h'.get? b=some o)->h'.get? d=some (iN "list" (jE out) c)->KeysL prog w h0 out (srtG L)->Q (.ref d) { s with heap:=h',toks:=tk }) :
  aM (aX prog w) A (call (.builtin "sorted") [.ref S]) Q E s:=by
 obtain⟨t,xs,⟨o,es,ep,ho,hex,hd,T,hE⟩,hl,hm,hx⟩:=k;have zJ:=hE.length;rw[gA]at zJ;rw[<-Tt T.nd hm]at h;refine Fn hk hh ho ⟨hex,hd,by rw[zJ];exact T.tb,by rw[zJ];exact T.fit,by lia,λhf=>?_⟩ hE (λx hx=>zO x ((hm x).mp hx)) (by lia) h;rw[hl];unfold zt;rw[hf];rfl
theorem call_sortedL {l:Addr}{vs:List aB}{xs:List (List Int)}{h0:Heap}{Q:aB->aG->Prop}(EI:∀b o,h0.get? b=some o->s.heap.get? b=some o)(hl:s.heap.IsList l vs.toArray)(OA:KeysL prog w h0 vs xs)(zO:∀x∈xs,x≠[])(N':xs.length < 64)
  (h:∀d h' tk out c,s.heap.get? d=none->(∀b o,s.heap.get? b=some o->h'.get? b=some o)->h'.get? d=some (iN "list" (jE out) c)->KeysL prog w h0 out (isort xs)->Q (.ref d) { s with heap:=h',toks:=tk }) :
  aM (aX prog w) A (call (.builtin "sorted") [.ref l]) Q E s:=by
 have zJ:=OA.length;refine Calls.call_function_entry kind_sorted plain_sorted entry_sorted (args_sorted1 _) ?_;unfold iW.«sorted»;refine aA (m:=checkCount "sorted" 1 1 _) (wpAny_pure ?_);refine aA (collect_list hl ?_ (by rw[gS];lia));refine aA (uY ?_ (by rw[gS];lia));generalize hH:((s.heap.push (iN "list" #[] 0)).update s.heap.objs.size (iR (·++vs.toArray)))=h1;have hsz:h1.objs.size=s.heap.objs.size+1:=(by rw[<-hH,Heap.size_update,size_push']);have HR:∀b o,s.heap.get? b=some o->h1.get? b=some o:=λb o q=>by
  have zR:b < s.heap.objs.size:=aZ q;rw[<-hH,tX _ _ _ _ (cK zR),Heap.get?_push_ne _ _ _ (cK zR)];exact q
 show aM _ _ _ _ _ { s with heap:=h1.push (iN "list" vs.toArray 0) };have IA:(h1.push (iN "list" vs.toArray 0)).get? h1.objs.size=some (iN "list" vs.toArray 0):=bV _ rfl;have kp:∀b o,s.heap.get? b=some o->(h1.push (iN "list" vs.toArray 0)).get? b=some o:=λb o e=>aJ _ (HR b o e);have CB:s.heap.get? h1.objs.size=none:=by
  cases e:s.heap.get? h1.objs.size with
  |none=>rfl
  |some o'=>exact absurd (aZ (HR _ _ e)) (jH _)
 refine aA (gH (fV slot_list_sort ⟨_,IA,rfl⟩ entry_list_sort ?body (args_list_sort _)))
 case body=>
  refine Ew (s:={ s with heap:=h1.push (iN "list" vs.toArray 0) }) IA OA (λx a k=>j7 kp (j7 EI k)) zO N' λh' out c hk hd DG=>?_;refine⟨_,rfl,wpAny_pure ⟨_,rfl,h _ h' s.toks out c CB (λb o e=>hk b o (λeb=>?_) (kp b o e)) hd DG⟩⟩;rw[eb,CB]at e;exact nomatch e
end
end TupG
end PySem
namespace L2
open PySem PySem.Spec PyProof.Rows
section
variable {X:Cx}{e:Expr}{te:TE}{x y:Str}{p p2 pos CU:Pos}
def Xl (K:aC)(te:TE):TE:=λσ H Q=>te σ H λv H1=>∃l ys L,v=.ref l/\SqL K H1 l ys/\TupsV K H1 ys L/\L.length < 64/\(∀x∈L,x≠[])/\
 ∀d zs,H1 d=none->TupsV K H1 zs (TupG.srtG L)->Q (.ref d) (upd H1 d (.lst zs))
theorem Tu (hc:X.calm=true)(hu:X.A.units+8 < iK)(hg:Gl X x)(hm:X.mg x=none)(hv:jI x=some (.builtin "sorted"))(RK:Gl X y)(LP:X.mg y=none)(hv2:jI y=some (.type "set"))(he:PE X e te)
  (hn:x≠"__name__":=by decide) (BU:(x == ("__debug__":Str))=false:=by decide) (DU:y≠"__name__":=by decide) (hdb2:(y == ("__debug__":Str))=false:=by decide)
  (hs:cW [.Call (.Name y p2) [e] [] CU] X.env=(false,eval (.Call (.Name y p2) [e] [] CU) X.env)::cW [] X.env:=by rfl) (AL:(jJ pos (cW [] X.env)).any (·.1)=false:=by rfl)
  (BM:cW [e] X.env=(false,eval e X.env)::cW [] X.env:=by rfl) (hpl2:(jJ CU (cW [] X.env)).any (·.1)=false:=by rfl) :
  PE X (.Call (.Name x p) [.Call (.Name y p2) [e] [] CU] [] pos) (Xl X.K te):=by
 intro f' s σ H Q I h;refine jW (ip I hg hm hv ?_ hn BU);refine oX ?_ hs AL;rw[hs];show aM _ _ (yC ((false,eval (.Call (.Name y p2) [e] [] CU) X.env)::jJ pos (cW [] X.env))) _ _ s;refine qR ?_;refine jW (ip I RK LP hv2 ?_ DU hdb2);refine iL ?_ BM hpl2;rw[BM];show aM _ _ (yC ((false,eval e X.env)::jJ CU (cW [] X.env))) _ _ s;refine qR (thn (he f' s σ H _ I h) λu s1 zF=>?_);obtain⟨v,H1,I1,r1,q1⟩:=zF;obtain⟨l,ys,L,rfl,hl,ht,h3,zO,q1⟩:=q1;cases r1;refine rS ?_;obtain⟨its,rv,pl,hz⟩:=I1.list hl;have EI:∀b o,(ny X.K H1 s1.heap).get? b=some o->s1.heap.get? b=some o:=λb o e=>(A8 e).1;refine TupG.call_setG (items:=its.toArray) (L:=L) (h0:=ny X.K H1 s1.heap) EI (I1.ok.hd hc) hu pl.isList (by rw[aS,<-rv.length];exact Paired.length ht) (by lia) (λi v e=>?_) λh' tk hS hk=>?_
 ·obtain⟨a,x,e1,e2,k⟩:=ht.get rv i v (by simpa using e);exact⟨a,x,e1,e2,I1.tupK k⟩
 ·refine rS ?_;refine TupG.call_sorted_ofG (s:={ s1 with heap:=h',toks:=tk }) (I1.ok.hd hc) h3 zO hS (λb o e=>hk b o (EI b o e)) λd h2 ME out c hd EX RN DG=>?_;obtain⟨zs,RO,MF⟩:=I1.ofKeysL DG;have hkk:∀b o,s1.heap.get? b=some o->h2.get? b=some o:=λb o e=>EX b o (hk b o e);have J:Inv X f' σ H1 { s1 with heap:=h',toks:=tk }:=I1.kept (h':=h') (t':=tk) hk;have K':H1 d=none:=J.hok.none_at hd;have zJ:zs.length<=sizeLine:=by
   have a1:=Paired.length MF;have a2:=TupG.srtG_len L;rw[a1];exact bQ (bQ a2 (lD h3)) (by decide)
  refine⟨.ref d,upd H1 d (.lst zs),?_,rfl,q1 d zs K' MF⟩;exact J.laidN (h':=h2) (t':=ME) EX hd (show ObjOk X.prog X.w _ h2 d (.lst zs)from⟨zJ,out,c,RO,RN⟩)
def Xm (K:aC)(te:TE):TE:=λσ H Q=>te σ H λv H1=>∃l ys L,v=.ref l/\SqL K H1 l ys/\TupsV K H1 ys L/\L.length < 64/\(∀x∈L,x≠[])/\
 ∀d zs,H1 d=none->TupsV K H1 zs (TupSet.isort L)->Q (.ref d) (upd H1 d (.lst zs))
theorem Ey {X:Cx}{f':List (Addr×Obj)}{σ:List (Option V)}{H:Hp}{s:aG}(I:Inv X f' σ H s):∀{ys:List V}{L:List (List Int)}{its:List aB},TupsV X.K H ys L->Vals ys its->TupSet.KeysL X.prog X.w (ny X.K H s.heap) its L
 | [],[],[],_,_=>trivial
 |y::ys,x::L,v::its,.cons h1 h2,.cons r1 r2=>by
  obtain⟨a,rfl,k⟩:=h1;cases r1;exact⟨⟨a,rfl,I.tupK k⟩,Ey I h2 r2⟩
theorem Ez (hg:Gl X x)(hm:X.mg x=none)(hv:jI x=some (.builtin "sorted"))(he:PE X e te)
  (hn:x≠"__name__":=by decide) (BU:(x == ("__debug__":Str))=false:=by decide)
  (hs:cW [e] X.env=(false,eval e X.env)::cW [] X.env:=by rfl) (AL:(jJ pos (cW [] X.env)).any (·.1)=false:=by rfl) :
  PE X (.Call (.Name x p) [e] [] pos) (Xm X.K te):=by
 intro f' s σ H Q I h;refine jW (ip I hg hm hv ?_ hn BU);refine oX ?_ hs AL;rw[hs];show aM _ _ (yC ((false,eval e X.env)::jJ pos (cW [] X.env))) _ _ s;refine qR (thn (he f' s σ H _ I h) λu s1 zF=>?_);obtain⟨v,H1,I1,r1,q1⟩:=zF;obtain⟨l,ys,L,rfl,hl,ht,h3,zO,q1⟩:=q1;cases r1;refine rS ?_;obtain⟨its,rv,pl,hz⟩:=I1.list hl;have EI:∀b o,(ny X.K H1 s1.heap).get? b=some o->s1.heap.get? b=some o:=λb o e=>(A8 e).1;refine TupG.call_sortedL (h0:=ny X.K H1 s1.heap) EI pl.isList (Ey I1 ht rv) zO h3 λd h2 ME out c hd EX RN DG=>?_;obtain⟨zs,RO,MF⟩:=I1.ofKeysL DG;have K':H1 d=none:=I1.hok.none_at hd;have zJ:zs.length<=sizeLine:=by
  have a1:=Paired.length MF;rw[a1,(TupSet.isort_perm L).length_eq];exact bQ (lD h3) (by decide)
 refine⟨.ref d,upd H1 d (.lst zs),?_,rfl,q1 d zs K' MF⟩;exact I1.laidN (h':=h2) (t':=ME) EX hd (show ObjOk X.prog X.w _ h2 d (.lst zs)from⟨zJ,out,c,RO,RN⟩)
end
end L2
namespace PySem
namespace Deep
abbrev I2:=Sum Int (List Int)
section
variable (prog:aP)(w:aW)
def qf (h:Heap):I2->aB->Prop
 | .inl i,v=>(eF prog w).is i v=true
 | .inr l,v=>∃b,v=.ref b/\eQ (eF prog w) h l b
def jk:I2->Int
 | .inl i=>(eF prog w).hash i
 | .inr l=>xV (eF prog w) l
def u7:I2->Nat
 | .inl _=>1
 | .inr l=>l.length+1
def ItemsR (h:Heap):List I2->List aB->Prop
 | [],[]=>True
 |k::ks,v::vs=>qf prog w h k v/\ItemsR h ks vs
 |_,_=>False
def IsDeep (h:Heap)(ks:List I2)(a:Addr):Prop:=∃o its n,h.get? a=some o/\o.cls=.type "tuple"/\o.data=.seq its n/\ItemsR prog w h ks its.toList
def x5 (ks:List I2):Int:=reduceHash (jT (ks.map (jk prog w)))
def rz:List I2->Nat
 | []=>0
 |k::ks=>u7 k+rz ks
end
theorem M6 (ks:List I2)(k:I2):rz (ks++[k])=rz ks+u7 k:=by
 induction ks with
 |nil=>simp[rz]
 |cons x xs ih=>rw[sO,rz,rz,ih,sK]
section
variable {prog:aP}{w:aW}{A:cQ}{E:aB->aG->Prop}{s:aG}
theorem P5 {h:Heap}{v:aB}{x y:I2}(hx:qf prog w h x v)(hy:qf prog w h y v):x=y:=by
 cases x with
 |inl i=>cases y with
  |inl j=>rw[(eF prog w).inj _ _ _ hx hy]
  |inr l=>
   obtain⟨b,rfl,_⟩:=hy;exact absurd hx (by show ¬jL i (.ref b)=true;simp[jL])
 |inr l=>cases y with
  |inl j=>
   obtain⟨b,rfl,_⟩:=hx;exact absurd hy (by show ¬jL j (.ref b)=true;simp[jL])
  |inr m=>
   obtain⟨b,rfl,k1⟩:=hx;obtain⟨c,e,k2⟩:=hy;cases e;rw[k1.inj k2]
theorem ItemsR.inj {h:Heap}:∀{vs:List aB}{x y:List I2},ItemsR prog w h x vs->ItemsR prog w h y vs->x=y
 | [],[],[],_,_=>rfl
 | [],[],_::_,_,q=>q.elim
 | [],_::_,_,q,_=>q.elim
 |_::_,[],_,q,_=>q.elim
 |_::_,_::_,[],_,q=>q.elim
 |_::vs,_::xs,_::ys,hx,hy=>by rw[P5 hx.1 hy.1,ItemsR.inj (vs:=vs) hx.2 hy.2]
theorem ItemsR.length {h:Heap}:∀{vs:List aB}{x:List I2},ItemsR prog w h x vs->x.length=vs.length
 | [],[],_=>rfl
 | [],_::_,q=>q.elim
 |_::_,[],q=>q.elim
 |_::vs,_::xs,hx=>by rw[cX,cX,ItemsR.length (vs:=vs) hx.2]
theorem ItemsR.imp {h h':Heap}(f:∀l b,eQ (eF prog w) h l b->eQ (eF prog w) h' l b):∀{vs:List aB}{x:List I2},ItemsR prog w h x vs->ItemsR prog w h' x vs
 | [],[],_=>trivial
 | [],_::_,q=>q.elim
 |_::_,[],q=>q.elim
 |_::vs,k::xs,hx=>⟨by
     cases k with
     |inl i=>exact hx.1
     |inr l=>obtain⟨b,e,k1⟩:=hx.1;exact⟨b,e,f _ _ k1⟩,ItemsR.imp f (vs:=vs) hx.2⟩
theorem IsDeep.typeIs {ks:List I2}{a:Addr}(x:IsDeep prog w s.heap ks a):s.TypeIs (.ref a) "tuple":=by
 obtain⟨o,_,_,e,c,_⟩:=x;exact⟨o,e,c⟩
theorem IsDeep.inj {h:Heap}{a:Addr}{x y:List I2}(hx:IsDeep prog w h x a)(hy:IsDeep prog w h y a):x=y:=by
 obtain⟨o,i1,n1,e1,_,d1,r1⟩:=hx;obtain⟨o2,i2,n2,e2,_,d2,r2⟩:=hy;rw[e1]at e2;cases e2;rw[d1]at d2;cases d2;exact r1.inj r2
theorem IsDeep.keeps {h h':Heap}{ks:List I2}{a d:Addr}{o:Obj}{es ep}(x:IsDeep prog w h ks a)(ho:h.get? d=some o)(hd:o.data=.dict es ep)(hs:gG d h h'):IsDeep prog w h' ks a:=by
 obtain⟨o2,its,n,e2,c2,d2,r⟩:=x;have ne:a≠d:=λz=>by
  subst z;rw[ho]at e2;cases e2;rw[hd]at d2;cases d2
 exact⟨o2,its,n,(hs.2 a ne).trans e2,c2,d2,r.imp λl b k=>k.keeps ho hd hs⟩
theorem M7 {i:Int}{v:aB}(h:(eF prog w).is i v=true):∃t,v=.int i t:=Value.isInt_shape (k:=i) (v:=v) h
theorem M8 {l:List Int}{b:Addr}{h:Heap}(k:eQ (eF prog w) h l b):∃its,h.IsTuple b its:=by
 obtain⟨o,its,n,e,c,d,_⟩:=k;exact⟨its,o,e,c,n,d⟩
theorem M9 {k:I2}{v:aB}{Q:Int->aG->Prop}(hu:A.units < iK)(hk:qf prog w s.heap k v)(h:Q (jk prog w k) { s with toks:=s.toks+u7 k }):aM (aX prog w) A (pyHash v) Q E s:=by
 cases k with
 |inl i=>exact(eF prog w).pyHash hk h
 |inr l=>
  obtain⟨b,rfl,k1⟩:=hk;exact wpAny_pyHash_tuple hu k1 h
theorem Tv {x y:I2}{u v:aB}{Q:Bool->aG->Prop}(hu:A.units+1 < iK)(hx:qf prog w s.heap x u)(hy:qf prog w s.heap y v)(h:Q (decide (x=y)) s):aM (aX prog w) A (eqBool u v) Q E s:=by
 cases x with
 |inl i=>cases y with
  |inl j=>
   refine(eF prog w).eqBool hx hy ?_;have e:decide ((Sum.inl i:I2)=Sum.inl j)=decide (i=j):=(by rw[decide_eq_decide];exact⟨λz=>Sum.inl.inj z,λz=>by rw[z]⟩);rw[<-e];exact h
  |inr l=>
   obtain⟨b,rfl,k1⟩:=hy;obtain⟨t,rfl⟩:=M7 hx;have e:decide ((Sum.inl i:I2)=Sum.inr l)=false:=decide_eq_false (λz=>nomatch z);rw[e]at h;obtain⟨its,k2⟩:=M8 k1;exact SeqAt.EqAt.int_tuple i t k2 (vG hu) prog w E Q h
 |inr l=>cases y with
  |inl j=>
   obtain⟨b,rfl,k1⟩:=hx;obtain⟨t,rfl⟩:=M7 hy;have e:decide ((Sum.inr l:I2)=Sum.inl j)=false:=decide_eq_false (λz=>nomatch z);rw[e]at h;obtain⟨its,k2⟩:=M8 k1;exact SeqAt.EqAt.tuple_int j t k2 (vG hu) prog w E Q h
  |inr m=>
   obtain⟨b,rfl,k1⟩:=hx;obtain⟨c,rfl,k2⟩:=hy;refine rB (vG hu) k1 k2 ?_;have e:decide ((Sum.inr l:I2)=Sum.inr m)=decide (l=m):=(by rw[decide_eq_decide];exact⟨λz=>Sum.inr.inj z,λz=>by rw[z]⟩);rw[<-e];exact h
theorem Na {ks:List I2}{a:Addr}{Q:Int->aG->Prop}(hu:A.units+2 < iK)(hk:IsDeep prog w s.heap ks a)(h:Q (x5 prog w ks) { s with toks:=s.toks+(rz ks+1) }):aM (aX prog w) A (pyHash (.ref a)) Q E s:=by
 have ty:=hk.typeIs;obtain⟨o,its,n,e1,_,d1,r1⟩:=hk;unfold pyHash
 first | unfold pyHashByItsType | skip
 first | refine aA (wpAny_cRoomFor_or (.inr (by omega)) ?_) | skip
 refine aA (lT ty F.slot_tuple_hash.lookup ?_);show aM _ _ (if (some (Value.builtin "tuple.__hash__") == some gP)=true then _ else _) Q E s
 rw[if_neg (by rw[beq_builtin_none];exact bZ)];refine aA (lT ty F.slot_tuple_hash.lookup ?_);show aM _ _ (callSpecialIfBoundUnlessNone? (.ref a) "__hash__" _ >>= _) Q E s;refine aA (wpAny_callSpecialIfBoundUnlessNone?_slot ty F.slot_tuple_hash (fV F.slot_tuple_hash ty F.entry_tuple_hash ?_ (F.args_tuple_hash_1 _)));show aM _ _ (qC (.ref a) >>= _) _ _ s;refine aA (uU e1 d1 ?_);refine aA ?_;rw[<-pD];refine nF _ (λrest (b:Array Int) s'=>∃pre left,ks=pre++left/\ItemsR prog w s.heap left rest/\b.toList=pre.map (jk prog w)/\s'={ s with toks:=s.toks+rz pre }) _ ?_ ?_ _ _ ⟨[],ks,rfl,r1,rfl,rfl⟩
 ·intro x rest b s' zE;obtain⟨pre,left,rfl,hl,hb,rfl⟩:=zE;cases left with
  |nil=>exact hl.elim
  |cons k left=>
   refine aA (M9 (by show A.units+1 < iK;omega) hl.1 ?_);exact wpAny_pure ⟨pre++[k],left,by simp,hl.2,by simp[hb],by rw[M6,sK]⟩
 ·intro b s' zE;obtain⟨pre,left,rfl,hl,hb,rfl⟩:=zE;cases left with
  |cons k left=>exact hl.elim
  |nil=>
   rw[lB]at h;show aM _ _ (retInt (jT b.toList)) _ _ _;rw[hb];refine wpAny_ret_mkInt ?_;show aM _ _ (if (decide (-(2:Int) ^ 63<=jT (pre.map (jk prog w))) && decide (jT (pre.map (jk prog w)) < 2 ^ 63))=true then _ else _) Q E _
   unfold x5 reduceHash at h;by_cases c:(decide (-(2:Int) ^ 63<=jT (pre.map (jk prog w))) && decide (jT (pre.map (jk prog w)) < 2 ^ 63))=true
   ·rw[if_pos c]at h ⊢;exact wpAny_pure (by simpa[sK]using h)
   ·rw[if_neg c]at h ⊢;exact aA (rJ (wpAny_pure (by simpa[sK]using h)))
theorem Tw {x y:List I2}{a b:Addr}{P:Fin->aG->Prop}(hu:A.units+1 < iK)(hx:IsDeep prog w s.heap x a)(hy:IsDeep prog w s.heap y b)(h:P (.done (.ret (.bool (decide (x=y))))) s) :
  aM (aX prog w) A (iW.«tuple.__eq__» ⟨[.ref a,.ref b],[]⟩) P E s:=by
 have ty:=hy.typeIs;obtain⟨o1,i1,n1,e1,_,d1,r1⟩:=hx;obtain⟨o2,i2,n2,e2,_,d2,r2⟩:=hy;show aM _ _ (vJ (.ref b) (.type "tuple") >>= _) _ _ s;refine aA (lJ ty sX ?_);simp only[lH,cZ,if_false];refine aA (uU e1 d1 ?_);refine aA (uU e2 d2 ?_);refine aA ?_;refine nF _ (λrest r s'=>r.1=none/\s'=s/\∃x' y' u' v',rest=List.zip u' v'/\ItemsR prog w s.heap x' u'/\ItemsR prog w s.heap y' v'/\(x'=y'↔x=y)/\(u'.length=v'.length↔i1.size=i2.size)) _ ?_ ?_ _ _
  ⟨rfl,rfl,x,y,i1.toList,i2.toList,rfl,r1,r2,zD,by simp⟩
 ·intro zE rest r s' CT;obtain⟨p,q⟩:=zE;obtain⟨hr,rfl,x',y',u',v',hz,AX,IH,hd,hl⟩:=CT;cases u' with
  |nil=>simp at hz
  |cons u u'=>
   cases v' with
   |nil=>simp at hz
   |cons v v'=>
    simp only[List.zip_cons_cons,List.cons.injEq,Prod.mk.injEq]at hz;obtain⟨⟨rfl,rfl⟩,rfl⟩:=hz;cases x' with
    |nil=>exact AX.elim
    |cons k1 x'=>
     cases y' with
     |nil=>exact IH.elim
     |cons k2 y'=>
      refine aA (Tv hu AX.1 IH.1 ?_);by_cases c:k1=k2
      ·subst c;rw[decide_eq_true rfl];simp only[lH,cZ,if_false];exact wpAny_pure ⟨rfl,rfl,x',y',u',v',rfl,AX.2,IH.2,by rw[<-hd];simp,by rw[<-hl];simp⟩
      ·rw[decide_eq_false c];simp only[Bool.not_false,if_true];have hf:decide (x=y)=false:=decide_eq_false λz=>c (qG (hd.mpr z)).1;rw[hf]at h;exact aA (wpAny_pure (wpAny_pure (wpAny_pure h)))
 ·intro zE s' CT;obtain⟨c1,c2⟩:=zE;obtain⟨hr,rfl,x',y',u',v',hz,AX,IH,hd,hl⟩:=CT;simp only at hr;subst hr;refine wpAny_pure ?_;have zL:(i1.size == i2.size)=decide (x=y):=by
   have l1:=AX.length;have l2:=IH.length;cases u' with
   |nil=>
    have ex:x'=[]:=iB.mp l1;subst ex;cases v' with
    |nil=>
     have ey:y'=[]:=iB.mp l2;subst ey;rw[decide_eq_true (hd.mp rfl),beq_iff_eq];exact hl.mp rfl
    |cons v v'=>
     have ne:¬x=y:=λz=>(by rw[<-hd.mpr z]at l2;simp at l2);rw[decide_eq_false ne,beq_eq_false_iff_ne];intro z;have:=hl.mpr z;simp at this
   |cons u u'=>
    cases v' with
    |nil=>
     have ey:y'=[]:=iB.mp l2;subst ey;have ne:¬x=y:=λz=>(by rw[hd.mpr z]at l1;simp at l1);rw[decide_eq_false ne,beq_eq_false_iff_ne];intro z;have:=hl.mpr z;simp at this
    |cons v v'=>simp at hz
  show P (.done (.ret (.bool (i1.size == i2.size)))) s';rw[zL];exact h
theorem Tx {x y:List I2}{a b:Addr}{Q:Bool->aG->Prop}(hu:A.units+2 < iK)(hx:IsDeep prog w s.heap x a)(hy:IsDeep prog w s.heap y b)(h:Q (decide (x=y)) s):aM (aX prog w) A (eqBool (.ref a) (.ref b)) Q E s:=by
 unfold eqBool
 try with_reducible refine gH ?_
 show aM _ _ (if (cE a == cE b)=true then _ else _) Q E s
 by_cases c:(cE a == cE b)=true
 ·rw[if_pos c];have e:a=b:=(by have:=eq_of_beq c;injection this);subst e;rw[hx.inj hy]at h;exact aA (rJ (wpAny_pure (by simpa using h)))
 ·rw[if_neg c];refine aA (wpAny_richCompare_same_room (op:=.Eq) hx.typeIs hy.typeIs F.slot_tuple_eq (fV F.slot_tuple_eq hx.typeIs F.entry_tuple_eq ?_ (F.args_tuple_eq_2 _ _)) (by omega));exact Tw (by show A.units+1+1 < iK;omega) hx hy ⟨_,rfl,(λe=>nomatch e),lY h⟩
theorem Nb {l:List Int}{b:Addr}{n:Nat}{Q:Bool->aG->Prop}(hk:eQ (eF prog w) s.heap l b)(h:Q true s):aM (aX prog w) A (wJ (n+1) (.ref b)) Q E s:=by
 have ty:=hk.typeIs;obtain⟨o,its,m,e1,_,d1,r1⟩:=hk;unfold wJ;refine aA (lT ty F.slot_tuple_eq.lookup ?_);show aM _ _ (vJ (.ref b) (.type "tuple") >>= _) _ _ s;refine aA (lJ ty sX ?_);simp only[lH,cZ,if_false];refine aA (jC e1 d1 (aA ?_));show aM _ _ (forIn its _ _) _ _ s;rw[<-pD];refine nF _ (λrest r s'=>r.1=none/\s'=s/\∀v∈rest,carriedByValue v=true) _ ?_ ?_ _ _ ⟨rfl,rfl,r1.byValue⟩
 ·intro v rest r s' zE;obtain⟨hr,rfl,all⟩:=zE;rw[eqIsQuiet_byValue _ (all v cJ)];refine aA (wpAny_pure ?_);simp only[lH,cZ,if_false];exact wpAny_pure ⟨rfl,rfl,λu q=>all u (cC _ q)⟩
 ·intro zE s' CT;obtain⟨c1,c2⟩:=zE;obtain⟨hr,rfl,_⟩:=CT;simp only at hr;subst hr;exact wpAny_pure h
theorem Kj {ks:List I2}{a:Addr}{Q:Bool->aG->Prop}(hk:IsDeep prog w s.heap ks a)(h:Q true s):aM (aX prog w) A (wJ 8 (.ref a)) Q E s:=by
 have ty:=hk.typeIs;obtain⟨o,its,m,e1,_,d1,r1⟩:=hk;unfold wJ;refine aA (lT ty F.slot_tuple_eq.lookup ?_);show aM _ _ (vJ (.ref a) (.type "tuple") >>= _) _ _ s;refine aA (lJ ty sX ?_);simp only[lH,cZ,if_false];refine aA (jC e1 d1 (aA ?_));show aM _ _ (forIn its _ _) _ _ s;rw[<-pD];refine nF _ (λrest r s'=>r.1=none/\s'=s/\∃left,ItemsR prog w s.heap left rest) _ ?_ ?_ _ _ ⟨rfl,rfl,ks,r1⟩
 ·intro v rest r s' zE;obtain⟨hr,rfl,left,hl⟩:=zE;cases left with
  |nil=>exact hl.elim
  |cons k left=>
   have go:∀{R:Bool->aG->Prop},R true s'->aM (aX prog w) A (wJ 7 v) R E s':=λ{R} q=>by
    cases k with
    |inl i=>
     rw[eqIsQuiet_byValue _ ((eF prog w).byValue _ _ hl.1)];exact wpAny_pure q
    |inr l=>
     obtain⟨b,rfl,k1⟩:=hl.1;exact Nb k1 q
   refine aA (go ?_);simp only[lH,cZ,if_false];exact wpAny_pure ⟨rfl,rfl,left,hl.2⟩
 ·intro zE s' CT;obtain⟨c1,c2⟩:=zE;obtain⟨hr,rfl,_⟩:=CT;simp only at hr;subst hr;exact wpAny_pure h
end
def j8 (prog:aP)(w:aW):HeapKind prog w (List I2) where
 is:=IsDeep prog w
 hash:=x5 prog w
 draws:=λks=>rz ks+1
 room:=λA=>A.units+2 < iK
 inj:=λhx hy=>hx.inj hy
 keeps:=λx ho hd hs=>x.keeps ho hd hs
 pyHash:=λhu hk h=>Na hu hk h
 eqBool:=λhu hx hy h=>Tx hu hx hy h
 quiet:=λhk h=>Kj hk h
end Deep
namespace Deep
section
variable {prog:aP}{w:aW}{A:cQ}{E:aB->aG->Prop}{s:aG}
end
end Deep
namespace Deep
section
variable {prog:aP}{w:aW}{A:cQ}{E:aB->aG->Prop}{s:aG}
end
end Deep
namespace Deep
section
variable {prog:aP}{w:aW}{A:cQ}{E:aB->aG->Prop}{s:aG}
end
end Deep
end PySem
namespace L2
open PySem PySem.Spec PyProof.Rows PySem.Deep
def KeyAt (K:aC)(H:Hp)(b:Addr)(ks:List I2):Prop:=∃xs,SqT K H b xs/\Paired (λv k=>match k with | Sum.inl i=>v=V.int i | Sum.inr l=>∃c,v=.ref c/\SqT K H c (l.map V.int)) xs ks
abbrev DE:=List (List I2×Addr×V)
def r8:(List I2×Addr×V)->(List I2×Addr×aB)->Prop:=λp q=>p.1=q.1/\p.2.1=q.2.1/\RelV p.2.2 q.2.2
def dz (P:aP)(w:aW)(a:Addr)(kvs:DE):HO:=.ext λh=>∃xs:List (List I2×Addr×aB),Paired r8 kvs xs/\∃o es ep,h.get? a=some o/\o.ExactDict/\o.data=.dict es ep/\es.toList=xs.map (entryOfKey (j8 P w))/\(xs.map (·.1)).Nodup
structure DictAt (P:aP)(w:aW)(K:aC)(H:Hp)(a:Addr)(kvs:DE):Prop where
 at_:H a=some (dz P w a kvs)
 keys:∀e∈kvs,KeyAt K H e.2.1 e.1
 len:kvs.length<=sizeLine
 sys:(a == lR)=false
def atK (kvs:DE)(k:List I2):Option V:=(kvs.find? λe=>decide (e.1=k)).map (·.2.2)
def d9 (kvs:DE)(k:List I2)(b:Addr)(v:V):DE:=if (atK kvs k).isSome=true then kvs.map (λe=>if e.1=k then (e.1,e.2.1,v)else e)else kvs++[(k,b,v)]
theorem Gz {kvs:DE}{xs:List (List I2×Addr×aB)}(r:Paired r8 kvs xs)(k:List I2):RelO (atK kvs k) ((oZ xs k).map (·.2)):=by
 induction r with
 |nil=>exact kQ
 |@cons p q ps qs h t ih=>
  obtain⟨h1,h2,h3⟩:=h;by_cases e:p.1=k
  ·have e':q.1=k:=h1.symm.trans e;have a1:atK (p::ps) k=some p.2.2:=(by simp[atK,e]);have a2:oZ (q::qs) k=some q.2:=(by simp[oZ,e']);rw[a1,a2];exact h3
  ·have e':¬q.1=k:=λz=>e (h1.trans z);have a1:atK (p::ps) k=atK ps k:=(by simp[atK,e]);have a2:oZ (q::qs) k=oZ qs k:=(by simp[oZ,e']);rw[a1,a2];exact ih
theorem P6 {kvs:DE}{xs:List (List I2×Addr×aB)}(r:Paired r8 kvs xs)(k:List I2){y:V}{u:aB}(ry:RelV y u):Paired r8 (kvs.map λe=>if e.1=k then (e.1,e.2.1,y)else e) (xs.map (putAt k u)):=by
 induction r with
 |nil=>exact .nil
 |@cons p q ps qs h t ih=>
  rw[eO,eO];refine .cons ?_ ih;obtain⟨h1,h2,h3⟩:=h;unfold putAt;by_cases e:p.1=k
  ·rw[if_pos e,if_pos (h1.symm.trans e)];exact⟨h1,h2,ry⟩
  ·rw[if_neg e,if_neg (λz=>e (h1.trans z))];exact⟨h1,h2,h3⟩
theorem Kk {kvs:DE}{xs:List (List I2×Addr×aB)}(r:Paired r8 kvs xs)(k:List I2)(b:Addr){y:V}{u:aB}(ry:RelV y u):Paired r8 (d9 kvs k b y) (zC xs k b u):=by
 have e:(atK kvs k).isSome=(oZ xs k).isSome:=by
  have:=(Gz r k).isSome_eq
  rwa [vE]at this
 unfold d9 zC;rw[e];by_cases c:(oZ xs k).isSome=true
 ·rw[if_pos c,if_pos c];exact P6 r k ry
 ·rw[if_neg c,if_neg c];exact Paired.snoc r ⟨rfl,rfl,ry⟩
theorem Ac (kvs:DE)(k:List I2)(b:Addr)(v:V):(d9 kvs k b v).length<=kvs.length+1:=by
 unfold d9
 split
 ·rw[aI];lia
 ·rw[aO];exact aN _
theorem Kl {kvs:DE}{k:List I2}{b:Addr}{v:V}{e:List I2×Addr×V}(h:e∈d9 kvs k b v):(e.1=k/\(e.2.1=b\/∃e'∈kvs,e'.1=k/\e'.2.1=e.2.1))\/e∈kvs:=by
 unfold d9 at h
 split at h
 ·obtain⟨x,hx,rfl⟩:=jD.mp h;by_cases c:x.1=k
  ·rw[if_pos c];exact .inl ⟨c,.inr ⟨x,hx,c,rfl⟩⟩
  ·rw[if_neg c];exact .inr hx
 ·rcases eC.mp h with z | z
  ·exact .inr z
  ·rw[aY.mp z];exact .inl ⟨rfl,.inl rfl⟩
section
variable {X:Cx}{f':List (Addr×Obj)}{σ:St}{H:Hp}{s:aG}
theorem Ad (I:Inv X f' σ H s)(P:aP)(w:aW):∀{xs:List V}{ks:List I2}{its:List aB},Vals xs its->Paired (λv k=>match k with | Sum.inl i=>v=V.int i | Sum.inr l=>∃c,v=.ref c/\SqT X.K H c (l.map V.int)) xs ks->ItemsR P w s.heap ks its
 |_,_,_,.nil,.nil=>trivial
 |_,_,_,.cons r t,.cons (b:=k) h t2=>by
  refine⟨?_,Ad I P w t t2⟩;cases k with
  |inl i=>
   have h':_=V.int i:=h;subst h';obtain⟨tk,rfl⟩:=(show ∃t,_=nI i t from r);show jL i (.int i tk)=true;simp[jL]
  |inr l=>
   obtain⟨c,rfl,hc⟩:=(show ∃c,_=V.ref c/\SqT X.K H c (l.map V.int)from h);cases r;exact⟨c,rfl,I.key P w hc⟩
theorem Inv.deep (I:Inv X f' σ H s){b:Addr}{ks:List I2}(h:KeyAt X.K H b ks):IsDeep X.prog X.w s.heap ks b:=by
 obtain⟨xs,hx,hp⟩:=h;obtain⟨its,r,p,_⟩:=I.tuple hx;obtain⟨o,h1,h2,n,h3⟩:=p;exact⟨o,its.toArray,n,h1,h2,h3,by simpa using Ad I X.prog X.w r hp⟩
theorem Inv.dict (I:Inv X f' σ H s){a:Addr}{kvs:DE}(d:DictAt X.prog X.w X.K H a kvs):∃xs,Paired r8 kvs xs/\s.heap.DictOfH (j8 X.prog X.w) a xs:=by
 obtain⟨⟨xs,r,o,es,ep,e1,e2,e3,e4,e5⟩,_⟩:=(show ObjOk X.prog X.w H s.heap a (dz X.prog X.w a kvs)from I.hok a _ d.at_);refine⟨xs,r,o,es,ep,e1,e2,e3,e4,λx hx=>?_,e5⟩;have all:∀{l:DE}{m:List (List I2×Addr×aB)},Paired r8 l m->(∀e∈l,KeyAt X.K H e.2.1 e.1)->∀x∈m,IsDeep X.prog X.w s.heap x.1 x.2.1:=by
  intro l m q
  induction q with
  |nil=>intro _ x hx;cases hx
  |@cons p q ps qs h t ih=>
   intro hk x hx;rcases aU.mp hx with rfl | hx
   ·have:=I.deep (hk p cJ);rw[h.1,h.2.1]at this;exact this
   ·exact ih (λe he=>hk e (cC _ he)) x hx
 exact all r d.keys x hx
theorem E1 {P:aP}{w:aW}{H':Hp}{h':Heap}{a:Addr}{kvs:DE}{xs:List (List I2×Addr×aB)}(r:Paired r8 kvs xs)(dd:h'.DictOfH (j8 P w) a xs):ObjOk P w H' h' a (dz P w a kvs):=by
 obtain⟨o,es,ep,e1,e2,e3,e4,_,e6⟩:=dd;refine⟨⟨xs,r,o,es,ep,e1,e2,e3,e4,e6⟩,⟨o,e1⟩,λh1 h2 hφ k=>?_⟩;obtain⟨AM,r',o',GK,KK,q1,q⟩:=hφ;exact⟨AM,r',o',GK,KK,k _ q1,q⟩
def rIxD (P:aP)(w:aW)(K:aC):R2:=λx y H Q=>∃a kvs b ks v,x=.ref a/\y=.ref b/\DictAt P w K H a kvs/\KeyAt K H b ks/\atK kvs ks=some v/\Q v H
def Xn (P:aP)(w:aW)(K:aC):V->V->V->Hp->(Hp->Prop)->Prop:=λo i v H Q=>∃a kvs b ks,o=.ref a/\i=.ref b/\DictAt P w K H a kvs/\KeyAt K H b ks/\kvs.length < sizeLine/\Q (upd H a (dz P w a (d9 kvs ks b v)))
theorem gy {P:aP}{w:aW}{K:aC}(hP:X.prog=P)(hw:X.w=w)(hK:X.K=K)(hu:X.A.units+8 < iK):Nu X (Xn P w K):=by
 subst hP hw hK;intro f' s σ H o i v ov iv u Q I ro ri rv h;obtain⟨a,kvs,b,ks,rfl,rfl,d,kb,l,q⟩:=h;cases ro;cases ri;obtain⟨xs,r,dd⟩:=I.dict d;have hz:xs.length<=sizeLine:=(by rw[<-Paired.length r];exact d.len);refine wpAny_setItem_heap (knd:=j8 X.prog X.w) (hsz:=hz) (by show X.A.units+1+2 < iK;lia) (I.deep kb) dd λh' IQ sb=>⟨_,?_,q⟩;have he:∃ob,h'.get? a=some ob:=(by obtain⟨ob,_,_,e,_⟩:=IQ;exact⟨ob,e⟩);exact I.write (x:=a) (e:=a) (by rw[d.at_];exact kQ) (.inl rfl) (λb q hb z=>(sb.2 b hb).trans z) he (E1 (Kk r ks b rv) IQ)
end
section
variable {X:Cx}
def rInT (K:aC)(ON:Bool):R2:=λx y H Q=>∃(a b:Addr)(xs:List V) (ls:List (List Int)) (l:List Int),x=.ref b/\y=.ref a/\SqL K H a xs/\Paired (λy m=>∃c,y=.ref c/\SqT K H c (m.map V.int)) xs ls/\
 SqT K H b (l.map V.int)/\Q (.bl (if ON then !decide (l∈ls)else decide (l∈ls))) H
open Classical in
theorem V7 {f':List (Addr×Obj)}{σ:St}{H:Hp}{s:aG}(I:Inv X f' σ H s){xs:List V}{ls:List (List Int)}{l:List Int}{its:List aB}(hp:Paired (λy m=>∃c,y=.ref c/\SqT X.K H c (m.map V.int)) xs ls)(r:Vals xs its) :
  its.any (λy=>decide (∃c,y=.ref c/\SqT X.K H c (l.map V.int)))=decide (l∈ls)/\∀y∈its,∃c m,y=.ref c/\SqT X.K H c (m.map V.int)/\decide (∃c,y=.ref c/\SqT X.K H c (l.map V.int))=decide (m=l):=by
 induction hp generalizing its with
 |nil=>cases r;exact⟨by simp,λy hy=>nomatch hy⟩
 |@cons _ m _ ls' h t ih=>
  cases r with
  |cons r1 rt=>
   obtain⟨c,rfl,sc⟩:=h;cases r1;obtain⟨i1,i2⟩:=ih rt;have e:decide (∃c',cE c=.ref c'/\SqT X.K H c' (l.map V.int))=decide (m=l):=by
    rw[decide_eq_decide];constructor
    ·intro zE;obtain⟨c',e1,s1⟩:=zE;cases e1;exact I.tup_inj sc s1
    ·intro e1;exact⟨c,rfl,by rw[<-e1];exact sc⟩
   refine⟨?_,λy hy=>?_⟩
   ·rw[qD,i1,e];by_cases h1:m=l
    ·simp[h1]
    ·have:¬l=m:=λz=>h1 z.symm;simp[h1,this]
   ·rcases aU.mp hy with rfl | hy
    ·exact⟨c,m,rfl,sc,e⟩
    ·exact i2 y hy
open Classical in
open Classical in
theorem B5 {K:aC}(hK:X.K=K)(hu:X.A.units+8 < iK):OpR X (lZ .NotIn) (rInT K true):=by
 subst hK;intro f' s σ H x y v u Q I rx ry h;obtain⟨a,b,xs,ls,l,rfl,rfl,hx,hp,hb,q⟩:=h;cases rx;cases ry;obtain⟨its,r,pl,hz⟩:=I.list hx;obtain⟨k1,k2⟩:=V7 I (l:=l) hp r;refine SeqAt.notIn_listAt (λy=>decide (∃c,y=.ref c/\SqT X.K H c (l.map V.int))) pl.isList (λw hw=>?_) ⟨.bl _,H,I,rfl,?_⟩
 ·obtain⟨c,m,rfl,sc,e⟩:=k2 w (by simpa using hw);rw[e];refine I.eqT ?_ sc hb;show X.A.units+1 < iK;lia
 ·rw[show its.toArray.any (λy=>decide (∃c,y=.ref c/\SqT X.K H c (l.map V.int)))=its.any (λy=>decide (∃c,y=.ref c/\SqT X.K H c (l.map V.int)))by simp,k1];exact q
open PySem.Deep in
theorem gi {P:aP}{w:aW}{K:aC}(hP:X.prog=P)(hw:X.w=w)(hK:X.K=K)(hu:X.A.units+8 < iK):IxR X (rIxD P w K):=by
 subst hP hw hK;intro value slice f' s σ H x y v u Q I rx ry h hs;obtain⟨a,kvs,b,ks,z,rfl,rfl,d,kb,e,q⟩:=h;cases rx;cases ry;obtain⟨xs,r,dd⟩:=I.dict d;have re:=Gz r ks;rw[e]at re;cases hp:oZ xs ks with
 |none=>rw[hp]at re;exact re.elim
 |some p=>
  rw[hp]at re;exact sE (x:=p.2) dd.typeIs slot_dict_getitem.lookup
   (wpAny_getItem_heap (knd:=j8 X.prog X.w) (Q:=λr s'=>r=p.2/\EP X f' σ Q r s') (by show X.A.units+1+2 < iK;lia) (I.deep kb) dd hp ⟨rfl,z,H,I.tok _,re,q⟩) hs
end
theorem KeyAt.tups {K:aC}{H H':Hp}{b:Addr}{ks:List I2}(h:KeyAt K H b ks)(e:Tups H H'):KeyAt K H' b ks:=by
 obtain⟨xs,hx,hp⟩:=h;refine⟨xs,hx.tups e,?_⟩;refine Paired.mapP hp λv k z=>?_;cases k with
 |inl i=>exact z
 |inr l=>obtain⟨c,rfl,hc⟩:=z;exact⟨c,rfl,hc.tups e⟩
theorem DictAt.of {P:aP}{w:aW}{K:aC}{H H':Hp}{a:Addr}{kvs:DE}(d:DictAt P w K H a kvs)(e:Tups H H')(ha:H' a=some (dz P w a kvs)):DictAt P w K H' a kvs:=
 ⟨ha,λx hx=>(d.keys x hx).tups e,d.len,d.sys⟩
theorem DictAt.mono {P:aP}{w:aW}{K:aC}{H H':Hp}{a:Addr}{kvs:DE}(d:DictAt P w K H a kvs)(e:Same H H'):DictAt P w K H' a kvs:=d.of (Tups.of e) (e _ _ d.at_)
end L2
namespace S23
open PySem L2 Bits S1 Fly PySem.Deep
def kL (l:List Int):List I2:=l.map Sum.inl
def Tab (P:aP)(w:aW)(K:aC)(H:Hp)(d:Addr)(ls:List (List Int))(g:List Int->List (List Int)):Prop:=∃kvs,DictAt P w K H d kvs/\∀l∈ls,∃b,atK kvs (kL l)=some (.ref b)/\LetAt K H b (g l)
theorem LetAt.mono' {K:aC}{H H':Hp}{r:Addr}{ls:List (List Int)}(h:LetAt K H r ls)(e:Same H H'):LetAt K H' r ls:=by
 obtain⟨xs,h1,h2⟩:=h;exact⟨xs,e _ _ h1,h2.mono e⟩
theorem Tab.mono {P:aP}{w:aW}{K:aC}{H H':Hp}{d:Addr}{ls:List (List Int)}{g:List Int->List (List Int)}(h:Tab P w K H d ls g)(e:Same H H'):Tab P w K H' d ls g:=by
 obtain⟨kvs,dd,t⟩:=h;refine⟨kvs,dd.mono e,λl hl=>?_⟩;obtain⟨b,e1,e2⟩:=t l hl;exact⟨b,e1,e2.mono' e⟩
theorem G0 {K:aC}{H:Hp}:∀(l:List Int),Paired (λv (k:I2)=>match k with | Sum.inl i=>v=V.int i | Sum.inr l=>∃c,v=.ref c/\SqT K H c (l.map V.int)) (l.map V.int) (kL l)
 | []=>.nil
 |v::l=>.cons rfl (G0 l)
theorem e9 {K:aC}{H:Hp}{b:Addr}{l:List Int}(h:SqT K H b (l.map V.int)):KeyAt K H b (kL l):=⟨_,h,G0 l⟩
theorem gj {K:aC}{H:Hp}{x:V}{l:List Int}(h:Hold K H x (fj l)):∃a,x=.ref a/\SqT K H a (l.map V.int):=by
 obtain⟨a,ys,rfl,ha,hy⟩:=Hold.tupI h;have e:ys=l.map V.int:=hy.ints;subst e;exact⟨a,rfl,ha⟩
theorem jq {K:aC}{H:Hp}:∀{xs:List V}{ls:List (List Int)},Holds K H xs (ls.map fj)->Paired (λy m=>∃c,y=V.ref c/\SqT K H c (m.map V.int)) xs ls
 |_,[],h=>by cases h;exact .nil
 |_,l::ls,h=>by
  cases h with
  |cons h1 h2=>exact .cons (gj h1) (jq h2)
theorem on {K:aC}{H:Hp}:∀{xs:List V}{ls:List (List Int)},TupsV K H xs ls->Holds K H xs (ls.map fj)
 |_,_,.nil=>.nil
 |_,_,.cons h t=>by
  obtain⟨a,rfl,k⟩:=h;exact .cons (.tup k (d0 _)) (on t)
theorem i5:∀{xs ys:List (List Int)},xs.Nodup->(∀x∈xs,x∈ys)->xs.length<=ys.length
 | [],ys,_,_=>eV _
 |x::xs,ys,h,hs=>by
  have h':=iQ.mp h;have hx:=hs x cJ;have:=i5 (xs:=xs) (ys:=ys.erase x) h'.2 (λy hy=>(List.mem_erase_of_ne (λ(e:y=x)=>h'.1 (by rw[<-e];exact hy))).mpr (hs y (cC _ hy)));rw[List.length_erase_of_mem hx]at this;have:=List.length_pos_of_mem hx;rw[cX];lia
def more (g:List Int->List (List Int))(f:List (List Int))(l:List Int):List (List Int):=f++(g l).filter λm=>!decide (m∈f)
def uni (g:List Int->List (List Int))(row:List (List Int)):List (List Int):=row.foldl (more g) []
theorem P7 (g:List Int->List (List Int))(row:List (List Int))(l:List Int):uni g (row++[l])=more g (uni g row) l:=by unfold uni;rw[List.foldl_append];rfl
theorem jm {g:List Int->List (List Int)}{f:List (List Int)}{l y:List Int}:y∈more g f l↔y∈f\/y∈g l:=by
 unfold more;rw[eC,lA];by_cases h:y∈f
 ·simp[h]
 ·simp[h]
theorem Ha {g:List Int->List (List Int)}{f:List (List Int)}{l:List Int}(hf:f.Nodup)(hg:(g l).Nodup):(more g f l).Nodup:=by
 unfold more;refine List.nodup_append.mpr ⟨hf,hg.filter _,λa ha b hb e=>?_⟩;have:=(lA.mp hb).2;rw[e]at ha;simp[ha]at this
structure Led (ls:List (List Int))(g:List Int->List (List Int)):Prop where
 few:ls.length<=36
 ne:∀l∈ls,l≠[]
 nd:∀l∈ls,(g l).Nodup
 sub:∀l∈ls,∀m∈g l,m∈ls
theorem Ae {ls:List (List Int)}{g:List Int->List (List Int)}(h:Led ls g):∀(row:List (List Int)),(∀l∈row,l∈ls)->∀f:List (List Int),f.Nodup->(∀m∈f,m∈ls)->(row.foldl (more g) f).Nodup/\(∀m∈row.foldl (more g) f,m∈ls)/\∀y,y∈row.foldl (more g) f↔y∈f\/∃l∈row,y∈g l
 | [],_,f,n,s=>⟨n,s,λy=>by simp⟩
 |l::row,hr,f,n,s=>by
  have hl:=hr l cJ;obtain⟨a,b,c⟩:=Ae h row (λl hl=>hr l (cC _ hl)) (more g f l) (Ha n (h.nd l hl)) (λm hm=>by
    rcases jm.mp hm with z | z
    · exact s m z
    · exact h.sub l hl m z)
  refine⟨a,b,λy=>?_⟩;rw[tL,c,jm];simp only[aU,exists_eq_or_imp];exact or_assoc
def Hb (P:aP)(w:aW)(K:aC):Sp:=λvs H Q _=>∃(d rw:Addr)(ls row:List (List Int)) (g:List Int->List (List Int)),vs=[.ref d,.ref rw]/\Tab P w K H d ls g/\Led ls g/\LetAt K H rw row/\(∀l∈row,l∈ls)/\row.length<=36/\
 ∀(r':Addr)(H':Hp),Same H H'->H r'=none->LetAt K H' r' (TupSet.isort (uni g row))->Q (.ref r') H'
section
variable {P:aP}{w:aW}{K:aC}{mg:Str->Option aB}{base:Heap}
theorem Km:au ["_law_step_here","_law_row","_law_found","_law_one"] ["_law_step_here","_law_row"] (aj zc):=fsN
def Rk:gM:={ kind:=.function,names:=[(".0",.local),("_law_other",.local),("_law_found",.free)],isGenerator:=false,isCoroutine:=false,more:=[] }
theorem cUn_ {CX:CXT}{f:Addr}{zH:aB}{A:cQ}{outer:List Env}{s:aG}{H:Hp}{E:XK} :
  bv (bb CX P w K mg base ["_law_step_here","_law_row","_law_found","_law_one"] "_law_union" (aj zc) f zH A outer s H E).nox ["_law_other"] ["_law_found"] [2] Rk [("_law_found",s.heap.objs.size+1)]:=csN [(".0",.local),("_law_other",.local),("_law_found",.cell)]
theorem P8 {f:Addr}{fd:bX}(F:Fun K "_law_union" "_law_union" zc f fd)(ms:mg "sorted"=none):FnOk P w K mg base CX0 1 f fd ["_law_step_here","_law_row"] (Hb P w K):=by
 refine F.ok Km (λvs H Q E h=>?_) (λzH A outer s H vs Q E hr h=>?_)
 ·obtain⟨d,rw,ls,row,g,rfl,_⟩:=h;rfl
 obtain⟨d,rw,ls,row,g,rfl,tb,ld,⟨WO,WP,MG⟩,BB,r36,q⟩:=h;refine⟨_,ag (av (i:=2) Km.nd rfl (mZ rfl) (az ae)) (ag (dv eU rfl (cf (pv 1)) (ba (i:=3) Km.nd rfl (cD rfl)) (ah (av (i:=2) Km.nd rfl (mZ rfl) (ay dw (pv 2) (dy (ns:=["_law_other"]) (ys:=["_law_found"]) (sc:=Rk) cUn_ rfl (cf (aq (gi (P:=P) (w:=w) (K:=K) rfl rfl rfl (hu8 hr)) (pv 0) (pv 3) (λ_ _=>rfl))) (λC s H fp=>ba (i:=0) (by show(["_law_other","_law_found"]:List Str).Nodup;decide +kernel) rfl (cD rfl)) (λC s H fp=>pw (bc (B5 (K:=K) rfl (hu8 hr)) (pv 0) (pv 1) (by with_unfolding_all rfl))) (λC s H fp=>pv 0)))))) (ah (ax (Ez rfl ms (by kernel_rfl) (pv 2))))),?_⟩
 dsimp only[bb,Cx.nox];have lr:WO.length=row.length:=(by rw[MG.length,aI]);refine⟨sz0,λu hu=>?_⟩;have s0:=ad hu (.lst []);have uo:∀i,(uni g (row.take i)).Nodup/\(∀m∈uni g (row.take i),m∈ls):=λi=>by
  obtain⟨a,b,_⟩:=Ae ld (row.take i) (λl hl=>BB l (lX hl)) [] jN (λm hm=>nomatch hm);exact⟨a,b⟩
 have ul:∀i,(uni g (row.take i)).length<=36:=λi=>bQ (i5 (uo i).1 (uo i).2) ld.few;refine⟨_,rfl,rw,rfl,⟨_,SqL.of (s0 _ _ WP)⟩,fe (K:=K) (a:=rw) (xs:=WO) (λi σ G=>∃(r:Addr)(v3:Option V),σ=[some (.ref d),some (.ref rw),some (.ref r),v3]/\Same H G/\LetAt K G r (uni g (row.take i))) ⟨u,none,rfl,s0,[],ac,.nil⟩ (λi σ G _ z=>by obtain⟨_,_,_,sG,_⟩:=z;exact SqL.of (sG _ _ WP)) ?_ ?_⟩
 ·intro i x σ G hx zE;obtain⟨r,v3,rfl,sG,xs,gr,AI⟩:=zE;generalize zI:d6.mk _ _ _ _=zV;revert zI zV;refine id ?_;intro zV zI;obtain⟨l,el,hl⟩:=MG.getm hx;obtain⟨la,rfl,CC⟩:=gj (hl.mono sG);have lm:l∈ls:=BB l (bK el);obtain⟨kvs,dd,tt⟩:=tb.mono sG;obtain⟨b,eb,ys,gb,AO⟩:=tt l lm;have gl:(g l).length<=36:=bQ (i5 (ld.nd l lm) (ld.sub l lm)) ld.few;have xl:xs.length=(uni g (row.take i)).length:=(by rw[AI.length,aI]);have x36:=ul i;have yl:ys.length=(g l).length:=(by rw[AO.length,aI]);refine⟨_,rfl,_,rfl,_,rfl,d,kvs,la,_,.ref b,rfl,rfl,dd,e9 CC,eb,b,rfl,⟨_,SqL.of gb⟩,λD hD=>?_⟩;refine di (K:=K) (a:=b) (xs:=ys) (λe zs G3=>Same G G3/\G3 D=some (.lst zs)/\Holds K G3 zs ((((g l).take e).filter λm=>!decide (m∈uni g (row.take i))).map fj)) ⟨ad hD _,ac,.nil⟩ (λe zs G3 z=>z.2.1) (λe zs G3 _ z=>SqL.of (z.1 _ _ gb)) ?_ ?_
  ·intro e y zs G3 hy zE;obtain⟨s3,gD,AH⟩:=zE;obtain⟨m,em,hm⟩:=AO.getm hy;obtain⟨ma,rfl,MH⟩:=gj (hm.mono s3);have zl:zs.length<=36:=by
    rw[AH.length,aI];refine bQ (jU _ _) ?_;rw[dJ];lia
   have HU:(g l).take (e+1)=(g l).take e++[m]:=(by rw[eJ,em];rfl);refine⟨be (by lia),⟨[some _],rfl,rfl⟩,?_⟩;refine⟨_,rfl,_,rfl,r,ma,xs,_,m,rfl,rfl,SqL.of (s3 _ _ gr),jq (AI.mono s3),MH,_,rfl,?_⟩;refine cz (λcc=>?_) (λcc=>?_)
   ·have c':¬m∈uni g (row.take i):=(by simpa using cc);refine⟨_,rfl,gD,Same.put s3 hD _,ac,?_⟩;rw[HU,lO,cU];refine(AH.stay (Tups.put gD _) (df gg _)).append ?_;rw[lM,if_pos (by simpa using c')];exact .one (.tup (MH.tups (Tups.put gD _)) (d0 _))
   ·have c':m∈uni g (row.take i):=(by simpa using cc);refine⟨s3,gD,?_⟩;rw[HU,lO,lM,if_neg (by simpa using c'),wK,lB];exact AH
  ·intro zs G3 zE;obtain⟨s3,gD,AH⟩:=zE;rw[yl,eZ]at AH;have zl:zs.length<=36:=by
    rw[AH.length,aI];exact bQ (jU _ _) gl
   refine⟨r,D,xs,zs,rfl,rfl,s3 _ _ gr,gD,small (by lia),λp3 AG=>?_⟩;have t3:=ad AG (.lst (xs++zs));subst zI;refine⟨p3,_,rfl,Same.trans sG (Same.trans s3 t3),xs++zs,ac,?_⟩;have tk:row.take (i+1)=row.take i++[l]:=(by rw[eJ,el];rfl);rw[tk,P7];unfold more;rw[cU];exact(AI.mono (Same.trans s3 t3)).append (AH.mono t3)
 ·intro σ G zE;obtain⟨r,v3,rfl,sG,xs,gr,AI⟩:=zE;rw[lr,eZ]at AI;obtain⟨un,us,_⟩:=Ae ld row BB [] jN (λm hm=>nomatch hm);have u36:(uni g row).length<=36:=bQ (i5 un us) ld.few;refine⟨_,rfl,r,xs,uni g row,rfl,SqL.of gr,jq AI,by lia,λx hx=>ld.ne x (us x hx),λd' zs BH hz=>?_⟩;exact q d' _ (Same.trans sG (ad BH _)) (Same.free sG BH) ⟨zs,ac,(on hz).mono (ad BH _)⟩
end
inductive Rch (g:List Int->List (List Int))(a:List Int):List Int->Prop
 |refl:Rch g a a
 |step {b c:List Int}:Rch g a b->c∈g b->Rch g a c
def Rm (P:aP)(w:aW)(K:aC):Sp:=λvs H Q _=>∃(d la:Addr)(ls:List (List Int)) (l:List Int) (g:List Int->List (List Int)),vs=[.ref d,.ref la]/\Tab P w K H d ls g/\Led ls g/\SqT K H la (l.map V.int)/\l∈ls/\
 ∀(r':Addr)(F:List (List Int)) (H':Hp),Same H H'->H r'=none->F.Nodup->(∀y,y∈F↔Rch g l y)->LetAt K H' r' (TupSet.isort F)->Q (.ref r') H'
section
variable {P:aP}{w:aW}{K:aC}{mg:Str->Option aB}{base:Heap}
theorem E2:au ["_law_step_here","_law_letter","_law_found","_law_at"] ["_law_step_here","_law_letter"] (aj Jf):=fsN
def Rn:gM:={ kind:=.function,names:=[(".0",.local),("_law_other",.local),("_law_found",.free)],isGenerator:=false,isCoroutine:=false,more:=[] }
theorem cLd_ {CX:CXT}{f:Addr}{zH:aB}{A:cQ}{outer:List Env}{s:aG}{H:Hp}{E:XK} :
  bv (bb CX P w K mg base ["_law_step_here","_law_letter","_law_found","_law_at"] "_law_led" (aj Jf) f zH A outer s H E).nox ["_law_other"] ["_law_found"] [2] Rn [("_law_found",s.heap.objs.size+1)]:=csN [(".0",.local),("_law_other",.local),("_law_found",.cell)]
theorem V8 {f:Addr}{fd:bX}(F:Fun K "_law_led" "_law_led" Jf f fd)(ms:mg "sorted"=none)(ml:mg "len"=none):FnOk P w K mg base CX0 1 f fd ["_law_step_here","_law_letter"] (Rm P w K):=by
 refine F.ok E2 (λvs H Q E h=>?_) (λzH A outer s H vs Q E hr h=>?_)
 ·obtain⟨d,la,ls,l,g,rfl,_⟩:=h;rfl
 obtain⟨d,la,ls,l,g,rfl,tb,ld,CC,lm,q⟩:=h;refine⟨_,ag (av (i:=2) E2.nd rfl (mZ rfl) (az (aa (pv 1) ae))) (ag (av (i:=3) E2.nd rfl (cD rfl) af) (ag (nh eU (bc vb (pv 3) (bn bj rfl ml gF (aa (pv 2) ae)) (bg _)) (ag (av (i:=2) E2.nd rfl (mZ rfl) (ay dw (pv 2) (dy (ns:=["_law_other"]) (ys:=["_law_found"]) (sc:=Rn) cLd_ rfl (cf (aq (gi (P:=P) (w:=w) (K:=K) rfl rfl rfl (hu8 hr)) (pv 0) (aq ar (pv 2) (pv 3) (λ_ _=>rfl)) (λ_ _=>rfl))) (λC s H fp=>ba (i:=0) (by show(["_law_other","_law_found"]:List Str).Nodup;decide +kernel) rfl (cD rfl)) (λC s H fp=>pw (bc (B5 (K:=K) rfl (hu8 hr)) (pv 0) (pv 1) (by with_unfolding_all rfl))) (λC s H fp=>pv 0)))) (ah (av (i:=3) E2.nd rfl (cD rfl) (ay ie (pv 3) af))))) (ah (ax (Ez rfl ms (by kernel_rfl) (pv 2)))))),?_⟩
 dsimp only[bb,Cx.nox];refine⟨_,rfl,sz1,λu hu=>?_⟩;have s0:=ad hu (.lst [.ref la]);refine⟨λm σ G=>∃(r:Addr)(xs:List V) (fs:List (List Int)) (CD:Nat),σ=[some (.ref d),some (.ref la),some (.ref r),some (.int (CD:Int))]/\Same H G/\G r=some (.lst xs)/\Holds K G xs (fs.map fj)/\fs.Nodup/\(∀y∈fs,y∈ls)/\l∈fs/\(∀y∈fs,Rch g l y)/\(∀i y,i < CD->fs[i]?=some y->∀z∈g y,z∈fs)/\CD<=fs.length/\m=37 - CD,⟨_,u,[.ref la],[l],0,rfl,s0,ac,.one (.tup (CC.same s0) (d0 _)),iQ.mpr ⟨(λz=>nomatch z),jN⟩,(λy hy=>by rw[aY.mp hy];exact lm),aY.mpr rfl,(λy hy=>by rw[aY.mp hy];exact .refl),(λi y hi=>absurd hi (nR _)),eV _,rfl⟩,?_⟩;intro m σ G zE;obtain⟨r,xs,fs,CD,rfl,sG,gr,AI,fn,FT,lf,fr,fc,al,rfl⟩:=zE;have RP:fs.length<=36:=bQ (i5 fn FT) ld.few;have xl:xs.length=fs.length:=(by rw[AI.length,aI]);refine⟨_,rfl,_,rfl,r,_,rfl,.inl (SqL.of gr),_,_,rfl,rfl,_,rfl,?_⟩;refine cz (λcc=>?_) (λcc=>?_)
 ·have c':(CD:Int) < ((xs.length:Nat):Int):=of_decide_eq_true cc;have ha:CD < fs.length:=(by lia);have ex:xs[CD]?=some (xs[CD]'(by lia)):=aK (by lia);obtain⟨y,ey,hy⟩:=AI.getm ex;obtain⟨ya,eya,hya⟩:=gj hy;have ym:y∈ls:=FT y (bK ey);obtain⟨kvs,dd,tt⟩:=tb.mono sG;obtain⟨b,eb,ys,gb,AO⟩:=tt y ym;have gl:(g y).length<=36:=bQ (i5 (ld.nd y ym) (ld.sub y ym)) ld.few;have yl:ys.length=(g y).length:=(by rw[AO.length,aI]);refine⟨λσ' G'=>∃(r:Addr)(xs:List V) (fs:List (List Int)),σ'=[some (.ref d),some (.ref la),some (.ref r),some (.int ((CD+1:Nat):Int))]/\Same H G'/\G' r=some (.lst xs)/\Holds K G' xs (fs.map fj)/\fs.Nodup/\(∀y∈fs,y∈ls)/\l∈fs/\(∀y∈fs,Rch g l y)/\(∀i y,i < CD+1->fs[i]?=some y->∀z∈g y,z∈fs)/\CD+1<=fs.length,λσ' G' z=>?_,?_⟩
  ·obtain⟨r,xs,fs,z1,z2,z3,z4,z5,z6,z7,z8,z9,PQ⟩:=z;exact⟨37 - (CD+1),by lia,r,xs,fs,CD+1,z1,z2,z3,z4,z5,z6,z7,z8,z9,PQ,rfl⟩
  refine⟨_,rfl,_,rfl,_,rfl,_,rfl,r,xs,_,_,rfl,rfl,SqL.of gr,(bf ex),d,kvs,ya,_,.ref b,rfl,eya,dd,e9 hya,eb,b,rfl,⟨_,SqL.of gb⟩,λD hD=>?_⟩;refine di (K:=K) (a:=b) (xs:=ys) (λe zs G3=>Same G G3/\G3 D=some (.lst zs)/\Holds K G3 zs ((((g y).take e).filter λm=>!decide (m∈fs)).map fj)) ⟨ad hD _,ac,.nil⟩ (λe zs G3 z=>z.2.1) (λe zs G3 _ z=>SqL.of (z.1 _ _ gb)) ?_ ?_
  ·intro e x zs G3 hx zE;obtain⟨s3,gD,AH⟩:=zE;obtain⟨m,em,hm⟩:=AO.getm hx;obtain⟨ma,rfl,MH⟩:=gj (hm.mono s3);have zl:zs.length<=36:=by
    rw[AH.length,aI];refine bQ (jU _ _) ?_;rw[dJ];lia
   have HU:(g y).take (e+1)=(g y).take e++[m]:=(by rw[eJ,em];rfl);refine⟨be (by lia),⟨[some _],rfl,rfl⟩,?_⟩;refine⟨_,rfl,_,rfl,r,ma,xs,_,m,rfl,rfl,SqL.of (s3 _ _ gr),jq (AI.mono s3),MH,_,rfl,?_⟩;refine cz (λcc=>?_) (λcc=>?_)
   ·have c':¬m∈fs:=(by simpa using cc);refine⟨_,rfl,gD,Same.put s3 hD _,ac,?_⟩;rw[HU,lO,cU];refine(AH.stay (Tups.put gD _) (df gg _)).append ?_;rw[lM,if_pos (by simpa using c')];exact .one (.tup (MH.tups (Tups.put gD _)) (d0 _))
   ·have c':m∈fs:=(by simpa using cc);refine⟨s3,gD,?_⟩;rw[HU,lO,lM,if_neg (by simpa using c'),wK,lB];exact AH
  ·intro zs G3 zE;obtain⟨s3,gD,AH⟩:=zE;rw[yl,eZ]at AH;have zl:zs.length<=36:=by
    rw[AH.length,aI];exact bQ (jU _ _) gl
   refine⟨r,D,xs,zs,rfl,rfl,s3 _ _ gr,gD,small (by lia),λp3 AG=>?_⟩;have t3:=ad AG (.lst (xs++zs));refine⟨_,rfl,_,_,rfl,rfl,p3,xs++zs,more g fs y,rfl,Same.trans sG (Same.trans s3 t3),ac,?_,Ha fn (ld.nd y ym),λz hz=>?_,jm.mpr (.inl lf),λz hz=>?_,λi z hi ez v hv=>?_,?_⟩
   ·unfold more;rw[cU];exact(AI.mono (Same.trans s3 t3)).append (AH.mono t3)
   ·rcases jm.mp hz with z1 | z1
    ·exact FT z z1
    ·exact ld.sub y ym z z1
   ·rcases jm.mp hz with z1 | z1
    ·exact fr z z1
    ·exact .step (fr y (bK ey)) z1
   ·have e2:fs[i]?=some z:=by
     unfold more at ez;rw[eB (by lia)]at ez;exact ez
    by_cases ei:i=CD
    ·subst ei;rw[ey]at e2;cases e2;exact jm.mpr (.inr hv)
    ·exact jm.mpr (.inl (fc i z (by lia) e2 v hv))
   ·unfold more;rw[aO];lia
 ·have c':¬(CD:Int) < ((xs.length:Nat):Int):=λz=>cc (decide_eq_true z);have ea:CD=fs.length:=(by lia);refine⟨_,rfl,r,xs,fs,rfl,SqL.of gr,jq AI,by lia,λx hx=>ld.ne x (FT x hx),λd' zs BH hz=>?_⟩;refine q d' fs _ (Same.trans sG (ad BH _)) (Same.free sG BH) fn (λy=>⟨fr y,λh=>?_⟩) ⟨zs,ac,(on hz).mono (ad BH _)⟩
  induction h with
  |refl=>exact lf
  |step h1 h2 ih=>
   obtain⟨i,hi⟩:=jG ih;exact fc i _ (by rw[ea];exact(aL.mp hi).1) hi _ h2
end
theorem E3:∀(x y:List Int),TupSet.lexLt x y=HT.lexLt x y
 | [],[]=>by rfl
 | [],_::_=>by rfl
 |_::_,[]=>by rfl
 |a::x,b::y=>by
  rw[HT.lexLt_cons,<-E3 x y];rfl
theorem B6 (ws:List (Str×Nat)):TupSet.SortedT (LL ws):=
 List.Pairwise.imp (R:=λa b=>HT.lexLt a b=true) (S:=TupSet.lexLe) (λ{a b} h=>(TupSet.lex_asymm (by rw[E3];exact h):TupSet.lexLt b a=false)) (fk (ws.map (·.2))).ord
open Classical in
noncomputable def gW (ws:List (Str×Nat))(s:Say)(l:List Int):List (List Int):=(LL ws).filter λm=>decide (s.W ws 0 0 ((LL ws).idxOf l) ((LL ws).idxOf m))
theorem dm {ws:List (Str×Nat)}{s:Say}{l m:List Int}:m∈gW ws s l↔m∈LL ws/\s.W ws 0 0 ((LL ws).idxOf l) ((LL ws).idxOf m):=by
 unfold gW;rw[lA];simp only[decide_eq_true_eq]
theorem sh (ws:List (Str×Nat))(s:Say)(l:List Int):(gW ws s l).Nodup:=(ig _).filter _
theorem Nc (ws:List (Str×Nat))(s:Say)(l:List Int):TupSet.SortedT (gW ws s l):=(B6 ws).filter _
theorem Cr {ws:List (Str×Nat)}{s:Say}{l:List Int}{xs:List (List Int)}(nd:xs.Nodup)(h:∀y,y∈xs↔y∈LL ws/\s.W ws 0 0 ((LL ws).idxOf l) ((LL ws).idxOf y)):TupSet.isort xs=gW ws s l:=
 (TupSet.isort_of (TupG.nodup_perm (sh ws s l) nd λy=>dm.trans (h y).symm) (Nc ws s l)).symm
theorem P9 {l:List (List Int)}(h:TupSet.SortedT l):TupSet.isort l=l:=(TupSet.isort_of (.refl _) h).symm
theorem oo {ws:List (Str×Nat)}{s:Say}{l:List Int}{xs:List (List Int)}(nd:xs.Nodup)(so:TupSet.SortedT xs)(h:∀y,y∈xs↔y∈LL ws/\s.W ws 0 0 ((LL ws).idxOf l) ((LL ws).idxOf y)):xs=gW ws s l:=by
 rw[<-Cr nd h,P9 so]
theorem Af {ws:List (Str×Nat)}(h:br ws)(RQ:(LL ws).length<=36)(s:Say):Led (LL ws) (gW ws s) where
 few:=RQ
 ne:=λl hl e=>by
  have hw:=(fk (ws.map (·.2))).wide l hl;rw[e,aI]at hw;have JA:0=ws.length:=hw;have:=h.lo;lia
 nd:=λl _=>sh ws s l
 sub:=λl _ m hm=>(dm.mp hm).1
section
variable {ws:List (Str×Nat)}{l:List Int}
theorem fq (hl:l∈LL ws):(LL ws)[(LL ws).idxOf l]?=some l/\(LL ws).idxOf l < (LL ws).length:=by
 have hj:=kK.mpr hl;exact⟨by rw[aK hj,pC],hj⟩
theorem u8 {i:Nat}{l:List Int}(e:(LL ws)[i]?=some l):(LL ws).idxOf l=i:=by
 have hl:l∈LL ws:=bK e;have hj:(LL ws).idxOf l < (LL ws).length:=kK.mpr hl;have e2:(LL ws)[(LL ws).idxOf l]?=some l:=(fq hl).1;exact(List.getElem?_inj hj (ig _)).mp (e2.trans e.symm)
theorem Ba {l m:List Int}(hl:l∈LL ws)(hm:m∈LL ws)(e:(LL ws).idxOf l=(LL ws).idxOf m):l=m:=by
 have h1:=(fq hl).1;rw[e,(fq hm).1]at h1;exact(eA h1).symm
theorem m7 (l:List Int):TupSet.SortedT [l]:=rP _ _
theorem Ag (l:List Int):[l].Nodup:=iQ.mpr ⟨(λz=>nomatch z),jN⟩
theorem Qa:gW ws .nought l=[]:=by
 refine(oo jN oA λy=>⟨(λz=>nomatch z),λz=>?_⟩).symm;exact z.2.elim
theorem Ty (hl:l∈LL ws):gW ws .every l=[l]:=by
 refine(oo (Ag l) (m7 l) λy=>?_).symm;rw[aY];exact⟨λe=>⟨e ▸ hl,by rw[e];rfl⟩,λz=>Ba z.1 hl z.2⟩
theorem Qb {a b:Say}:TupG.srtG (gW ws a l++gW ws b l)=gW ws (.either a b) l:=by
 refine Cr (TupG.nodup_dd _) λy=>?_;rw[TupG.mem_dd,eC,dm,dm];have e:(Say.either a b).W ws 0 0=orR (LL ws).length (a.W ws 0 0) (b.W ws 0 0):=by
  show jh (LL ws).length (a.rm+1) (a.W ws) (b.W ws) 0 0=_;unfold jh;rw[if_pos (by lia),if_pos ⟨rfl,rfl⟩]
 rw[e];unfold orR;exact⟨λz=>by rcases z with z | z;exact⟨z.1,.inl z.2⟩;exact⟨z.1,.inr z.2⟩,λz=>by rcases z.2 with y | y;exact .inl ⟨z.1,y⟩;exact .inr ⟨z.1,y⟩⟩
theorem V9 {a b:Say}(h:br ws)(RQ:(LL ws).length<=36):TupSet.isort (uni (gW ws b) (gW ws a l))=gW ws (.both a b) l:=by
 obtain⟨nd,sb,mm⟩:=Ae (Af h RQ b) (gW ws a l) (λm hm=>(dm.mp hm).1) [] jN (λm hm=>nomatch hm);refine Cr nd λy=>?_;have e:(Say.both a b).W ws 0 0=jg (LL ws).length (a.W ws 0 0) (b.W ws 0 0):=by
  show ki (LL ws).length (a.rm+1) (a.W ws) (b.W ws) 0 0=_;unfold ki;rw[if_pos (by lia),if_pos rfl]
 rw[e];refine(mm y).trans ⟨λz=>?_,λz=>?_⟩
 ·rcases z with z | ⟨m,hm,hy⟩
  ·exact nomatch z
  ·obtain⟨m1,m2⟩:=dm.mp hm;obtain⟨y1,y2⟩:=dm.mp hy;exact⟨y1,_,(fq m1).2,m2,y2⟩
 ·obtain⟨y1,k,hk,k1,k2⟩:=z;have ek:(LL ws)[k]?=some (LL ws)[k]:=aK hk;have ik:=u8 ek;have mk:(LL ws)[k]∈LL ws:=bK ek;exact .inr ⟨(LL ws)[k],dm.mpr ⟨mk,by rw[ik];exact k1⟩,dm.mpr ⟨y1,by rw[ik];exact k2⟩⟩
theorem g_no {a:Say}(hl:l∈LL ws):([l].drop (gW ws a l).length).take 1=gW ws (.no a) l:=by
 have e:(Say.no a).W ws 0 0=nq (LL ws).length (a.W ws 0 0):=rfl;cases hg:gW ws a l with
 |nil=>
  refine oo (Ag l) (m7 l) λy=>?_;show y∈[l]↔_;rw[aY,e];refine⟨λz=>⟨z ▸ hl,by rw[z],λk hk hR=>?_⟩,λz=>Ba z.1 hl z.2.1⟩;have ek:(LL ws)[k]?=some (LL ws)[k]:=aK hk;have:(LL ws)[k]∈gW ws a l:=dm.mpr ⟨bK ek,by rw[u8 ek];exact hR⟩;rw[hg]at this;exact nomatch this
 |cons m r=>
  have e0:([l].drop (m::r).length).take 1=[]:=(by simp);rw[e0];refine oo jN oA λy=>?_;refine⟨(λz=>nomatch z),λz=>?_⟩;rw[e]at z;have hm:m∈gW ws a l:=(by rw[hg];exact cJ);obtain⟨m1,m2⟩:=dm.mp hm;exact absurd m2 (z.2.2 _ (fq m1).2)
theorem Nd {n:Nat}{R:Nat->Nat->Prop}{i j k:Nat}(a:Star n R i j)(h:R j k)(hk:k < n):Star n R i k:=a.trans (.step h hk .refl)
theorem Qc {a:Say}{y:List Int}(hl:l∈LL ws)(h:Rch (gW ws a) l y):y∈LL ws/\Star (LL ws).length (a.W ws 0 0) ((LL ws).idxOf l) ((LL ws).idxOf y):=by
 induction h with
 |refl=>exact⟨hl,.refl⟩
 |step h1 h2 ih=>
  obtain⟨m1,m2⟩:=dm.mp h2;exact⟨m1,Nd ih.2 m2 (fq m1).2⟩
theorem Nf {g:List Int->List (List Int)}{a b c:List Int}(h:Rch g a b)(k:Rch g b c):Rch g a c:=by
 induction k with
 |refl=>exact h
 |step _ h2 ih=>exact .step ih h2
theorem Qd {a:Say}{i j:Nat}(h:Star (LL ws).length (a.W ws 0 0) i j):∀{l y:List Int},(LL ws)[i]?=some l->(LL ws)[j]?=some y->Rch (gW ws a) l y:=by
 induction h with
 |refl=>
  intro l y e1 e2;rw[e1]at e2;cases e2;exact .refl
 |step h1 hk _ ih=>
  intro l y e1 e2;have ek:=aK hk;refine Nf (.step .refl (dm.mpr ⟨bK ek,?_⟩)) (ih ek e2);rw[u8 e1,u8 ek];exact h1
theorem Tz {a:Say}{F:List (List Int)}(hl:l∈LL ws)(nd:F.Nodup)(h:∀y,y∈F↔Rch (gW ws a) l y):TupSet.isort F=gW ws (.again a) l:=by
 have e:(Say.again a).W ws 0 0=Star (LL ws).length (a.W ws 0 0):=by
  show nv (LL ws).length (a.W ws) 0 0=_;unfold nv;rw[if_pos rfl,if_pos rfl]
 refine Cr nd λy=>(h y).trans ?_;rw[e];exact⟨λz=>Qc hl z,λz=>Qd z.2 (fq hl).1 (fq z.1).1⟩
theorem g_is {f:Fld}{v:Num}{p c:Nat}(hk:look ws f.1=some (p,c))(hl:l∈LL ws)(ev:l[p]?=some v.1):gW ws (.is f v) l=[l]:=by
 refine(oo (Ag l) (m7 l) λy=>?_).symm;have e:(Say.is f v).W ws 0 0=isR (LL ws) p v.1:=by
  show(match look ws f.1 with | some (p,_)=>isR (LL ws) p v.1 | none=>λ_ _=>False)=_
  rw[hk]
 rw[aY,e];exact⟨λz=>⟨z ▸ hl,by rw[z],l,(fq hl).1,ev⟩,λz=>Ba z.1 hl z.2.1⟩
theorem Wa {f:Fld}{v:Num}{p c:Nat}(hk:look ws f.1=some (p,c))(hl:l∈LL ws)(ev:l[p]?≠some v.1):gW ws (.is f v) l=[]:=by
 refine(oo jN oA λy=>⟨(λz=>nomatch z),λz=>?_⟩).symm;have e:(Say.is f v).W ws 0 0=isR (LL ws) p v.1:=by
  show(match look ws f.1 with | some (p,_)=>isR (LL ws) p v.1 | none=>λ_ _=>False)=_
  rw[hk]
 rw[e]at z;obtain⟨_,_,m,em,e2⟩:=z;rw[(fq hl).1]at em;cases em;exact absurd e2 ev
theorem Xo {f:Fld}{v:Num}{p c:Nat}(hk:look ws f.1=some (p,c))(hl:l∈LL ws)(hp:l.set p v.1∈LL ws):gW ws (.put f v) l=[l.set p v.1]:=by
 refine(oo (Ag _) (m7 _) λy=>?_).symm;have e:(Say.put f v).W ws 0 0=xj (LL ws) p v.1:=by
  show(match look ws f.1 with | some (p,_)=>xj (LL ws) p v.1 | none=>λ_ _=>False)=_
  rw[hk]
 rw[aY,e];refine⟨λz=>⟨z ▸ hp,l,(fq hl).1,by rw[z];exact(fq hp).1⟩,λz=>?_⟩;obtain⟨y1,m,em,e2⟩:=z;rw[(fq hl).1]at em;cases em;rw[(fq y1).1]at e2;exact eA e2
end
end S23
namespace L2
open PySem PySem.Spec PyProof.Rows PySem.Deep
section
variable {X:Cx}{pos:Pos}
def Wb (P:aP)(w:aW):TE:=λ_ H Q=>∀p,H p=none->(p == lR)=false->Q (.ref p) (upd H p (dz P w p []))
theorem Qe {P:aP}{w:aW}(hP:X.prog=P)(hw:X.w=w):PE X (.Dict [] [] pos) (Wb P w):=by
 subst hP hw;intro f' s σ H Q I h;have hd:(s.heap.push { cls:=.type "dict",data:=.dict #[] }).DictOfH (j8 X.prog X.w) s.heap.objs.size []:=
  ⟨_,#[],0,bV _ rfl,⟨rfl,rfl,rfl⟩,rfl,rfl,(λx hx=>nomatch hx),jN⟩
 exact wpAny_Dict_empty ⟨.ref s.heap.objs.size,_,I.laid (a:=s.heap.objs.size) (o:=dz X.prog X.w s.heap.objs.size []) (t':=s.toks) (λ_ _ q=>aJ _ q) (aN _) (E1 (kvs:=[]) .nil hd),rfl,h _ (I.hok.fresh (aN _)) (beq_eq_false_iff_ne.mpr (Ne.symm (cK I.big)))⟩
def Hc (K:aC):V->List V->Hp->VK->Prop:=λx vs H Q=>∃(a:Addr)(ss:List Str) (t:Str),x=.ref a/\vs=[.str t]/\SqL K H a (ss.map V.str)/\t∈ss/\Q (.int (ss.idxOf t:Nat)) H
theorem B7:∀ss:List Str,(ss.map V.str).all jt=true
 | []=>rfl
 |s::ss=>by rw[eO,xD,B7 ss];rfl
theorem Ng:MtR X "list.index" (Hc X.K):=by
 intro f' s σ H x vs v us Q I rx rv h;obtain⟨a,ss,t,rfl,rfl,hx,hm,q⟩:=h;cases rx;obtain⟨u,rfl,ru⟩:=jf rv;obtain⟨its,r,p,hz⟩:=I.list hx;obtain⟨⟨cls,dd,data,sl⟩,ho,hc,n,hd⟩:=p.isList;simp only at hc hd;subst hc hd;have NH:=r.length;rw[aI]at NH;have hj:ss.idxOf t < ss.length:=kK.mpr hm;have key:∀(m:Nat)(hm:m < its.length) (LO:m < ss.length),eqU (.str t) its[m]=decide (ss[m]=t):=λm hm LO=>by
  have NL:(ss.map V.str)[m]?=some (.str ss[m]):=(by rw[cY,aK LO];rfl);obtain⟨w,ew,DB⟩:=r.get NL;rw[aK hm]at ew;have e1:its[m]=w:=eA ew;rw[e1,Cz DB rfl];show(ss[m] == t)=decide (ss[m]=t);rw[oV,beq_iff_eq,decide_eq_true_iff]
 have hb63:=lg;rw[aI]at hz;refine pU mQ ⟨_,ho,rfl⟩ PySem.F.entry_list_index (PySem.F.args_list_index_2 _ _)
  (SeqAt.list_indexAt a its.toArray n dd sl u (eqU (.str t)) (ss.idxOf t) (by simp;lia) (by lia) ?_ ?_) ⟨ho,λy hy=>?_,⟨.int _,H,I.tok _,⟨_,rfl⟩,q⟩⟩
 ·rw[oE,key _ (by lia) hj];simp[pC]
 ·intro m QJ zR;rw[oE,key m (by simpa using QJ) (by lia)];rw[decide_eq_false_iff_not];exact λe1=>Ec zR (by lia) e1
 ·exact qi (x:=.str t) ru rfl r (B7 ss) y (by simpa using hy)
theorem Kn {K:aC}(hK:X.K=K):MtR X "list.index" (Hc K):=by
 subst hK;exact Ng
end
end L2
namespace S23
open PySem L2 Bits S1 Fly PySem.Deep
def PTab (P:aP)(w:aW)(K:aC)(B H:Hp)(d:Addr)(n:Nat)(ls:List (List Int))(g:List Int->List (List Int)):Prop:=∃kvs,DictAt P w K H d kvs/\kvs.length<=n/\∀l∈ls,∃b,atK kvs (kL l)=some (.ref b)/\LetAt K H b (g l)/\B b=none
theorem jn (e:List I2×Addr×V)(r:DE)(k:List I2):atK (e::r) k=if e.1=k then some e.2.2 else atK r k:=by
 unfold atK;rw[nQ];by_cases h:e.1=k
 ·simp[h]
 ·simp[h]
theorem Bb:∀(a:DE)(e:List I2×Addr×V) (k:List I2),atK a k=none->atK (a++[e]) k=if e.1=k then some e.2.2 else none
 | [],e,k,_=>by rw[List.nil_append,jn];rfl
 |f::a,e,k,h=>by
  rw[jn]at h;rw[sO,jn];by_cases c:f.1=k
  ·rw[if_pos c]at h;cases h
  ·rw[if_neg c]at h ⊢;exact Bb a e k h
theorem E4:∀(a b:DE)(k:List I2) (v:V),atK a k=some v->atK (a++b) k=some v
 | [],b,k,v,h=>by cases h
 |f::a,b,k,v,h=>by
  rw[jn]at h;rw[sO,jn];by_cases c:f.1=k
  ·rw[if_pos c]at h ⊢;exact h
  ·rw[if_neg c]at h ⊢;exact E4 a b k v h
theorem Hd {k:List I2}{v:V}:∀(a:DE)(k':List I2),atK (a.map λe=>if e.1=k then (e.1,e.2.1,v)else e) k'=if k'=k then (atK a k').map (λ_=>v)else atK a k'
 | [],k'=>by show none=_;split<;>rfl
 |e::a,k'=>by
  rw[eO,jn,Hd a k',jn];by_cases c:e.1=k
  ·rw[if_pos c];by_cases d:e.1=k'
   ·rw[if_pos d,if_pos d,if_pos (d.symm.trans c)];rfl
   ·rw[if_neg d,if_neg d]
  ·rw[if_neg c];by_cases d:e.1=k'
   ·rw[if_pos d,if_pos d,if_neg (λz=>c (d.trans z))]
   ·rw[if_neg d,if_neg d]
theorem Nh (a:DE)(k k':List I2)(b:Addr)(v:V):atK (d9 a k b v) k'=if k'=k then some v else atK a k':=by
 unfold d9;cases h:atK a k with
 |none=>
  rw[if_neg (by simp)];by_cases c:k'=k
  ·subst c;rw[Bb a _ _ h,if_pos rfl,if_pos rfl]
  ·rw[if_neg c];cases h':atK a k' with
   |none=>rw[Bb a _ _ h',if_neg (λz=>c z.symm)]
   |some u=>exact E4 a _ _ u h'
 |some u=>
  rw[if_pos (by simp),Hd];by_cases c:k'=k
  ·subst c;rw[if_pos rfl,if_pos rfl,h];rfl
  ·rw[if_neg c,if_neg c]
theorem Ni:∀{l m:List Int},kL l=kL m->l=m
 | [],[],_=>rfl
 | [],_::_,h=>by cases h
 |_::_,[],h=>by cases h
 |a::l,b::m,h=>by
  obtain⟨h1,h2⟩:=qG h;cases h1;rw[Ni h2]
theorem PTab.set {P:aP}{w:aW}{K:aC}{B H:Hp}{d c b:Addr}{n:Nat}{ls:List (List Int)}{g:List Int->List (List Int)}{kvs:DE}{l:List Int}{ys:List (List Int)}(dd:DictAt P w K H d kvs)(kn:kvs.length<=n)(hn:n < 1000)
  (tt:∀m∈ls,m≠l->∃b,atK kvs (kL m)=some (.ref b)/\LetAt K H b (g m)/\B b=none) (kb:SqT K H c (l.map V.int)) (hb:LetAt K H b ys) (hB:B b=none) (hg:ys=g l) :
  PTab P w K B (upd H d (dz P w d (d9 kvs (kL l) c (.ref b)))) d (n+1) (ls++[l]) g:=by
 have tp:Tups H (upd H d (dz P w d (d9 kvs (kL l) c (.ref b)))):=⟨λb ys e=>by
   rw[ai (im e dd.at_ (by intro z;cases z))];exact e,λb ob v e=>by
   rw[ai (im e dd.at_ (by intro z;cases z))];exact e⟩
 have ne:∀{x:Addr}{xs:List V},H x=some (.lst xs)->x≠d:=λhx=>im hx dd.at_ (by intro z;cases z);have lt:∀{x:Addr}{zs:List (List Int)},LetAt K H x zs->LetAt K (upd H d (dz P w d (d9 kvs (kL l) c (.ref b)))) x zs:=λzF=>(by obtain⟨xs,h1,h2⟩:=zF;exact⟨xs,by rw[ai (ne h1)];exact h1,h2.stay tp (df gg _)⟩);refine⟨_,⟨ac,λe he=>?_,?_,dd.sys⟩,?_,λm hm=>?_⟩
 ·rcases Kl he with⟨h1,h2⟩ | h1
  ·rcases h2 with h2 | h2
   ·rw[h1,h2];exact(e9 kb).tups tp
   ·obtain⟨e',HB,h3,h4⟩:=h2;have z:=(dd.keys e' HB).tups tp;rw[h3,h4]at z;rw[h1];exact z
  ·exact(dd.keys e h1).tups tp
 ·exact bQ (Ac _ _ _ _) (bQ (show kvs.length+1<=1000 by lia) (by decide))
 ·exact bQ (Ac _ _ _ _) (by lia)
 ·rw[Nh];by_cases e:m=l
  ·subst e;rw[if_pos rfl];exact⟨b,rfl,hg ▸ lt hb,hB⟩
  ·rw[if_neg (λz=>e (Ni z))];rcases eC.mp hm with z | z
   ·obtain⟨b',e1,e2,e3⟩:=tt m z e;exact⟨b',e1,lt e2,e3⟩
   ·exact absurd (aY.mp z) e
section
variable {K:aC}
theorem Nj {σ:L2.St}{G:Hp}{Q:VK}{a:Addr}{l:List Int}{i jl ji:Nat}{te:TE}{v:Int}(h1:σ[jl]?=some (some (.ref a)))(h2:σ[ji]?=some (some (.int (i:Int))))(h3:∀(G':Hp)(Q':VK),Same G G'->Q' (.int v) G'->te σ G' Q')(ha:SqT K G a (l.map V.int))(hi:i < l.length)(hl:l.length<=100)
  (q:∀p G',Same G G'->G' p=some (.tup ((l.take i++v::l.drop (i+1)).map V.int))->Q (.ref p) G') :
  tOp (λx y H Q=>io K x y H Q\/fz K x y H Q) (tOp (λx y H Q=>io K x y H Q\/fz K x y H Q) (tSl (ni K) (ii jl) j0 (qh (ii ji))) (N4 (Cf te N3)))
   (tSl (ni K) (ii jl) (qh (tOp (rI0 λi j=>.int (i+j)) (ii ji) (tC (.int 1)))) j0) σ G Q:=by
 have s0:HT.sIx (l.map V.int).length 0 none=0:=rfl;have s1:HT.sIx (l.map V.int).length (l.map V.int).length (some (i:Int))=i:=(by rw[HT.sIx_nat,aI];lia);have s2:HT.sIx (l.map V.int).length 0 (some ((i:Int)+1))=i+1:=by
  have z:=HT.sIx_nat (l.map V.int).length 0 (i+1);rw[aI]at z ⊢;rw[show((i:Int)+1)=((i+1:Nat):Int)from by lia,z];lia
 have s3:HT.sIx (l.map V.int).length (l.map V.int).length none=l.length:=(by rw[HT.sIx_none,aI]);have c1:cr (l.map V.int) none (some (i:Int))=(l.take i).map V.int:=by
  unfold cr;rw[s0,s1];simp
 have c2:cr (l.map V.int) (some ((i:Int)+1)) none=(l.drop (i+1)).map V.int:=by
  unfold cr;rw[s2,s3,lF (by rw[hX,aI];lia),xF]
 have zL:∀p G',Same G G'->G' p=some (.tup ((l.take i++[v]).map V.int))->
   tSl (ni K) (ii jl) (qh (tOp (rI0 λi j=>.int (i+j)) (ii ji) (tC (.int 1)))) j0 σ G' λy H2=>io K (.ref p) y H2 Q\/fz K (.ref p) y H2 Q:=by
  intro p G' sG hp;have DN:=ha.same sG;refine⟨_,h1,_,h2,_,_,rfl,rfl,_,rfl,a,_,rfl,DN,?_,λp2 f2=>?_⟩
  ·rw[s2];lia
  ·rw[c2];have pp:p≠p2:=am hp f2;have zZ:upd G' p2 (.tup ((l.drop (i+1)).map V.int)) p=some (.tup ((l.take i++[v]).map V.int)):=(by rw[ai pp];exact hp);have ED:Same G (upd G' p2 (.tup ((l.drop (i+1)).map V.int))):=Same.trans sG (ad f2 _);refine .inl ⟨p,p2,_,_,rfl,rfl,SqT.of zZ,SqT.of ac,by simp,small (by simp;lia),λe=>?_,λ_ p3 f3=>?_⟩
   ·have e':l.drop (i+1)=[]:=(by simpa using e);refine q p _ ED ?_;rw[zZ,e']
   ·refine q p3 _ (Same.trans ED (ad f3 _)) ?_;rw[ac];simp
 refine⟨_,h1,_,h2,_,rfl,a,_,rfl,ha,?_,λp1 f1=>?_⟩
 ·rw[s1,aI];lia
 rw[c1];refine h3 _ _ (ad f1 _) ⟨sz1,λp2 f2=>?_⟩;have PP:p1≠p2:=λe=>(by rw[e,ac]at f2;cases f2);have BC:upd (upd G p1 (.tup ((l.take i).map V.int))) p2 (.tup [.int v]) p1=some (.tup ((l.take i).map V.int)):=(by rw[ai PP,ac]);have ED:Same G (upd (upd G p1 (.tup ((l.take i).map V.int))) p2 (.tup [.int v])):=Same.trans (ad f1 _) (ad f2 _);by_cases i0:l.take i=[]
 ·refine .inr ⟨p1,p2,_,rfl,rfl,SqT.of (by rw[BC,i0];rfl),SqT.of ac,zL p2 _ ED ?_⟩;rw[ac,i0];rfl
 ·refine .inl ⟨p1,p2,_,_,rfl,rfl,SqT.of BC,SqT.of ac,(by simpa using i0),small (by simp;lia),(λe=>by cases e),λ_ p3 f3=>zL p3 _ (Same.trans ED (ad f3 _)) ?_⟩;rw[ac];simp
end
theorem E5:∀{ws:List (Str×Nat)}{x:Str}{p c:Nat},look ws x=some (p,c)->(ws.map (·.1)).idxOf x=p/\x∈ws.map (·.1)/\p < ws.length
 | [],x,p,c,h=>by cases h
 |w::r,x,p,c,h=>by
  unfold look at h;by_cases e:w.1=x
  ·rw[if_pos e]at h;cases h;refine⟨?_,?_,xU _⟩
   ·rw[eO,e,List.idxOf_cons_self]
   ·rw[eO,e];exact cJ
  ·rw[if_neg e]at h;obtain⟨q,hq,eq⟩:=iU.mp h;obtain⟨q1,q2⟩:=q;cases eq;obtain⟨a,b,d⟩:=E5 hq;refine⟨?_,?_,Nat.succ_lt_succ d⟩
   ·rw[eO,List.idxOf_cons,show(w.1 == x)=false from beq_eq_false_iff_ne.mpr e];show(r.map (·.1)).idxOf x+1=q1+1;rw[a]
   ·rw[eO];exact cC _ b
def Nk (P:aP)(w:aW)(K:aC)(n:Nat):Sp:=λvs H Q _=>∃(sp lt:Addr)(x:V) (ws:List (Str×Nat)) (s:Say),vs=[.ref sp,.ref lt,x]/\Hold K H (.ref sp) (cy ws)/\br ws/\Wds ws/\(LL ws).length<=24/\LetAt K H lt (LL ws)/\
 Hold K H x s.da/\s.due ws=none/\s.nts=0/\s.size<=n/\∀(d:Addr)(n:Nat) (H':Hp),Same H H'->H d=none->PTab P w K H H' d n (LL ws) (gW ws s)->Q (.ref d) H'
theorem Xp {σ:L2.St}{H:Hp}{Q:Bool->Hp->Prop}{i:Nat}{x a b:Str}(h:σ[i]?=some (some (.str x)))(q:Q (decide (x=a) || decide (x=b)) H):tOr (Ce (tOp rEq (ii i) (tC (.str a)))) (Ce (tOp rEq (ii i) (tC (.str b)))) σ H Q:=by
 have e:∀y:Str,decide (V.str x=V.str y)=decide (x=y):=λy=>by
  rw[decide_eq_decide];exact⟨λz=>by cases z;rfl,λz=>by rw[z]⟩
 refine⟨_,h,rfl,_,rfl,?_⟩;rw[e];cases c:decide (x=a)with
 |true=>
  rw[if_pos rfl];rw[c,Bool.true_or]at q;exact q
 |false=>
  rw[if_neg bZ];rw[c,Bool.false_or]at q;refine⟨_,h,rfl,_,rfl,?_⟩;rw[e];exact q
theorem eq_str {σ:L2.St}{H:Hp}{Q:Bool->Hp->Prop}{i:Nat}{x a:Str}(h:σ[i]?=some (some (.str x)))(q:Q (decide (x=a)) H):Ce (tOp rEq (ii i) (tC (.str a))) σ H Q:=by
 have e:decide (V.str x=V.str a)=decide (x=a):=by
  rw[decide_eq_decide];exact⟨λz=>by cases z;rfl,λz=>by rw[z]⟩
 refine⟨_,h,rfl,_,rfl,?_⟩;rw[e];exact q
theorem T0 {s:Say}(h:(decide (s.sort="is") || decide (s.sort="put"))=true):∃(f:Fld)(v:Num),s=.is f v\/s=.put f v:=by
 cases s with
 |is f v=>exact⟨f,v,.inl rfl⟩
 |put f v=>exact⟨f,v,.inr rfl⟩
 |nought=>exact absurd h (by decide +kernel)
 |every=>exact absurd h (by decide +kernel)
 |note=>exact absurd h (by decide +kernel)
 |no s=>exact absurd h (by show ¬(decide (("not":Str)="is") || decide (("not":Str)="put"))=true;decide +kernel)
 |again s=>exact absurd h (by show ¬(decide (("again":Str)="is") || decide (("again":Str)="put"))=true;decide +kernel)
 |either a b=>exact absurd h (by show ¬(decide (("either":Str)="is") || decide (("either":Str)="put"))=true;decide +kernel)
 |both a b=>exact absurd h (by show ¬(decide (("then":Str)="is") || decide (("then":Str)="put"))=true;decide +kernel)
theorem Nl {K:aC}{H:Hp}{x:V}{s:Say}{f:Fld}{v:Num}(h:Hold K H x s.da)(e:s=.is f v\/s=.put f v):∃a,x=.ref a/\SqT K H a [.str s.sort,.str f.1,.int v.1]:=by
 rcases e with rfl | rfl
 all_goals
  obtain⟨a,ys,rfl,ha,hd⟩:=Hold.tupI h;cases hd with
  |cons h1 r1=>
   cases r1 with
   |cons h2 r2=>
    cases r2 with
    |cons h3 r3=>
     cases r3;cases h1.flatI;cases h2.flatI;cases h3.flatI;exact⟨a,rfl,ha⟩
theorem Qf {ws:List (Str×Nat)}{s:Say}{f:Fld}{v:Num}(h:s.due ws=none)(e:s=.is f v\/s=.put f v):∃p c,look ws f.1=some (p,c)/\0<=v.1/\v.1 < (c:Int):=by
 rcases e with rfl | rfl<;>exact qz h
theorem Qg {s k:Say}(h:k∈s.kids):k.size < s.size:=by
 cases s<;>simp[Say.kids]at h<;>simp only[Say.size]
 ·subst h;lia
 ·subst h;lia
 ·rcases h with h | h<;>subst h<;>lia
 ·rcases h with h | h<;>subst h<;>lia
theorem T1 (s:Say):s.kids.length<=2:=by cases s<;>simp[Say.kids]
theorem Qh {s:Say}{xs:List V}:¬(HT.sIx (V.str s.sort::xs).length 0 (some 1)=0/\HT.sIx (V.str s.sort::xs).length (V.str s.sort::xs).length none=(V.str s.sort::xs).length):=λz=>by
 have e:HT.sIx (V.str s.sort::xs).length 0 (some 1)=1:=by
  rw[show(some (1:Int))=some (((1:Nat):Int))from rfl,HT.sIx_nat,cX];lia
 rw[e]at z;exact absurd z.1 (by decide)
theorem T3 {K:aC}{H:Hp}{x:V}{s:Say}(h:Hold K H x s.da)(n:¬(decide (s.sort="is") || decide (s.sort="put"))=true):∃a xs,x=.ref a/\SqT K H a (.str s.sort::xs)/\Holds K H xs (s.kids.map Say.da):=by
 cases s with
 |is f v=>exact absurd (show(decide (("is":Str)="is") || decide (("is":Str)="put"))=true by decide +kernel) n
 |put f v=>exact absurd (show(decide (("put":Str)="is") || decide (("put":Str)="put"))=true by decide +kernel) n
 |_=>
  obtain⟨a,ys,e,ha,hd⟩:=Hold.tupI h;cases hd with
  |cons h1 r1=>
   cases h1.flatI;exact⟨a,_,e,ha,r1⟩
theorem T4 {ws:List (Str×Nat)}{s k:Say}(h:s.due ws=none)(n:s.nts=0)(hk:k∈s.kids):k.due ws=none/\k.nts=0:=by
 cases s with
 |no a=>
  rw[aY.mp hk];by_cases c:a.isT=true
  ·have e:(Say.no a).due ws=a.due ws:=if_pos c;exact⟨e ▸ h,n⟩
  ·have e:(Say.no a).due ws=some (.test a):=if_neg c;rw[e]at h;cases h
 |again a=>rw[aY.mp hk];exact⟨h,n⟩
 |either a b=>
  have e:(a.due ws).or (b.due ws)=none:=h;have m:a.nts+b.nts=0:=n;cases ha:a.due ws with
  |some f=>rw[ha]at e;cases e
  |none=>
   rw[ha,pM]at e;rcases aU.mp hk with z | z
   ·rw[z];exact⟨ha,by lia⟩
   ·rw[aY.mp z];exact⟨e,by lia⟩
 |both a b=>
  have e:(a.due ws).or (b.due ws)=none:=h;have m:a.nts+b.nts=0:=n;cases ha:a.due ws with
  |some f=>rw[ha]at e;cases e
  |none=>
   rw[ha,pM]at e;rcases aU.mp hk with z | z
   ·rw[z];exact⟨ha,by lia⟩
   ·rw[aY.mp z];exact⟨e,by lia⟩
 |_=>exact nomatch hk
def TabX (P:aP)(w:aW)(K:aC)(D d:Addr)(H:Hp)(dk:Addr)(ls:List (List Int))(g:List Int->List (List Int)):Prop:=dk≠D/\dk≠d/\∃kvs,DictAt P w K H dk kvs/\∀l∈ls,∃b,atK kvs (kL l)=some (.ref b)/\LetAt K H b (g l)/\b≠D/\b≠d
theorem TabX.but {P:aP}{w:aW}{K:aC}{D d dk:Addr}{H H':Hp}{ls:List (List Int)}{g:List Int->List (List Int)}(h:TabX P w K D d H dk ls g)(tp:Tups H H')(k:∀b o,b≠D->b≠d->H b=some o->H' b=some o):TabX P w K D d H' dk ls g:=by
 obtain⟨n1,n2,kvs,dd,tt⟩:=h;refine⟨n1,n2,kvs,dd.of tp (k _ _ n1 n2 dd.at_),λl hl=>?_⟩;obtain⟨b,e1,⟨xs,e2,e3⟩,e4,e5⟩:=tt l hl;exact⟨b,e1,⟨xs,k _ _ e4 e5 e2,e3.stay tp (df gg _)⟩,e4,e5⟩
theorem TabX.tab {P:aP}{w:aW}{K:aC}{D d dk:Addr}{H:Hp}{ls:List (List Int)}{g:List Int->List (List Int)}(h:TabX P w K D d H dk ls g):Tab P w K H dk ls g:=by
 obtain⟨_,_,kvs,dd,tt⟩:=h;refine⟨kvs,dd,λl hl=>?_⟩;obtain⟨b,e1,e2,_⟩:=tt l hl;exact⟨b,e1,e2⟩
theorem PTab.tabX {P:aP}{w:aW}{K:aC}{D d dk:Addr}{B H:Hp}{n:Nat}{ls:List (List Int)}{g:List Int->List (List Int)}{oD od:HO}(h:PTab P w K B H dk n ls g)(hk:B dk=none)(hD:B D=some oD)(hd:B d=some od):TabX P w K D d H dk ls g:=by
 have ne:∀{b c:Addr}{o:HO},B b=none->B c=some o->b≠c:=λh1 h2 e=>(by rw[e,h2]at h1;cases h1);obtain⟨kvs,dd,_,tt⟩:=h;refine⟨ne hk hD,ne hk hd,kvs,dd,λl hl=>?_⟩;obtain⟨b,e1,e2,e3⟩:=tt l hl;exact⟨b,e1,e2,ne e3 hD,ne e3 hd⟩
theorem wq {α β:Type}{F:α->β->Prop}:∀{xs:List α}{ys:List β}{x:α}{y:β},Paired F xs ys->F x y->Paired F (xs++[x]) (ys++[y])
 |_,_,_,_,.nil,h=>.cons h .nil
 |_,_,_,_,.cons h t,k=>.cons h (wq t k)
theorem o6 {α β:Type}{F G:α->β->Prop}(f:∀x y,F x y->G x y):∀{xs:List α}{ys:List β},Paired F xs ys->Paired G xs ys
 |_,_,.nil=>.nil
 |_,_,.cons h t=>.cons (f _ _ h) (o6 f t)
theorem Qi {s:Say}(h:decide (s.sort="all")=true):s=.every:=by
 cases s with
 |every=>rfl
 |nought=>exact absurd h (by show ¬decide (("none":Str)="all")=true;decide +kernel)
 |note=>exact absurd h (by show ¬decide (("note":Str)="all")=true;decide +kernel)
 |is f v=>exact absurd h (by show ¬decide (("is":Str)="all")=true;decide +kernel)
 |put f v=>exact absurd h (by show ¬decide (("put":Str)="all")=true;decide +kernel)
 |no a=>exact absurd h (by show ¬decide (("not":Str)="all")=true;decide +kernel)
 |again a=>exact absurd h (by show ¬decide (("again":Str)="all")=true;decide +kernel)
 |either a b=>exact absurd h (by show ¬decide (("either":Str)="all")=true;decide +kernel)
 |both a b=>exact absurd h (by show ¬decide (("then":Str)="all")=true;decide +kernel)
theorem Qj {s:Say}(h:decide (s.sort="not")=true):∃a,s=.no a:=by
 cases s with
 |no a=>exact⟨a,rfl⟩
 |nought=>exact absurd h (by show ¬decide (("none":Str)="not")=true;decide +kernel)
 |every=>exact absurd h (by show ¬decide (("all":Str)="not")=true;decide +kernel)
 |note=>exact absurd h (by show ¬decide (("note":Str)="not")=true;decide +kernel)
 |is f v=>exact absurd h (by show ¬decide (("is":Str)="not")=true;decide +kernel)
 |put f v=>exact absurd h (by show ¬decide (("put":Str)="not")=true;decide +kernel)
 |again a=>exact absurd h (by show ¬decide (("again":Str)="not")=true;decide +kernel)
 |either a b=>exact absurd h (by show ¬decide (("either":Str)="not")=true;decide +kernel)
 |both a b=>exact absurd h (by show ¬decide (("then":Str)="not")=true;decide +kernel)
theorem Fo {s:Say}(h:decide (s.sort="either")=true):∃a b,s=.either a b:=by
 cases s with
 |either a b=>exact⟨a,b,rfl⟩
 |nought=>exact absurd h (by show ¬decide (("none":Str)="either")=true;decide +kernel)
 |every=>exact absurd h (by show ¬decide (("all":Str)="either")=true;decide +kernel)
 |note=>exact absurd h (by show ¬decide (("note":Str)="either")=true;decide +kernel)
 |is f v=>exact absurd h (by show ¬decide (("is":Str)="either")=true;decide +kernel)
 |put f v=>exact absurd h (by show ¬decide (("put":Str)="either")=true;decide +kernel)
 |no a=>exact absurd h (by show ¬decide (("not":Str)="either")=true;decide +kernel)
 |again a=>exact absurd h (by show ¬decide (("again":Str)="either")=true;decide +kernel)
 |both a b=>exact absurd h (by show ¬decide (("then":Str)="either")=true;decide +kernel)
theorem Nm {s:Say}(h:decide (s.sort="then")=true):∃a b,s=.both a b:=by
 cases s with
 |both a b=>exact⟨a,b,rfl⟩
 |nought=>exact absurd h (by show ¬decide (("none":Str)="then")=true;decide +kernel)
 |every=>exact absurd h (by show ¬decide (("all":Str)="then")=true;decide +kernel)
 |note=>exact absurd h (by show ¬decide (("note":Str)="then")=true;decide +kernel)
 |is f v=>exact absurd h (by show ¬decide (("is":Str)="then")=true;decide +kernel)
 |put f v=>exact absurd h (by show ¬decide (("put":Str)="then")=true;decide +kernel)
 |no a=>exact absurd h (by show ¬decide (("not":Str)="then")=true;decide +kernel)
 |again a=>exact absurd h (by show ¬decide (("again":Str)="then")=true;decide +kernel)
 |either a b=>exact absurd h (by show ¬decide (("either":Str)="then")=true;decide +kernel)
theorem Ko {s:Say}(h:decide (s.sort="again")=true):∃a,s=.again a:=by
 cases s with
 |again a=>exact⟨a,rfl⟩
 |nought=>exact absurd h (by show ¬decide (("none":Str)="again")=true;decide +kernel)
 |every=>exact absurd h (by show ¬decide (("all":Str)="again")=true;decide +kernel)
 |note=>exact absurd h (by show ¬decide (("note":Str)="again")=true;decide +kernel)
 |is f v=>exact absurd h (by show ¬decide (("is":Str)="again")=true;decide +kernel)
 |put f v=>exact absurd h (by show ¬decide (("put":Str)="again")=true;decide +kernel)
 |no a=>exact absurd h (by show ¬decide (("not":Str)="again")=true;decide +kernel)
 |either a b=>exact absurd h (by show ¬decide (("either":Str)="again")=true;decide +kernel)
 |both a b=>exact absurd h (by show ¬decide (("then":Str)="again")=true;decide +kernel)
theorem T5 (y:V)(n:Nat):cr (cr [y] (some (n:Int)) none) none (some 1)=([y].drop n).take 1:=by
 have e1:cr [y] (some (n:Int)) none=[y].drop n:=by
  unfold cr;rw[HT.sIx_nat,HT.sIx_none];cases n with
  |zero=>rfl
  |succ n=>simp
 rw[e1];cases n with
 |zero=>rfl
 |succ n=>simp[cr]
section
variable {P:aP}{w:aW}{K:aC}{mg:Str->Option aB}{base:Heap}
theorem u9:au ["_law_speech_here","_law_letters_here","_law_saying_here","_law_sort","_law_found","_law_at","_law_letter","_law_inner"] ["_law_speech_here","_law_letters_here","_law_saying_here"] (aj Ci):=fsN
def No:gM:={ kind:=.function,names:=[(".0",.local),("_law_field",.local),("_law_count",.local)],isGenerator:=false,isCoroutine:=false,more:=[] }
theorem Xq {X:Cx}:bv X ["_law_field","_law_count"] [] [] No []:=iw rfl (by decide +kernel) (by decide +kernel) (by decide +kernel)
def Np:gM:={ kind:=.function,names:=[(".0",.local),("_law_one",.local),("_law_step",.globalImplicit),("_law_letters_here",.free),("_law_speech_here",.free)],isGenerator:=false,isCoroutine:=false,more:=[] }
theorem Xr {CX:CXT}{f:Addr}{zH:aB}{A:cQ}{outer:List Env}{s:aG}{H:Hp}{E:XK} :
  bv (bb CX P w K mg base ["_law_speech_here","_law_letters_here","_law_saying_here","_law_sort","_law_found","_law_at","_law_letter","_law_inner"] "_law_step" (aj Ci) f zH A outer s H E).nox ["_law_one"] ["_law_letters_here","_law_speech_here"] [1,0] Np [("_law_speech_here",s.heap.objs.size+1),("_law_letters_here",s.heap.objs.size+1+1)]:=csN [(".0",.local),("_law_one",.local),("_law_step",.globalImplicit),("_law_letters_here",.cell),("_law_speech_here",.cell)]
theorem He {f fU fL:Addr}{fd dU dL:bX}(F:Fun K "_law_step" "_law_step" Ci f fd)(bF:Binds K fd ["_law_speech_here","_law_letters_here","_law_saying_here"] [])(kF:aV K (.ref f)=true)(mF:mg "_law_step"=some (.ref f))
  (GU:FnOk P w K mg base CX0 1 fU dU ["_law_step_here","_law_row"] (Hb P w K)) (bU:Binds K dU ["_law_step_here","_law_row"] []) (kU:aV K (.ref fU)=true) (mU:mg "_law_union"=some (.ref fU))
  (GL:FnOk P w K mg base CX0 1 fL dL ["_law_step_here","_law_letter"] (Rm P w K)) (bL:Binds K dL ["_law_step_here","_law_letter"] []) (WQ:aV K (.ref fL)=true) (mL:mg "_law_led"=some (.ref fL))
  (ml:mg "len"=none) (ms:mg "sorted"=none) (mt:mg "set"=none):∀n:Nat,FnOk P w K mg base CX0 (n+2) f fd ["_law_speech_here","_law_letters_here","_law_saying_here"] (Nk P w K n)
 |0=>by
  refine F.ok u9 (λvs H Q E h=>?_) (λzH A outer s H vs Q E hr h=>?_)
  ·obtain⟨sp,lt,x,ws,sy,rfl,_⟩:=h;rfl
  ·obtain⟨sp,lt,x,ws,sy,rfl,_,_,_,_,_,_,_,_,hn,_⟩:=h;have:=nk sy;lia
 |n+1=>by
  have G:=He F bF kF mF GU bU kU mU GL bL WQ mL ml ms mt n;refine F.ok u9 (λvs H Q E h=>?_) (λzH A outer s H vs Q E hr h=>?_)
  ·obtain⟨sp,lt,x,ws,sy,rfl,_⟩:=h;rfl
  obtain⟨sp,lt,x,ws,sy,rfl,zU,sk,wd,CW,zR,hx,du,nt,hn,q⟩:=h;have EU:(LL ws).length<=36:=(by lia);have AF:Room 1 _:=hr.mono (by lia);refine⟨_,ag (av (i:=3) u9.nd rfl (cD rfl) (aq bx (pv 2) af (λ_ _=>rfl))) (ag (av (i:=4) u9.nd rfl (cD rfl) (Qe (P:=P) (w:=w) rfl rfl)) (ag (cn (PW.pt (yc (bc dh (pv 3) bh (bg _)) (yb (bc dh (pv 3) bh (bg _))))) (ag (av (i:=5) u9.nd rfl (cD rfl) (L6 (K:=K) rfl fQ mQ rQ (Kn (K:=K) rfl) (dy (ns:=["_law_field","_law_count"]) (ys:=[]) (sc:=No) Xq rfl (pb (pv 0)) (λC s H fp=>pg2 rfl) (λC s H fp=>cx) (λC s H fp=>pv 0)) (aa (aq bx (pv 2) af (λ_ _=>rfl)) ae))) (ag (dv eU rfl (cf (pv 1)) (ba (i:=6) u9.nd rfl (cD rfl)) (ag (fw (az (aa (ay (r:=λx y H Q=>io K x y H Q\/fz K x y H Q) j3 (ay (r:=λx y H Q=>io K x y H Q\/fz K x y H Q) j3 (bq (r:=ni K) pj (pv 6) cq (bw (pv 5))) (c9 (aa (aq bx (pv 2) af (λ_ _=>rfl)) ae))) (bq (r:=ni K) pj (pv 6) (bw (ay ie (pv 5) af)) cq)) ae)) (iq (pv 4) (pv 6) (gy (P:=P) (w:=w) (K:=K) rfl rfl rfl (hu8 hr)))) (ah (cn (PW.pt (o9 (bc dh (pv 3) bh (bg _)) (o8 (bc Hu (aq bx (pv 6) (pv 5) (λ_ _=>rfl)) (aq bx (pv 2) af (λ_ _=>rfl)) (bg _))))) (ah (fw (az ae) (iq (pv 4) (pv 6) (gy (P:=P) (w:=w) (K:=K) rfl rfl rfl (hu8 hr))))) bo)))) (ah (ax (pv 4))))) bo) (ag (i9 (i0:=7) (ns:=["_law_one"]) (ys:=["_law_letters_here","_law_speech_here"]) (sc:=Np) u9.nd rfl rfl Xr rfl (pb (bq pj (pv 2) (bw af) cq)) (λC s H fp=>ba (i:=0) (by show(["_law_one","_law_letters_here","_law_speech_here"]:List Str).Nodup;decide +kernel) rfl (cD rfl)) (λC s H fp=>cx) (λC s H fp=>ao G hr rfl mF kF bF .nil aw (aa (pv 2) (aa (pv 1) (aa (pv 0) ae))))) (ag (dv eU rfl (cf (pv 1)) (ba (i:=6) u9.nd rfl (cD rfl)) (ah (cn (bc dh (pv 3) bh (bg _)) (ah (fw (az (aa (pv 6) ae)) (iq (pv 4) (pv 6) (gy (P:=P) (w:=w) (K:=K) rfl rfl rfl (hu8 hr))))) (ah (cn (bc dh (pv 3) bh (bg _)) (ah (fw (bq db (bq db (az (aa (pv 6) ae)) (bw (bn bj rfl ml gF (aa (aq (gi (P:=P) (w:=w) (K:=K) rfl rfl rfl (hu8 hr)) (aq ar (pv 7) af (λ_ _=>rfl)) (pv 6) (λ_ _=>rfl)) ae))) cq) cq (bw af)) (iq (pv 4) (pv 6) (gy (P:=P) (w:=w) (K:=K) rfl rfl rfl (hu8 hr))))) (ah (cn (bc dh (pv 3) bh (bg _)) (ah (fw (Tu rfl (hu8 hr) rfl ms (by kernel_rfl) rfl mt (by kernel_rfl) (ay dw (aq (gi (P:=P) (w:=w) (K:=K) rfl rfl rfl (hu8 hr)) (aq ar (pv 7) af (λ_ _=>rfl)) (pv 6) (λ_ _=>rfl)) (aq (gi (P:=P) (w:=w) (K:=K) rfl rfl rfl (hu8 hr)) (aq ar (pv 7) af (λ_ _=>rfl)) (pv 6) (λ_ _=>rfl)))) (iq (pv 4) (pv 6) (gy (P:=P) (w:=w) (K:=K) rfl rfl rfl (hu8 hr))))) (ah (cn (bc dh (pv 3) bh (bg _)) (ah (fw (ao GU AF rfl mU kU bU .nil aw (aa (aq ar (pv 7) af (λ_ _=>rfl)) (aa (aq (gi (P:=P) (w:=w) (K:=K) rfl rfl rfl (hu8 hr)) (aq ar (pv 7) af (λ_ _=>rfl)) (pv 6) (λ_ _=>rfl)) ae))) (iq (pv 4) (pv 6) (gy (P:=P) (w:=w) (K:=K) rfl rfl rfl (hu8 hr))))) (ah (cn (bc dh (pv 3) bh (bg _)) (ah (fw (ao GL AF rfl mL WQ bL .nil aw (aa (aq ar (pv 7) af (λ_ _=>rfl)) (aa (pv 6) ae))) (iq (pv 4) (pv 6) (gy (P:=P) (w:=w) (K:=K) rfl rfl rfl (hu8 hr))))) (ah (fw (az ae) (iq (pv 4) (pv 6) (gy (P:=P) (w:=w) (K:=K) rfl rfl rfl (hu8 hr)))))))))))))))) (ah (ax (pv 4))))))),?_⟩;dsimp only[bb,Cx.nox];obtain⟨a,xs,rfl,ha,hk⟩:=ng hx;obtain⟨FU,MI,HV⟩:=zR;refine⟨_,rfl,a,_,_,_,rfl,rfl,ha,bf (j:=0) rfl,λd EA IE=>?_⟩;have s0:=ad EA (dz P w d []);have RR:FU.length=(LL ws).length:=(by rw[HV.length,aI]);refine Xp (x:=sy.sort) rfl ?_;refine cz (λcc=>?_) (λcc=>?_)
  ·obtain⟨fl,v,es⟩:=T0 cc;obtain⟨a',ea,NS⟩:=Nl hx es;cases ea;obtain⟨p,c,lk,v0,v1⟩:=Qf du es;obtain⟨cnd,c300,JZ⟩:=Ee sk lk ⟨v0,v1⟩;obtain⟨ix,xm,pl⟩:=E5 lk;obtain⟨DO,MJ,RS,DR,DS⟩:=Hold.tupI zU;cases RS;have RT:MJ.length=ws.length:=(by rw[DS.length,aI]);have w3:=sk.hi;refine⟨_,rfl,sp,rfl,⟨_,DR.same s0⟩,λD hD=>?_⟩;refine xc (K:=K) (a:=sp) (xs:=MJ) (λe zs G3=>Same (upd H d (dz P w d [])) G3/\G3 D=some (.lst zs)/\zs=((ws.take e).map (·.1)).map V.str) ⟨ad hD _,ac,rfl⟩ (λe zs G3 z=>z.2.1) (λe zs G3 _ z=>DR.same (Same.trans s0 z.1)) ?_ ?_
   ·intro e y zs G3 hy zE;obtain⟨s3,gD,rfl⟩:=zE;obtain⟨w',ew,hw⟩:=DS.getm hy;obtain⟨t0,ys,rfl,FD,AO⟩:=Hold.tupI (hw.mono (Same.trans s0 s3));cases AO with
    |cons e1 r1=>
     cases r1 with
     |cons e2 r2=>
      cases r2;cases e1.flatI;cases e2.flatI;refine⟨be (by rw[aI,aI,dJ];lia),t0,_,rfl,FD,rfl,_,_,rfl,_,_,rfl,rfl,⟨[some _,some _],rfl,rfl⟩,?_⟩;refine⟨_,rfl,gD,Same.put s3 hD _,ac,?_⟩;rw[eJ,ew];simp
   ·intro zs G3 zE;obtain⟨s3,gD,rfl⟩:=zE;rw[RT,eZ]at gD;have FV:=Same.trans s0 s3;refine⟨.inl ⟨rfl,_,SqL.of gD⟩,_,rfl,a,_,_,_,rfl,rfl,NS.same FV,rfl,D,ws.map (·.1),fl.1,rfl,rfl,SqL.of gD,xm,?_⟩;rw[ix];refine⟨_,rfl,lt,rfl,⟨_,SqL.of (FV _ _ MI)⟩,fe (K:=K) (a:=lt) (xs:=FU) (λi σ G=>∃(v6:Option V),σ=[some (.ref sp),some (.ref lt),some (.ref a),some (.str sy.sort),some (.ref d),some (.int (p:Int)),v6,none]/\Same H G/\PTab P w K H G d (2 * i) ((LL ws).take i) (gW ws sy)) ⟨none,rfl,FV,[],⟨s3 _ _ ac,(λe he=>nomatch he),eV _,IE⟩,eV _,(λl hl=>nomatch hl)⟩ (λi σ G _ z=>by obtain⟨_,_,sG,_⟩:=z;exact SqL.of (sG _ _ MI)) ?_ ?_⟩
    ·intro i x σ G AX zE;obtain⟨v6,rfl,sG,kvs,dd,kn,tt⟩:=zE;generalize zI:d6.mk _ _ _ _=zV;revert zI zV;refine id ?_;intro zV zI;obtain⟨l,el,hl⟩:=HV.getm AX;obtain⟨la,rfl,CC⟩:=gj (hl.mono sG);have lm:l∈LL ws:=bK el;obtain⟨NX,hp,hset⟩:=JZ l lm;have hi:i < (LL ws).length:=(aL.mp el).1;refine Nj (K:=K) (jl:=6) (ji:=5) (v:=v.1) rfl rfl (λG' Q' DP hq=>⟨_,rfl,a,_,_,_,rfl,rfl,NS.same (Same.trans sG DP),rfl,hq⟩) CC hp (by lia) λpt G' DP WR=>?_;refine⟨sz1,λlb CH=>?_⟩;have sA:Same G (upd G' lb (.lst [.ref pt])):=Same.trans DP (ad CH _);have JF:=dd.mono sA;have ptl:pt≠lb:=am WR CH;have k2:kvs.length < sizeLine:=jY (show kvs.length<=1000 by lia) (by decide);refine⟨_,rfl,_,rfl,d,kvs,la,kL l,rfl,rfl,JF,e9 (CC.same sA),k2,?_⟩;have hls:LetAt K (upd G' lb (.lst [.ref pt])) lb [l.set p v.1]:=⟨[.ref pt],ac,.one (.tup (SqT.of (by rw[ai ptl,WR,Gn l p v.1 hp])) (d0 _))⟩;have sD:Same H (upd (upd G' lb (.lst [.ref pt])) d (dz P w d (d9 kvs (kL l) la (.ref lb)))):=Same.put (Same.trans sG sA) EA _;have tk:(LL ws).take (i+1)=(LL ws).take i++[l]:=(by rw[eJ,el];rfl);have IY:=PTab.set (B:=H) (ls:=(LL ws).take i) (g:=λm=>if m=l then [l.set p v.1]else gW ws sy m) JF kn (by lia) (λm hm ne=>by
       obtain⟨b,e1,e2,e3⟩:=tt m hm;refine⟨b,e1,?_,e3⟩;rw[if_neg ne];exact e2.mono' sA) (CC.same sA) hls (Same.free (Same.trans sG DP) CH) (if_pos rfl).symm
     generalize upd (upd G' lb (.lst [.ref pt])) d (dz P w d (d9 kvs (kL l) la (.ref lb)))=G4 at sD IY ⊢;obtain⟨JG,RU,kn4,RV⟩:=IY;have zL:gW ws sy l=[l.set p v.1]->PTab P w K H G4 d (2 * (i+1)) ((LL ws).take (i+1)) (gW ws sy):=λe=>by
      rw[tk];refine⟨JG,RU,by lia,λm hm=>?_⟩;obtain⟨b,e1,e2,e3⟩:=RV m hm;refine⟨b,e1,?_,e3⟩;dsimp only at e2;by_cases c:m=l
      ·rw[if_pos c]at e2;rw[c,e];exact e2
      ·rw[if_neg c]at e2;exact e2
     refine eq_str (x:=sy.sort) rfl ?_;rcases es with rfl | rfl
     ·have e1:decide ((Say.is fl v).sort=("is":Str))=true:=(by show decide (("is":Str)="is")=true;decide +kernel);rw[e1];refine jj ?_;obtain⟨b4,_⟩:=RV l (eC.mpr (.inr (aY.mpr rfl)));obtain⟨la',ela,JH⟩:=gj (K:=K) (H:=G4) (x:=.ref la) (l:=l) (hl.mono sD);cases ela;have elp:(l.map V.int)[p]?=some (.int l[p]):=(by rw[cY,aK hp];rfl);refine⟨_,rfl,_,rfl,la,_,_,_,rfl,rfl,JH,bf elp,_,rfl,a,_,_,_,rfl,rfl,NS.same sD,rfl,rfl,_,rfl,?_⟩;refine cz (λc2=>?_) (λc2=>?_)
      ·have ne:l[p]?≠some v.1:=λz=>by
        rw[aK hp]at z;have z':l[p]=v.1:=eA z;rw[z']at c2;simp at c2
       refine⟨sz0,λl0 CM=>?_⟩;have s5:=ad CM (.lst []);refine⟨_,rfl,_,rfl,d,JG,la,kL l,rfl,rfl,RU.mono s5,e9 (JH.same s5),jY (show JG.length<=1000 by lia) (by decide),?_⟩;subst zI;refine⟨_,rfl,Same.put (Same.trans sD s5) EA _,?_⟩;rw[tk];refine PTab.set (n:=2 * i+1) (RU.mono s5) kn4 (by lia) (λm hm ne=>?_) (JH.same s5) ⟨[],ac,.nil⟩ (Same.free sD CM) (Wa lk lm ne).symm;obtain⟨b,e1,e2,e3⟩:=RV m (eC.mpr (.inl hm));dsimp only at e2;rw[if_neg ne]at e2;exact⟨b,e1,e2.mono' s5,e3⟩
      ·have z':l[p]=v.1:=by
        have z:V.int l[p]=V.int v.1:=qQ λz=>c2 (by simp[z]);injection z
       have ev:l[p]?=some v.1:=(by rw[aK hp,z']);subst zI;refine⟨_,rfl,sD,zL ?_⟩;rw[g_is lk lm ev,show l.set p v.1=l from by rw[<-z'];exact List.set_getElem_self hp]
     ·have e1:decide ((Say.put fl v).sort=("is":Str))=false:=(by show decide (("put":Str)="is")=false;decide +kernel);rw[e1];refine de ?_;subst zI;exact⟨_,rfl,sD,zL (Xo lk lm hset)⟩
    ·intro σ G zE;obtain⟨v6,rfl,sG,kvs,dd,kn,tt⟩:=zE;rw[RR,eZ]at tt;exact⟨_,rfl,q d _ G sG EA ⟨kvs,dd,kn,tt⟩⟩
  ·obtain⟨a2,CQ,ea,LU,EX⟩:=T3 hx cc;cases ea;refine⟨_,rfl,_,rfl,a,_,rfl,LU.same s0,Qh,λp hp=>?_⟩;rw[U1];have s1:Same H (upd (upd H d (dz P w d [])) p (.tup CQ)):=Same.trans s0 (ad hp (.tup CQ));have RW:=Holds.mono s1 EX;have dp:d≠p:=am ac hp;have LQ:(upd (upd H d (dz P w d [])) p (.tup CQ)) d=some (dz P w d []):=(by rw[ai dp,ac]);have BC:(upd (upd H d (dz P w d [])) p (.tup CQ)) p=some (.tup CQ):=ac;refine⟨p,rfl,⟨_,SqT.of ac⟩,λD hD=>?_⟩;generalize upd (upd H d (dz P w d [])) p (.tup CQ)=G1 at hD s1 RW LQ BC ⊢;have lx:CQ.length=sy.kids.length:=(by rw[RW.length,aI]);have k2:=T1 sy;refine xc (K:=K) (a:=p) (xs:=CQ) (λi ys G2=>Same G1 G2/\G2 D=some (.lst ys)/\Paired (λy k=>∃dk,y=V.ref dk/\TabX P w K D d G2 dk (LL ws) (gW ws k)) ys (sy.kids.take i)) ⟨ad hD _,ac,.nil⟩ (λi ys G2 z=>z.2.1) (λi ys G2 _ z=>SqT.of (z.1 _ _ BC)) ?_ ?_
   ·intro i x' ys G2 AX zE;obtain⟨sG,gD,pr⟩:=zE;obtain⟨k,ek,BZ⟩:=RW.getm AX;have km:k∈sy.kids:=bK ek;have kz:=Qg km;obtain⟨kd,kn⟩:=T4 du nt km;have yl:ys.length<=2:=(by rw[Paired.length pr,dJ];lia);have KF:=Same.trans s1 sG;refine⟨be (by lia),⟨[some _],rfl,rfl⟩,?_⟩;refine⟨_,rfl,_,rfl,_,rfl,sp,lt,x',ws,k,rfl,zU.mono KF,sk,wd,CW,⟨FU,KF _ _ MI,HV.mono KF⟩,Hold.mono sG BZ,kd,kn,by lia,λdk m G3 s3 hdk tb=>?_⟩;have WS:=s3 _ _ gD;refine⟨WS,Same.put (Same.trans sG s3) hD _,ac,?_⟩;have tp:Tups G3 (upd G3 D (.lst (ys++[.ref dk]))):=Tups.put WS _;have kp:∀b o,b≠D->b≠d->G3 b=some o->upd G3 D (.lst (ys++[.ref dk])) b=some o:=λb o n1 _ e=>(by rw[ai n1];exact e);have tk:sy.kids.take (i+1)=sy.kids.take i++[k]:=(by rw[eJ,ek];rfl);rw[tk];refine wq (o6 (λy k zF=>by obtain⟨dk',e,tx⟩:=zF;exact⟨dk',e,(tx.but (Tups.of s3) (λb o _ _ e=>s3 _ _ e)).but tp kp⟩) pr) ⟨dk,rfl,(PTab.tabX tb hdk gD (sG _ _ LQ)).but tp kp⟩
   ·intro ys G2 zE;obtain⟨sG,gD,pr⟩:=zE;rw[lx,eZ]at pr;have KF:=Same.trans s1 sG;have WT:G2 d=some (dz P w d []):=sG _ _ LQ;have IC:d≠D:=im WT gD (by intro z;cases z);refine⟨_,rfl,lt,rfl,⟨_,SqL.of (KF _ _ MI)⟩,fe (K:=K) (a:=lt) (xs:=FU) (λi σ G=>∃(v6:Option V),σ=[some (.ref sp),some (.ref lt),some (.ref a),some (.str sy.sort),some (.ref d),none,v6,some (.ref D)]/\Same H G/\Keep d G2 G/\Tups G2 G/\PTab P w K H G d i ((LL ws).take i) (gW ws sy)) ⟨none,rfl,KF,(λb o _ e=>e),Tups.of (Same.refl _),[],⟨WT,(λe he=>nomatch he),eV _,IE⟩,eV _,(λl hl=>nomatch hl)⟩ (λi σ G _ z=>by obtain⟨_,_,DP,_⟩:=z;exact SqL.of (DP _ _ MI)) ?_ ?_⟩
    ·intro i x σ G AX zE;obtain⟨v6,rfl,EZ,kp,tp,kvs,dd,kn,tt⟩:=zE;generalize AV:d6.mk _ _ _ _=LG;revert AV LG;refine id ?_;intro LG AV;obtain⟨l,el,hl⟩:=HV.getm AX;obtain⟨la,rfl,CC⟩:=gj (hl.mono EZ);have lm:l∈LL ws:=bK el;have hi:i < (LL ws).length:=(aL.mp el).1;have tk:(LL ws).take (i+1)=(LL ws).take i++[l]:=(by rw[eJ,el];rfl);have KG:kvs.length < sizeLine:=jY (show kvs.length<=1000 by lia) (by decide);have KH:G D=some (.lst ys):=kp _ _ IC.symm gD;have OB:Paired (λy k=>∃dk,y=V.ref dk/\TabX P w K D d G dk (LL ws) (gW ws k)) ys sy.kids:=o6 (λy k zF=>by obtain⟨dk,e,tx⟩:=zF;exact⟨dk,e,tx.but tp (λb o n1 n2 e=>kp b o n2 e)⟩) pr;have zL:∀(G4:Hp)(lb:Addr) (zs:List (List Int)),Same G G4->H lb=none->LetAt K G4 lb zs->zs=gW ws sy l->
       DictAt P w K G4 d kvs/\KeyAt K G4 la (kL l)/\Same H (upd G4 d (dz P w d (d9 kvs (kL l) la (.ref lb))))/\Keep d G2 (upd G4 d (dz P w d (d9 kvs (kL l) la (.ref lb))))/\Tups G2 (upd G4 d (dz P w d (d9 kvs (kL l) la (.ref lb))))/\
       PTab P w K H (upd G4 d (dz P w d (d9 kvs (kL l) la (.ref lb)))) d (i+1) ((LL ws).take (i+1)) (gW ws sy):=λG4 lb zs s4 hB hz e=>by
      have JF:=dd.mono s4;refine⟨JF,e9 (CC.same s4),Same.put (Same.trans EZ s4) EA _,λb o n e=>by rw[ai n];exact s4 _ _ (kp b o n e),(tp.trans (Tups.of s4)).trans ⟨λb ys e=>by
        rw[ai (im e JF.at_ (by intro z;cases z))];exact e,λb ob v e=>by
        rw[ai (im e JF.at_ (by intro z;cases z))];exact e⟩,?_⟩
      rw[tk];refine PTab.set JF kn (by lia) (λm hm _=>?_) (CC.same s4) hz hB e;obtain⟨b,e1,e2,e3⟩:=tt m hm;exact⟨b,e1,e2.mono' s4,e3⟩
     refine eq_str (x:=sy.sort) rfl (cz (λc1=>?_) (λc1=>?_))
     ·refine⟨_,rfl,sz1,λlb CH=>?_⟩;have e:=Qi c1;subst e;have s4:=ad CH (.lst [.ref la]);obtain⟨f1,f2,f3,f4,f5,f6⟩:=zL _ lb [l] s4 (Same.free EZ CH) ⟨[.ref la],ac,.one (.tup (CC.same s4) (d0 _))⟩ (Ty lm).symm;subst AV;exact⟨_,rfl,_,rfl,d,kvs,la,kL l,rfl,rfl,f1,f2,KG,_,rfl,f3,f4,f5,f6⟩
     refine eq_str (x:=sy.sort) rfl (cz (λc2=>?_) (λc2=>?_))
     ·obtain⟨k1,e⟩:=Qj c2;subst e;cases OB with
      |cons h1 r1=>
       cases r1;obtain⟨JI,rfl,JJ⟩:=h1;obtain⟨FW,FX,FY⟩:=JJ.tab;obtain⟨b1,FZ,BS,CA,DQ⟩:=FY l lm;have RX:BS.length=(gW ws k1 l).length:=(by rw[DQ.length,aI]);have WU:(gW ws k1 l).length<=24:=bQ (i5 (sh ws _ l) (λm hm=>(dm.mp hm).1)) CW;refine⟨_,rfl,sz1,λq1 hq1=>?_⟩;have s3:=ad hq1 (.lst [.ref la]);refine⟨_,rfl,D,_,_,_,rfl,rfl,SqL.of (s3 _ _ KH),rfl,_,rfl,JI,FW,la,kL l,.ref b1,rfl,rfl,FX.mono s3,e9 (CC.same s3),FZ,b1,_,rfl,.inl (SqL.of (s3 _ _ CA)),_,rfl,q1,_,rfl,SqL.of ac,λq2 hq2=>?_⟩;have s4:=Same.trans s3 (ad hq2 (.lst (cr [.ref la] (some ((BS.length:Nat):Int)) none)));refine⟨_,rfl,q2,_,rfl,SqL.of ac,λlb CH=>?_⟩;have s5:=Same.trans s4 (ad CH (.lst (cr (cr [.ref la] (some ((BS.length:Nat):Int)) none) none (some 1))));have hl9:∀(G5:Hp),SqT K G5 la (l.map V.int)->Holds K G5 (cr (cr [.ref la] (some ((BS.length:Nat):Int)) none) none (some 1)) ((([l].drop (gW ws k1 l).length).take 1).map fj):=λG5 h5=>by
        rw[T5,RX];cases(gW ws k1 l).length with
        |zero=>exact .one (.tup h5 (d0 _))
        |succ m=>simp;exact .nil
       obtain⟨f1,f2,f3,f4,f5,f6⟩:=zL _ lb (([l].drop (gW ws k1 l).length).take 1) s5 (Same.free (Same.trans EZ s4) CH) ⟨_,ac,hl9 _ (CC.same s5)⟩ (g_no lm);subst AV;exact⟨_,rfl,_,rfl,d,kvs,la,kL l,rfl,rfl,f1,f2,KG,_,rfl,f3,f4,f5,f6⟩
     refine eq_str (x:=sy.sort) rfl (cz (λc3=>?_) (λc3=>?_))
     ·obtain⟨k1,JK,e⟩:=Fo c3;subst e;cases OB with
      |cons h1 r1=>
       cases r1 with
       |cons h2 r2=>
        cases r2;obtain⟨JI,rfl,JJ⟩:=h1;obtain⟨RY,rfl,RZ⟩:=h2;obtain⟨FW,FX,FY⟩:=JJ.tab;obtain⟨b1,FZ,BS,CA,DQ⟩:=FY l lm;have RX:BS.length=(gW ws k1 l).length:=(by rw[DQ.length,aI]);have WU:(gW ws k1 l).length<=24:=bQ (i5 (sh ws _ l) (λm hm=>(dm.mp hm).1)) CW;obtain⟨OC,ID,R'⟩:=RZ.tab;obtain⟨b2,OD,EO,FI,IZ⟩:=R' l lm;have yl2:EO.length=(gW ws JK l).length:=(by rw[IZ.length,aI]);have gl2:(gW ws JK l).length<=24:=bQ (i5 (sh ws _ l) (λm hm=>(dm.mp hm).1)) CW;refine⟨_,rfl,D,_,_,_,rfl,rfl,SqL.of KH,rfl,_,rfl,JI,FW,la,kL l,.ref b1,rfl,rfl,FX,e9 CC,FZ,_,rfl,D,_,_,_,rfl,rfl,SqL.of KH,rfl,_,rfl,RY,OC,la,kL l,.ref b2,rfl,rfl,ID,e9 CC,OD,b1,b2,BS,EO,rfl,rfl,CA,FI,small (by lia),λp3 AG=>?_⟩;have s3:=ad AG (.lst (BS++EO));have hy3:Holds K (upd G p3 (.lst (BS++EO))) (BS++EO) ((gW ws k1 l++gW ws JK l).map fj):=by
         rw[cU];exact(DQ.mono s3).append (IZ.mono s3)
        refine⟨p3,BS++EO,gW ws k1 l++gW ws JK l,rfl,SqL.of ac,jq hy3,by rw[aO];lia,λm hm=>?_,λlb zs CH hz=>?_⟩
        ·have mL:m∈LL ws:=by
          rcases eC.mp hm with z | z
          ·exact(dm.mp z).1
          ·exact(dm.mp z).1
         exact(Af sk EU k1).ne m mL
        ·have s4:=Same.trans s3 (ad CH (.lst zs));obtain⟨f1,f2,f3,f4,f5,f6⟩:=zL _ lb _ s4 (Same.free (Same.trans EZ s3) CH) ⟨zs,ac,(on hz).mono (ad CH _)⟩ Qb;subst AV;exact⟨_,rfl,_,rfl,d,kvs,la,kL l,rfl,rfl,f1,f2,KG,_,rfl,f3,f4,f5,f6⟩
     refine eq_str (x:=sy.sort) rfl (cz (λc4=>?_) (λc4=>?_))
     ·obtain⟨k1,JK,e⟩:=Nm c4;subst e;cases OB with
      |cons h1 r1=>
       cases r1 with
       |cons h2 r2=>
        cases r2;obtain⟨JI,rfl,JJ⟩:=h1;obtain⟨RY,rfl,RZ⟩:=h2;obtain⟨FW,FX,FY⟩:=JJ.tab;obtain⟨b1,FZ,BS,CA,DQ⟩:=FY l lm;have RX:BS.length=(gW ws k1 l).length:=(by rw[DQ.length,aI]);have WU:(gW ws k1 l).length<=24:=bQ (i5 (sh ws _ l) (λm hm=>(dm.mp hm).1)) CW;refine⟨_,rfl,D,_,_,_,rfl,rfl,SqL.of KH,rfl,_,rfl,D,_,_,_,rfl,rfl,SqL.of KH,rfl,_,rfl,JI,FW,la,kL l,.ref b1,rfl,rfl,FX,e9 CC,FZ,RY,b1,LL ws,gW ws k1 l,gW ws JK,rfl,RZ.tab,Af sk EU JK,⟨BS,CA,DQ⟩,(λm hm=>(dm.mp hm).1),by lia,λlb G4 s4 hB hz=>?_⟩;obtain⟨f1,f2,f3,f4,f5,f6⟩:=zL _ lb _ s4 (Same.free EZ hB) hz (V9 sk EU);subst AV;exact⟨_,rfl,_,rfl,d,kvs,la,kL l,rfl,rfl,f1,f2,KG,_,rfl,f3,f4,f5,f6⟩
     refine eq_str (x:=sy.sort) rfl (cz (λc5=>?_) (λc5=>?_))
     ·obtain⟨k1,e⟩:=Ko c5;subst e;cases OB with
      |cons h1 r1=>
       cases r1;obtain⟨JI,rfl,JJ⟩:=h1;refine⟨_,rfl,D,_,_,_,rfl,rfl,SqL.of KH,rfl,_,rfl,JI,la,LL ws,l,gW ws k1,rfl,JJ.tab,Af sk EU k1,CC,lm,λlb F G4 s4 hB nd mm hz=>?_⟩;obtain⟨f1,f2,f3,f4,f5,f6⟩:=zL _ lb _ s4 (Same.free EZ hB) hz (Tz lm nd mm);subst AV;exact⟨_,rfl,_,rfl,d,kvs,la,kL l,rfl,rfl,f1,f2,KG,_,rfl,f3,f4,f5,f6⟩
     ·refine⟨sz0,λlb CH=>?_⟩;have e:sy=.nought:=by
       cases sy with
       |nought=>rfl
       |every=>exact absurd (by show decide (("all":Str)="all")=true;decide +kernel) c1
       |note=>exact absurd nt (by decide)
       |is f v=>exact absurd (by show(decide (("is":Str)="is") || decide (("is":Str)="put"))=true;decide +kernel) cc
       |put f v=>exact absurd (by show(decide (("put":Str)="is") || decide (("put":Str)="put"))=true;decide +kernel) cc
       |no a=>exact absurd (by show decide (("not":Str)="not")=true;decide +kernel) c2
       |again a=>exact absurd (by show decide (("again":Str)="again")=true;decide +kernel) c5
       |either a b=>exact absurd (by show decide (("either":Str)="either")=true;decide +kernel) c3
       |both a b=>exact absurd (by show decide (("then":Str)="then")=true;decide +kernel) c4
      subst e;have s4:=ad CH (.lst []);obtain⟨f1,f2,f3,f4,f5,f6⟩:=zL _ lb [] s4 (Same.free EZ CH) ⟨[],ac,.nil⟩ Qa.symm;subst AV;exact⟨_,rfl,_,rfl,d,kvs,la,kL l,rfl,rfl,f1,f2,KG,_,rfl,f3,f4,f5,f6⟩
    ·intro σ G zE;obtain⟨v6,rfl,EZ,_,_,kvs,dd,kn,tt⟩:=zE;rw[RR,eZ]at tt;exact⟨_,rfl,q d _ G EZ EA ⟨kvs,dd,kn,tt⟩⟩
end
def Turned (ws ws':List (Str×Nat)):Prop:=ws'=ws.reverse\/∃x c,ws=[(x,c)]/\ws'=[(x,min (c+1) 6)]
def Nq (K:aC):Sp:=λvs H Q _=>∃(sp:Addr)(ws:List (Str×Nat)),vs=[.ref sp]/\Hold K H (.ref sp) (cy ws)/\br ws/\∀(DO:Addr)(ws':List (Str×Nat)) (H':Hp),Same H H'->Hold K H' (.ref DO) (cy ws')->Turned ws ws'->Q (.ref DO) H'
theorem B8 {K:aC}{H:Hp}:∀{xs:List V}{ds:List Da},Holds K H xs ds->Holds K H xs.reverse ds.reverse
 | [],[],_=>.nil
 |x::xs,d::ds,h=>by
  cases h with
  |cons h1 h2=>
   rw[iZ,iZ];exact(B8 h2).append (.one h1)
 | [],_::_,h=>by cases h
 |_::_,[],h=>by cases h
section
variable {P:aP}{w:aW}{K:aC}{mg:Str->Option aB}{base:Heap}
theorem Qk:au ["_law_speech_here","_law_field","_law_count"] ["_law_speech_here"] (aj Jg):=fsN
theorem T6 {f:Addr}{fd:bX}(F:Fun K "_law_turned" "_law_turned" Jg f fd)(ml:mg "len"=none)(mn:mg "min"=none):FnOk P w K mg base CX0 1 f fd ["_law_speech_here"] (Nq K):=by
 refine F.ok Qk (λvs H Q E h=>?_) (λzH A outer s H vs Q E hr h=>?_)
 ·obtain⟨sp,ws,rfl,_⟩:=h;rfl
 obtain⟨sp,ws,rfl,zU,sk,q⟩:=h;refine⟨_,ag (cn (bc yh (bn bj rfl ml gF (aa (pv 0) ae)) af (bg _)) (ah (ax (Fx (pv 0) (n8 kq af)))) bo) (ag (fw (aq bx (pv 0) af (λ_ _=>rfl)) (tj rfl (fb (ba (i:=1) Qk.nd rfl (cD rfl)) (fb (ba (i:=2) Qk.nd rfl (cD rfl)) m9)))) (ah (ax (c9 (aa (c9 (aa (pv 1) (aa (bn (Bf rfl) rfl mn (by kernel_rfl) (aa (ay ie (pv 2) af) (bz af ae))) ae))) ae))))),?_⟩;dsimp only[bb,Cx.nox];obtain⟨DO,MJ,RS,DR,DS⟩:=Hold.tupI zU;cases RS;have RT:MJ.length=ws.length:=(by rw[DS.length,aI]);refine⟨_,rfl,sp,_,rfl,.inr DR,_,_,rfl,rfl,_,rfl,?_⟩;refine cz (λcc=>?_) (λcc=>?_)
 ·refine⟨_,rfl,_,rfl,rfl,sp,_,rfl,DR,λp hp=>?_⟩;exact q p ws.reverse _ (ad hp _) (.tup (SqT.of ac) (by rw[lK];exact B8 (DS.mono (ad hp _)))) (.inl rfl)
 ·have c':¬(1:Int) < ((MJ.length:Nat):Int):=λz=>cc (decide_eq_true z);have lo:=sk.lo;cases ws with
  |nil=>exact absurd lo (by decide)
  |cons w0 wt=>
   cases wt with
   |cons w1 wt=>rw[RT]at c';exact absurd c' (by simp;lia)
   |nil=>
    cases DS with
    |cons h1 r1=>
     cases r1;obtain⟨t0,ys,rfl,FD,AO⟩:=Hold.tupI h1;cases AO with
     |cons e1 r2=>
      cases r2 with
      |cons e2 r3=>
       cases r3;cases e1.flatI;cases e2.flatI;refine⟨_,rfl,sp,_,_,_,rfl,rfl,DR,rfl,t0,_,rfl,FD,rfl,_,_,rfl,_,_,rfl,rfl,?_⟩;refine⟨_,rfl,_,rfl,_,_,rfl,rfl,_,_,rfl,sz2,λp1 BC=>⟨sz1,λp2 zZ=>?_⟩⟩;have e:(if (6:Int) < (w0.2:Int)+1 then (6:Int)else (w0.2:Int)+1)=((min (w0.2+1) 6:Nat):Int):=by split<;>lia
       refine q p2 [(w0.1,min (w0.2+1) 6)] _ (Same.trans (ad BC _) (ad zZ _)) (.tup (SqT.of ac) (.one (.tup (xs:=[.str w0.1,.int ((min (w0.2+1) 6:Nat):Int)]) (SqT.of ?_) (.cons (.flat rfl) (.cons (.flat rfl) .nil))))) (.inr ⟨w0.1,w0.2,rfl,rfl⟩);rw[ai (am ac zZ),ac,e]
end
theorem E6 (m:Int)(xs:List (List Int)):∀k,(pick m xs k).Sublist (xs.take k)
 |0=>List.Sublist.slnil
 |k+1=>by
  unfold Bits.pick;rw[lU,pL,eJ];refine(E6 m xs k).append ?_;rw[gZ];cases h:xs[k]? with
  |none=>split<;>rename_i e<;>simp_all
  |some x=>
   by_cases c:m.toNat.testBit k=true
   ·rw[if_pos c];exact List.Sublist.refl _
   ·rw[if_neg c];exact List.nil_sublist _
theorem Hf {ws:List (Str×Nat)}{s:Say}{l:List Int}{mk:Int}(h:MaskP (LL ws).length mk (s.W ws 0 0 ((LL ws).idxOf l))):pick mk (LL ws) (LL ws).length=gW ws s l:=by
 have sb:=E6 mk (LL ws) (LL ws).length;rw[eZ]at sb;refine oo (sb.nodup (ig _)) (List.Pairwise.sublist sb (B6 ws)) λy=>?_;rw[O5];constructor
 ·intro zE;obtain⟨i,hi,hb,e⟩:=zE;refine⟨bK e,?_⟩;rw[u8 e];exact(h.2 i hi).mp hb
 ·intro zE;obtain⟨hy,hW⟩:=zE;obtain⟨e,hi⟩:=fq hy;exact⟨_,hi,(h.2 _ hi).mpr hW,e⟩
theorem T7 (cs:List Nat):mul cs=prd cs:=by
 have h:∀(cs:List Nat)(k:Nat),cs.foldl (· * ·) k=k * prd cs:=λcs=>by
  induction cs with
  |nil=>intro k;show k=k * 1;lia
  |cons c cs ih=>intro k;rw[tL,ih,uW];rfl
 have:=h cs 1;rw[Nat.one_mul]at this;exact this
theorem E7 (ws:List (Str×Nat)):(LL ws).length=prd (ws.map (·.2)):=by rw[i8,T7]
theorem Hg:∀{ws:List (Str×Nat)}{x:Str}{p c:Nat},look ws x=some (p,c)->(x,c)∈ws
 | [],x,p,c,h=>by cases h
 |w::r,x,p,c,h=>by
  unfold look at h;by_cases e:w.1=x
  ·rw[if_pos e]at h;cases h;rw[<-e];exact cJ
  ·rw[if_neg e]at h;obtain⟨q,hq,eq⟩:=iU.mp h;obtain⟨q1,q2⟩:=q;cases eq;exact cC _ (Hg hq)
theorem Turned.ok {ws ws':List (Str×Nat)}(t:Turned ws ws')(h:br ws):br ws':=by
 rcases t with rfl | ⟨x,c,rfl,rfl⟩
 ·exact⟨by rw[gL];exact h.lo,by rw[gL];exact h.hi,λw hw=>h.cnt w (List.mem_reverse.mp hw),λw hw=>h.word w (List.mem_reverse.mp hw)⟩
 ·refine⟨aN _,by show 1<=3;decide,λw hw=>?_,λw hw=>?_⟩
  ·rw[aY.mp hw];show 1<=min (c+1) 6/\min (c+1) 6<=6;lia
  ·rw[aY.mp hw];exact h.word (x,c) cJ
theorem Turned.wds {ws ws':List (Str×Nat)}(t:Turned ws ws')(h:Wds ws):Wds ws':=by
 rcases t with rfl | ⟨x,c,rfl,rfl⟩
 ·exact⟨by rw[lK];exact(List.reverse_perm _).nodup_iff.mpr h.nd⟩
 ·exact⟨h.nd⟩
theorem Hh:∀(a b:List Nat),prd (a++b)=prd a * prd b
 | [],b=>by show prd b=1 * prd b;lia
 |c::a,b=>by show c * prd (a++b)=c * prd a * prd b;rw[Hh a b,uW]
theorem Hi:∀(a:List Nat),prd a.reverse=prd a
 | []=>rfl
 |c::a=>by rw[iZ,Hh,Hi a];show prd a * (c * 1)=c * prd a;rw[Nat.mul_one,qU]
theorem Turned.prd {ws ws':List (Str×Nat)}(t:Turned ws ws')(h:prd (ws.map (·.2))<=24):prd (ws'.map (·.2))<=24:=by
 rcases t with rfl | ⟨x,c,rfl,rfl⟩
 ·rw[lK,Hi];exact h
 ·show min (c+1) 6 * 1<=24;lia
theorem Turned.flt {ws ws':List (Str×Nat)}(t:Turned ws ws')(h:br ws)(hw:Wds ws){x:Str}{v:Int}(e:d7 ws x v=none):d7 ws' x v=none:=by
 obtain⟨p,c,lk,v0,v1⟩:=qz e;have m:=Hg lk;have JA:=t.wds hw;rcases t with rfl | ⟨y,d,rfl,rfl⟩
 ·exact ra JA (w:=(x,c)) (List.mem_reverse.mpr m) v0 v1
 ·have e2:(x,c)=(y,d):=aY.mp m;cases e2;have c6:=(h.cnt (x,c) cJ).2;refine ra JA (w:=(x,min (c+1) 6)) cJ v0 ?_;show v < ((min (c+1) 6:Nat):Int);have:c<=6:=c6;lia
theorem Turned.due {ws ws':List (Str×Nat)}(t:Turned ws ws')(h:br ws)(hw:Wds ws):∀{s:Say},s.due ws=none->s.due ws'=none
 | .nought,_=>rfl
 | .every,_=>rfl
 | .note,_=>rfl
 | .is f v,e=>t.flt h hw e
 | .put f v,e=>t.flt h hw e
 | .no a,e=>by
  by_cases c:a.isT=true
  ·have e1:(Say.no a).due ws=a.due ws:=if_pos c;have e2:(Say.no a).due ws'=a.due ws':=if_pos c;rw[e2];rw[e1]at e;exact Turned.due t h hw e
  ·have e1:(Say.no a).due ws=some (.test a):=if_neg c;rw[e1]at e;cases e
 | .again a,e=>Turned.due t h hw (s:=a) e
 | .either a b,e=>by
  have e':(a.due ws).or (b.due ws)=none:=e;show(a.due ws').or (b.due ws')=none;cases ha:a.due ws with
  |some f=>rw[ha]at e';cases e'
  |none=>
   rw[ha,pM]at e';rw[Turned.due t h hw ha,pM];exact Turned.due t h hw e'
 | .both a b,e=>by
  have e':(a.due ws).or (b.due ws)=none:=e;show(a.due ws').or (b.due ws')=none;cases ha:a.due ws with
  |some f=>rw[ha]at e';cases e'
  |none=>
   rw[ha,pM]at e';rw[Turned.due t h hw ha,pM];exact Turned.due t h hw e'
def Hj (K:aC):Sp:=λvs H Q _=>∃(c sp:Addr)(xs:List V) (ws:List (Str×Nat)),vs=[.ref c,.ref sp]/\SqL K H c xs/\(∀x∈xs,∃n,x=V.int n)/\xs.length<=28/\Hold K H (.ref sp) (cy ws)/\br ws/\Wds ws/\
 ∀(y:V)(s:Say) (H':Hp),Same H H'->Hold K H' y s.da->s.size<=58->s.due ws=none->s.nts=0->s.isT=true->Q y H'
theorem E8 (is:List bu)(p:bu->Bool):cb (is.filter p)<=cb is:=by
 induction is with
 |nil=>exact aN _
 |cons i r ih=>
  have e:∀(j:bu)(l:List bu),cb (j::l)=cb [j]+cb l:=λj l=>cp [j] l;rw[lM,e]
  split
  ·rw[e];lia
  ·lia
theorem Gd.filter {ws:List (Str×Nat)}{is:List bu}{m:Nat}(h:Gd ws is m)(p:bu->Bool):Gd ws (is.filter p) m where
 due:=λi hi=>h.due i (lA.mp hi).1
 nts:=by
  refine bQ ?_ h.nts;clear h
  induction is with
  |nil=>exact aN _
  |cons i r ih=>
   have e:∀(j:bu)(l:List bu),ntot (j::l)=ntot [j]+ntot l:=λj l=>rh [j] l;rw[lM,e]
   split
   ·rw[e];lia
   ·lia
section
variable {P:aP}{w:aW}{K:aC}{mg:Str->Option aB}{base:Heap}
theorem Bc:au ["_law_cells","_law_speech_here","_law_row","_law_cell_here"] ["_law_cells","_law_speech_here"] (aj Ds):=fsN
def Ro:gM:={ kind:=.function,names:=[(".0",.local),("_law_one",.local)],isGenerator:=false,isCoroutine:=false,more:=[] }
theorem cTt_ {X:Cx}:bv X ["_law_one"] [] [] Ro []:=iw rfl (by decide +kernel) (by decide +kernel) (by decide +kernel)
theorem Ql {f fR fJ:Addr}{fd LV HK:bX}(F:Fun K "_law_test" "_law_test" Ds f fd)
  (GR:FnOk P w K mg base CX0 3 fR LV ["_law_row","_law_cell_here","_law_speech_here","_law_most"] (xk K)) (bR:Binds K LV ["_law_row","_law_cell_here","_law_speech_here","_law_most"] []) (kR:aV K (.ref fR)=true) (mR:mg "_law_grown"=some (.ref fR))
  (GJ:FnOk P w K mg base CX0 1 fJ HK ["_law_row","_law_word"] (oh K)) (bJ:Binds K HK ["_law_row","_law_word"] []) (kJ:aV K (.ref fJ)=true) (mJ:mg "_law_joined"=some (.ref fJ))
  (ml:mg "len"=none):FnOk P w K mg base CX0 4 f fd ["_law_cells","_law_speech_here"] (Hj K):=by
 refine F.ok Bc (λvs H Q E h=>?_) (λzH A outer s H vs Q E hr h=>?_)
 ·obtain⟨c,sp,xs,ws,rfl,_⟩:=h;rfl
 obtain⟨c,sp,cs,ws,rfl,hS,hI,SA,zU,sk,wd,q⟩:=h;have AF:Room 1 _:=hr.mono (by decide);refine⟨_,ag (av (i:=2) Bc.nd rfl (cD rfl) (az (aa (az (aa (c9 (bz bh ae)) (bz j9 (bz af (bz af ae))))) ae))) (ag (dv eU rfl (cf (pv 0)) (ba (i:=3) Bc.nd rfl (cD rfl)) (ag (i9 (i0:=2) (ns:=["_law_one"]) (ys:=[]) (sc:=Ro) Bc.nd rfl rfl cTt_ rfl (cf (ao GR hr rfl mR kR bR .nil aw (aa (pv 2) (aa (pv 3) (aa (pv 1) (aa af ae)))))) (λC s H fp=>ba (i:=0) (by show(["_law_one"]:List Str).Nodup;decide +kernel) rfl (cD rfl)) (λC s H fp=>pw (o7 (aq (r:=An K) ar (pv 0) af (λ_ _=>rfl)))) (λC s H fp=>pv 0)) (ah (cn (bc (Gc hr.units) (pv 2) (az ae) (bg _)) (ah (av (i:=2) Bc.nd rfl (cD rfl) (az (aa (az (aa (c9 (bz bh ae)) (bz j9 (bz af (bz af ae))))) ae)))) bo)))) (ag (nh eU (bc yh (bn bj rfl ml gF (aa (pv 2) ae)) af (bg _)) (ah (av (i:=2) Bc.nd rfl (cD rfl) (ao GJ AF rfl mJ kJ bJ .nil aw (aa (pv 2) (aa (aq ar (az (bz bh (bz bh ae))) (ay jd (bn bj rfl ml gF (aa (pv 2) ae)) af) (λ_ _=>rfl)) ae)))))) (ah (ax (aq ar (aq ar (pv 2) af (λ_ _=>rfl)) af (λ_ _=>rfl)))))),?_⟩;dsimp only[bb,Cx.nox];refine⟨sz1,λt ht=>⟨sz4,λl hl=>⟨sz1,λl2 zW=>?_⟩⟩⟩;generalize CG:upd (upd (upd H t (.tup [.str "all"])) l (.lst [.ref t,.bl true,.int 0,.int 0])) l2 (.lst [.ref l])=G2;have s2:Same H G2:=by
  rw[<-CG];exact Same.trans (Same.trans (ad ht _) (ad hl _)) (ad zW _)
 have g2:G2 l2=some (.lst [.ref l]):=(by rw[<-CG,ac]);have JR:Holds K G2 [V.ref l] ((([]:List bu)++[(Say.every,0)]).map dq):=by
  rw[<-CG];exact .one (gw (i:=(Say.every,0)) (ad zW _ _ _ ac) (.tup (SqT.of (ad zW _ _ _ (ad hl _ _ _ ac))) (.cons (.flat rfl) .nil)) rfl rfl)
 refine⟨_,rfl,c,rfl,⟨_,s2.seq hS⟩,fe (K:=K) (a:=c) (xs:=cs) (λi σ G=>∃(r:Addr)(xs:List V) (js:List bu) (j:bu) (v3:Option V),σ=[some (.ref c),some (.ref sp),some (.ref r),v3]/\Same G2 G/\G r=some (.lst xs)/\Holds K G xs ((js++[j]).map dq)/\cb (js++[j])<=1+i/\Gd ws (js++[j]) 0/\∀k∈js++[j],k.1.isT=true) ⟨l2,_,[],(Say.every,0),none,rfl,Same.refl _,g2,JR,aN _,⟨λi hi=>(by rw[aY.mp hi];rfl),eV _⟩,λk hk=>by rw[aY.mp hk];rfl⟩ (λi σ G _ z=>by obtain⟨_,_,_,_,_,_,sG,_⟩:=z;exact(Same.trans s2 sG).seq hS) ?_ ?_⟩
 ·intro i x σ G hx zE;obtain⟨r,xs,js,j,v3,rfl,sG,gr,hd,tt,gd,HW⟩:=zE;generalize zI:d6.mk _ _ _ _=zV;revert zI zV;refine id ?_;intro zV zI;obtain⟨n,rfl⟩:=hI x (bK hx);have hi:i < cs.length:=(aL.mp hx).1;refine⟨_,rfl,_,rfl,_,rfl,r,sp,n,0,xs,js,j,ws,rfl,gr,hd,by lia,Hold.mono (Same.trans s2 sG) zU,sk,wd,gd,λr' AM EW j' G' s' g' h' t' RE=>?_⟩;have l1:AM.length=(EW++[j']).length:=(by rw[h'.length,aI]);have l2':=np (EW++[j']);refine⟨r',rfl,⟨_,SqL.of g'⟩,λD hD=>?_⟩;refine di (K:=K) (a:=r') (xs:=AM) (λe zs G3=>Same G' G3/\G3 D=some (.lst zs)/\Holds K G' zs ((((EW++[j']).take e).filter λk=>k.1.isT).map dq)) ⟨ad hD _,ac,.nil⟩ (λe zs G3 z=>z.2.1) (λe zs G3 _ z=>SqL.of (z.1 _ _ g')) ?_ ?_
  ·intro e y zs G3 hy zE;obtain⟨s3,gD,AH⟩:=zE;obtain⟨k,ek,hk⟩:=h'.getm hy;obtain⟨ca,y0,rfl,hc,EQ⟩:=iy hk;have zl:zs.length<=100:=by
    rw[AH.length,aI];refine bQ (jU _ _) ?_;rw[dJ];lia
   have HU:(EW++[j']).take (e+1)=(EW++[j']).take e++[k]:=(by rw[eJ,ek];rfl);refine⟨be (by lia),⟨[some _],rfl,rfl⟩,?_⟩;refine⟨_,rfl,ca,_,_,_,rfl,rfl,s3.seq hc,rfl,_,rfl,?_⟩;refine cz (λcc=>?_) (λcc=>?_)
   ·refine⟨_,rfl,gD,Same.put s3 hD _,ac,?_⟩;rw[HU,lO,cU,lM,if_pos cc];exact AH.append (.one hk)
   ·refine⟨s3,gD,?_⟩;rw[HU,lO,lM,if_neg cc,wK,lB];exact AH
  ·intro zs G3 zE;obtain⟨s3,gD,AH⟩:=zE;rw[l1,eZ]at AH;have WV:=Same.trans sG (Same.trans s' s3);have ft:=E8 (EW++[j']) λk=>k.1.isT;have fg:=RE.filter λk=>k.1.isT;have fi:∀k∈(EW++[j']).filter λk=>k.1.isT,k.1.isT=true:=λk hk=>(lA.mp hk).2;generalize (EW++[j']).filter (λk=>k.1.isT)=fl at AH ft fg fi;refine⟨_,rfl,sz0,λe0 he0=>?_⟩;have s4:=ad he0 (.lst []);rcases nO fl with e | ⟨ks,k,e⟩
   ·subst e;cases AH;refine⟨D,e0,[],[],rfl,rfl,SqL.of (s4 _ _ gD),SqL.of ac,.inr ⟨[],.nil,.nil,(by decide),true,rfl,jj ?_⟩⟩;refine⟨sz1,λt ht=>⟨sz4,λl hl=>⟨sz1,λl3 SB=>?_⟩⟩⟩;have s5:=Same.trans (Same.trans (ad ht (.tup [.str "none"])) (ad hl (.lst [.ref t,.bl true,.int 0,.int 0]))) (ad SB (.lst [.ref l]));subst zI;refine⟨l3,[.ref l],[],(Say.nought,0),_,rfl,Same.trans WV (Same.trans s4 s5),ac,.one (gw (i:=(Say.nought,0)) (ad SB _ _ _ ac) (.tup (SqT.of (ad SB _ _ _ (ad hl _ _ _ ac))) (.cons (.flat rfl) .nil)) rfl rfl),by show 1<=_;lia,⟨λi hi=>(by rw[aY.mp hi];rfl),eV _⟩,λk hk=>by rw[aY.mp hk];rfl⟩
   ·rw[nP]at e;subst e;have zl:zs.length=(ks++[k]).length:=(by rw[AH.length,aI]);refine⟨D,e0,zs,[],rfl,rfl,SqL.of (s4 _ _ gD),SqL.of ac,.inl ⟨by rw[zl,aO];show ks.length+1≠0;lia,false,rfl,de ?_⟩⟩;subst zI;exact⟨D,zs,ks,k,_,rfl,Same.trans WV s4,s4 _ _ gD,AH.mono (Same.trans s3 s4),by lia,fg,fi⟩
 ·intro σ G zE;obtain⟨r,xs,js,j,v3,rfl,sG,gr,hd,tt,gd,HW⟩:=zE;have lj:js.length+1<=cb (js++[j]):=by
   have z:=np (js++[j]);rw[aO,eX]at z;exact z
  refine⟨λm σ G=>∃(r:Addr)(xs:List V) (js:List bu) (j:bu),σ=[some (.ref c),some (.ref sp),some (.ref r),v3]/\Same G2 G/\G r=some (.lst xs)/\Holds K G xs ((js++[j]).map dq)/\js.length+cb (js++[j])<=58/\Gd ws (js++[j]) 0/\(∀k∈js++[j],k.1.isT=true)/\m=js.length,⟨_,r,xs,js,j,rfl,sG,gr,hd,by lia,gd,HW,rfl⟩,?_⟩;clear lj tt hd gr sG gd HW;intro m σ G zE;obtain⟨r,xs,js,j,rfl,sG,gr,hd,tt,gd,HW,rfl⟩:=zE;have lx:xs.length=js.length+1:=(by rw[hd.length,aI,aO,eX]);refine⟨_,rfl,r,_,rfl,.inl (SqL.of gr),_,_,rfl,rfl,_,rfl,?_⟩;refine cz (λcc=>?_) (λcc=>?_)
  ·have c':(1:Int) < ((xs.length:Nat):Int):=of_decide_eq_true cc;rcases nO js with e | ⟨ks,i1,e⟩
   ·rw[e]at lx;rw[lx]at c';exact absurd c' (by decide)
   rw[nP]at e;subst e;have e2:(ks++[i1])++[j]=ks++[i1,j]:=(by simp);have t1:cb ((ks++[i1])++[j])=cb ks+i1.1.size+j.1.size:=(by rw[cp,cp,cv,cv]);have l1:(ks++[i1]).length=ks.length+1:=(by rw[aO,eX]);rw[t1,l1]at tt;refine⟨λσ' G'=>∃(r:Addr)(xs:List V) (js:List bu) (j:bu),σ'=[some (.ref c),some (.ref sp),some (.ref r),v3]/\Same G2 G'/\G' r=some (.lst xs)/\Holds K G' xs ((js++[j]).map dq)/\js.length+cb (js++[j])<=58/\Gd ws (js++[j]) 0/\(∀k∈js++[j],k.1.isT=true)/\js.length < (ks++[i1]).length,λσ' G' z=>?_,?_⟩
   ·obtain⟨r,xs,js,j,z1,z0,z2,z3,z4,z6,z7,z5⟩:=z;exact⟨_,z5,r,xs,js,j,z1,z0,z2,z3,z4,z6,z7,rfl⟩
   ·refine⟨_,rfl,sz2,λlw RF=>?_⟩;have sw:=ad RF (.lst [.str "either",.str "then"]);have m0:=gf (((xs.length:Nat):Int)) (m:=2) (by decide);obtain⟨wd,hw,ew⟩:=Jl (ns:=["either","then"]) m0.1 m0.2;have JA:wd="either"\/wd="then":=by
     rcases aU.mp hw with z | z
     ·exact .inl z
     ·exact .inr (aY.mp z)
    refine⟨_,rfl,r,_,rfl,.inl (SqL.of (sw _ _ gr)),_,_,rfl,rfl,(by show(0:Int) < 2;decide),lw,_,_,_,rfl,rfl,SqL.of ac,ew,?_⟩;refine⟨r,wd,_,ks,i1,j,rfl,JA,sw _ _ gr,(by rw[<-e2];exact Holds.mono sw hd),by lia,λr' AM sy d G' s' g' h' e' en eu et=>?_⟩;refine⟨r',AM,ks,(sy,d),rfl,Same.trans sG (Same.trans sw s'),g',h',?_,Gd.join (by rw[<-e2];exact gd) en (eu ws),λk hk=>?_,by lia⟩
    ·rw[cp,cv];show ks.length+(cb ks+sy.size)<=58;lia
    ·rcases eC.mp hk with z | z
     ·exact HW k (by rw[e2];exact eC.mpr (.inl z))
     ·rw[aY.mp z];show sy.isT=true;rw[et,HW i1 (by rw[e2];simp),HW j (by rw[e2];simp)];rfl
  ·have c':¬(1:Int) < ((xs.length:Nat):Int):=λz=>cc (decide_eq_true z);have e:js=[]:=iB.mp (by lia);subst e;obtain⟨ys,x0,rfl,hy,CO⟩:=g0 (ds:=[]) hd;cases hy;obtain⟨c0,y0,rfl,EV,EQ⟩:=iy CO;have sj:j.1.size<=58:=by
    rw[cp,cv]at tt;lia
   exact⟨_,rfl,r,_,_,_,rfl,rfl,SqL.of gr,rfl,c0,_,_,_,rfl,rfl,EV,rfl,q y0 j.1 G (Same.trans s2 sG) EQ sj gd.it (Nat.le_zero.mp gd.nt1) (HW j (by simp))⟩
end
theorem Wc (K:aC):uB K (.type "list") (.type "list")=some true:=by kernel_rfl
theorem Wd (K:aC):uB K (.type "bool") (.type "bool")=some true:=by kernel_rfl
theorem x6 {α:Type}{f:α->Da}{n:Nat}(h:∀a,(f a).dep<=n):∀l:List α,depL (l.map f)<=n
 | []=>by rw[vV,depL];exact eV _
 |a::r=>by
  rw[eO,depL];exact Nat.max_le.mpr ⟨h a,x6 h r⟩
theorem x8 (ls:List (List Int)):depL (ls.map fj)<=60:=x6 (λl=>by
  unfold fj;rw[Da.dep];have z:=x6 (n:=0) (f:=λv:Int=>Da.flat (.int v)) (λa=>by rw[Da.dep];exact aN _) l;lia) ls
theorem We {ws:List (Str×Nat)}(sk:br ws):0 < (LL ws).length:=by
 rw[E7];have h:∀cs:List Nat,(∀c∈cs,1<=c)->0 < prd cs:=λcs=>by
  induction cs with
  |nil=>intro _;exact Nat.one_pos
  |cons c r ih=>intro hc;exact Nat.mul_pos (hc c cJ) (ih λd hd=>hc d (cC _ hd))
 refine h _ λc hc=>?_;obtain⟨z,hz,rfl⟩:=jD.mp hc;exact(sk.cnt z hz).1
def Hk (K:aC):Sp:=λvs H Q _=>∃(sp lt:Addr)(x:V) (ws:List (Str×Nat)) (s:Say) (l:List Int),vs=[.ref sp,x,.ref lt]/\Ask K H sp lt x ws s l/\s.due ws=none/\s.nts=0/\
 ∀(p:Addr)(H':Hp),Same H H'->H p=none->LetAt K H' p (gW ws s l)->Q (.ref p) H'
def Hl (K:aC):Sp:=λvs H Q _=>∃(sp lt:Addr)(x:V) (ws:List (Str×Nat)) (s:Say) (l:List Int),vs=[.ref sp,x,.ref lt]/\Ask K H sp lt x ws s l/\s.due ws=none/\s.isT=true/\
 ∀H':Hp,Same H H'->Q (.bl (decide (gW ws s l≠[]))) H'
structure Qm (K:aC)(H:Hp)(ws:List (Str×Nat))(x:V)(s:Say):Prop where
 h:Hold K H x s.da
 z:s.size<=58
 d:s.due ws=none
 n:s.nts=0
def Nr (K:aC):Sp:=λvs H Q _=>∃(sp:Addr)(x y:V) (ws:List (Str×Nat)) (s t:Say),vs=[.ref sp,x,y]/\Hold K H (.ref sp) (cy ws)/\br ws/\Wds ws/\(LL ws).length<=24/\Qm K H ws x s/\Qm K H ws y t/\t.isT=true/\
 ∀H':Hp,Same H H'->Q (.bl true) H'
theorem Wf {K:aC}{H:Hp}{Q:VK}{a b:Addr}{xs:List V}(ls:List (List Int))(ha:H a=some (.lst xs))(hb:H b=some (.lst []))(e:xs.length=ls.length)(q:Q (.bl (decide (ls≠[]))) H):rLL K false (.ref a) (.ref b) H Q:=by
 refine⟨a,b,xs,[],rfl,rfl,SqL.of ha,SqL.of hb,?_⟩;cases ls with
 |nil=>
  cases xs with
  |nil=>exact .inr ⟨[],.nil,.nil,by decide,q⟩
  |cons _ _=>cases e
 |cons l r=>
  rw[decide_eq_true (by intro z;cases z)]at q;exact .inl ⟨by rw[e];simp,q⟩
section
variable {P:aP}{w:aW}{K:aC}{mg:Str->Option aB}{base:Heap}{cF cV cT cP:Addr}
theorem Xs {f:Addr}{fd:bX}(F:FnOk P w K mg base (CXx P w) 10 f fd ["speech","saying","letter"] (Md K cF cV cT cP)):FnOk P w K mg base CX0 10 f fd ["speech","saying","letter"] (Hk K):=
 FnOk.calm F λvs H Q E zF=>by obtain⟨sp,lt,x,ws,s,l,e,ak,d,n,q⟩:=zF;exact⟨sp,lt,x,ws,s,l,e,ak,(λf z=>by rw[d]at z;cases z),(λ_ z=>absurd n z),λ_ _ p mk H' s1 hp mp la=>q p H' s1 hp (by rw[Hf mp]at la;exact la)⟩
theorem Xt {f:Addr}{fd:bX}(F:FnOk P w K mg base (CXx P w) 10 f fd ["speech","test","letter"] (Mg K cF cV cT)):FnOk P w K mg base CX0 10 f fd ["speech","test","letter"] (Hl K):=
 FnOk.calm F λvs H Q E zF=>by obtain⟨sp,lt,x,ws,s,l,e,ak,d,n,q⟩:=zF;exact⟨sp,lt,x,ws,s,l,e,ak,(λf z=>by rw[d]at z;cases z),(λ_ z=>by rw[n]at z;cases z),λ_ _ mk H' s1 mp=>by rw[Hf mp];exact q H' s1⟩
abbrev nGo:List Str:=["_law_speech_here","_law_saying_here","_law_test_here","_law_letters_here","_law_due","_law_so","_law_letter","_law_found","_law_good_here"]
theorem x9:au nGo ["_law_speech_here","_law_saying_here","_law_test_here"] (aj Jh):=fsN
theorem T8 {f fL fS fD fI:Addr}{fd dL dS dD dI:bX}(F:Fun K "_law_good" "_law_good" Jh f fd)
  (GL:FnOk P w K mg base CX0 1 fL dL ["_law_speech_here"] (Mp K)) (bL:Binds K dL ["_law_speech_here"] []) (kLL:aV K (.ref fL)=true) (mL:mg "_law_letters"=some (.ref fL))
  (GS:FnOk P w K mg base CX0 60 fS dS ["_law_speech_here","_law_letters_here","_law_saying_here"] (Nk P w K 58)) (bS:Binds K dS ["_law_speech_here","_law_letters_here","_law_saying_here"] []) (kS:aV K (.ref fS)=true) (mS:mg "_law_step"=some (.ref fS))
  (GD:FnOk P w K mg base CX0 10 fD dD ["speech","saying","letter"] (Hk K)) (bD:Binds K dD ["speech","saying","letter"] []) (kD:aV K (.ref fD)=true) (mD:mg "done"=some (.ref fD))
  (GI:FnOk P w K mg base CX0 10 fI dI ["speech","test","letter"] (Hl K)) (bI:Binds K dI ["speech","test","letter"] []) (kI:aV K (.ref fI)=true) (mI:mg "is_so"=some (.ref fI))
  (mi:mg "isinstance"=none) (mt:mg "list"=none) (mb:mg "bool"=none):FnOk P w K mg base CX0 61 f fd ["_law_speech_here","_law_saying_here","_law_test_here"] (Nr K):=by
 refine F.ok x9 (λvs H Q E h=>?_) (λzH A outer s H vs Q E hr h=>?_)
 ·obtain⟨sp,x,y,ws,sy,ty,rfl,_⟩:=h;rfl
 obtain⟨sp,x,y,ws,sy,ty,rfl,zU,sk,wd,CW,hx,hy,hT,q⟩:=h;have hD:Room 10 _:=hr.mono (by decide);refine⟨_,ag (av (i:=3) x9.nd rfl (cD rfl) (ao GL (hr.mono (by decide)) rfl mL kLL bL .nil aw (aa (pv 0) ae))) (ag (av (i:=4) x9.nd rfl (cD rfl) (ao GS hr rfl mS kS bS .nil aw (aa (pv 0) (aa (pv 3) (aa (pv 1) ae))))) (ag (av (i:=5) x9.nd rfl (cD rfl) (ao GS hr rfl mS kS bS .nil aw (aa (pv 0) (aa (pv 3) (aa (pv 2) ae))))) (ag (dv eU rfl (cf (pv 3)) (ba (i:=6) x9.nd rfl (cD rfl)) (ag (av (i:=7) x9.nd rfl (cD rfl) (ao GD hD rfl mD kD bD .nil aw (aa (pv 0) (aa (pv 1) (aa (pv 6) ae))))) (ag (cn (PW.pt (yc (ye (o7 (bn C3 rfl mi (by kernel_rfl) (aa (pv 7) (aa (Fp (v:=.ty "list") rfl mt (by kernel_rfl) rfl) ae))))) (yb (bc (vn hr.units) (pv 7) (aq (gi (P:=P) (w:=w) (K:=K) rfl rfl rfl (hu8 hr)) (pv 4) (pv 6) (λ_ _=>rfl)) (bg _))))) (ah (ax j9)) bo) (ag (cw (mw fQ lV lW ir (pv 7) (aa (pv 6) ae))) (ag (av (i:=8) x9.nd rfl (cD rfl) (ao GI hD rfl mI kI bI .nil aw (aa (pv 0) (aa (pv 2) (aa (pv 6) ae))))) (ah (cn (PW.pt (yc (ye (o7 (bn C3 rfl mi (by kernel_rfl) (aa (pv 8) (aa (Fp (v:=.ty "bool") rfl mb (by kernel_rfl) rfl) ae))))) (yc (bc Hu (pv 8) (na (vn hr.units) (aq (gi (P:=P) (w:=w) (K:=K) rfl rfl rfl (hu8 hr)) (pv 5) (pv 6) (λ_ _=>rfl)) (az ae) (bg _)) (bg _)) (yb (bc (vn hr.units) (ao GD hD rfl mD kD bD .nil aw (aa (pv 0) (aa (pv 2) (aa (pv 6) ae)))) (aq (gi (P:=P) (w:=w) (K:=K) rfl rfl rfl (hu8 hr)) (pv 5) (pv 6) (λ_ _=>rfl)) (bg _)))))) (ah (ax j9)) bo))))))) (ah (ax (na (Gc hr.units) (ao GD hD rfl mD kD bD .nil aw (aa (pv 0) (aa (pv 1) (aa (aq ar (pv 3) af (λ_ _=>rfl)) ae)))) (aq (gi (P:=P) (w:=w) (K:=K) rfl rfl rfl (hu8 hr)) (pv 4) (aq ar (pv 3) af (λ_ _=>rfl)) (λ_ _=>rfl)) (bg _))))))),?_⟩;dsimp only[bb,Cx.nox];have gl24:∀(k:Say)(l:List Int),(gW ws k l).length<=24:=λk l=>bQ (i5 (sh ws _ l) (λm hm=>(dm.mp hm).1)) CW;refine⟨_,rfl,sp,ws,rfl,zU,sk,λlr G1 s1 la=>?_⟩;refine⟨_,rfl,_,rfl,_,rfl,sp,lr,x,ws,sy,rfl,zU.mono s1,sk,wd,CW,la,hx.h.mono s1,hx.d,hx.n,hx.z,λd1 n1 G2 s2 _ IY=>?_⟩;have BD:=Same.trans s1 s2;refine⟨_,rfl,_,rfl,_,rfl,sp,lr,y,ws,ty,rfl,zU.mono BD,sk,wd,CW,la.mono' s2,hy.h.mono BD,hy.d,hy.n,hy.z,λd2 n2 G3 s3 _ pt2=>?_⟩;have FV:=Same.trans BD s3;have t1:Tab P w K G3 d1 (LL ws) (gW ws sy):=Tab.mono (H:=G2) (by
   obtain⟨kvs,dd,_,tt⟩:=IY;refine⟨kvs,dd,λl hl=>?_⟩;obtain⟨b,e1,e2,_⟩:=tt l hl;exact⟨b,e1,e2⟩) s3
 have t2:Tab P w K G3 d2 (LL ws) (gW ws ty):=by
  obtain⟨kvs,dd,_,tt⟩:=pt2;refine⟨kvs,dd,λl hl=>?_⟩;obtain⟨b,e1,e2,_⟩:=tt l hl;exact⟨b,e1,e2⟩
 obtain⟨FU,OE,HV⟩:=la.mono' (Same.trans s2 s3);have RR:FU.length=(LL ws).length:=(by rw[HV.length,aI]);have ask:∀(G:Hp)(v:V) (k:Say) (lt:Addr) (l:List Int),Same G3 G->Qm K H ws v k->SqT K G lt (l.map V.int)->l∈LL ws->Ask K G sp lt v ws k l:=λG v k lt l sG sd hl lm=>
  ⟨zU.mono (Same.trans FV sG),sk,sd.h.mono (Same.trans FV sG),bQ sd.z (by decide),by rw[sd.n];decide,hl,lm⟩
 refine⟨_,rfl,lr,rfl,⟨_,SqL.of OE⟩,fe (K:=K) (a:=lr) (xs:=FU) (λi σ G=>∃v6 v7 v8:Option V,σ=[some (.ref sp),some x,some y,some (.ref lr),some (.ref d1),some (.ref d2),v6,v7,v8]/\Same G3 G) ⟨none,none,none,rfl,Same.refl _⟩ (λi σ G _ z=>by obtain⟨_,_,_,_,sG⟩:=z;exact SqL.of (sG _ _ OE)) ?_ ?_⟩
 ·intro i u σ G hu zE;obtain⟨v6,v7,v8,rfl,sG⟩:=zE;generalize zI:d6.mk _ _ _ _=zV;revert zI zV;refine id ?_;intro zV zI;obtain⟨l,el,hl⟩:=HV.getm hu;obtain⟨lt,rfl,zR⟩:=gj hl;have lm:l∈LL ws:=bK el;refine⟨_,rfl,_,rfl,_,rfl,sp,lt,x,ws,sy,l,rfl,ask G x sy lt l sG hx (zR.same sG) lm,hx.d,hx.n,λp G4 s4 hp lp=>?_⟩;have HX:=Same.trans sG s4;obtain⟨xs,gp,AI⟩:=lp;obtain⟨FW,FX,FY⟩:=t1.mono HX;obtain⟨b1,FZ,BS,CA,DQ⟩:=FY l lm;have xl:xs.length=(gW ws sy l).length:=(by rw[AI.length,aI]);have g24:=gl24 sy l;refine⟨_,rfl,_,_,_,_,rfl,.sql (SqL.of gp),Wc K,_,rfl,de ⟨_,rfl,_,rfl,_,rfl,d1,FW,lt,kL l,.ref b1,rfl,rfl,FX,e9 (zR.same HX),FZ,p,b1,xs,BS,rfl,rfl,SqL.of gp,SqL.of CA,.inr ⟨_,AI,DQ,x8 _,_,rfl,de ?_⟩⟩⟩;refine⟨_,rfl,.inl ⟨rfl,_,SqL.of gp⟩,_,rfl,p,xs,.ref lt,rfl,rfl,gp,be (by lia),?_⟩;have JL:Same G3 (upd G4 p (.lst (xs++[.ref lt]))):=Same.put HX (Same.free sG hp) _;generalize upd G4 p (.lst (xs++[.ref lt]))=G5 at JL ⊢;refine⟨_,rfl,_,rfl,_,rfl,sp,lt,y,ws,ty,l,rfl,ask G5 y ty lt l JL hy (zR.same JL) lm,hy.d,hT,λG6 s6=>?_⟩;have SC:=Same.trans JL s6;obtain⟨OC,ID,R'⟩:=t2.mono SC;obtain⟨b2,OD,EO,FI,IZ⟩:=R' l lm;have yl:EO.length=(gW ws ty l).length:=(by rw[IZ.length,aI]);refine⟨_,rfl,_,_,_,_,rfl,.of (.bl _),Wd K,_,rfl,de ⟨_,rfl,_,rfl,_,rfl,d2,OC,lt,kL l,.ref b2,rfl,rfl,ID,e9 (zR.same SC),OD,sz0,λp0 IV=>?_⟩⟩;have t0:=ad IV (.lst []);have OF:=Same.trans SC t0;have SD:=t0 _ _ FI;have s7:Same G6 (upd G6 p0 (.lst [])):=t0;have WW:upd G6 p0 (.lst []) p0=some (.lst []):=ac;generalize upd G6 p0 (.lst [])=G7 at OF SD s7 WW ⊢;refine Wf (gW ws ty l) SD WW yl ?_;refine⟨rfl,_,rfl,?_⟩;rw[decide_eq_true rfl];refine de ?_;refine⟨_,rfl,_,rfl,_,rfl,sp,lt,y,ws,ty,l,rfl,ask G7 y ty lt l OF hy (zR.same OF) lm,hy.d,hy.n,λp8 G8 s8 NI lp8=>?_⟩;have WX:=Same.trans OF s8;obtain⟨zs,gp8,AH⟩:=lp8;refine⟨_,rfl,_,rfl,d2,OC,lt,kL l,.ref b2,rfl,rfl,ID.mono (Same.trans s7 s8),e9 (zR.same WX),OD,p8,b2,zs,EO,rfl,rfl,SqL.of gp8,SqL.of (s8 _ _ SD),.inr ⟨_,AH,IZ.mono (Same.trans s7 s8),x8 _,_,rfl,de ?_⟩⟩;subst zI;exact⟨_,_,_,rfl,WX⟩
 ·intro σ G zE;obtain⟨v6,v7,v8,rfl,sG⟩:=zE;have lp:=We sk;have CO:FU[0]?=some (FU[0]'(by lia)):=aK (by lia);obtain⟨l,el,hl⟩:=HV.getm CO;obtain⟨lt,e0,zR⟩:=gj hl;rw[e0]at CO;have lm:l∈LL ws:=bK el;refine⟨_,rfl,_,rfl,_,rfl,lr,_,_,_,rfl,rfl,SqL.of (sG _ _ OE),bf (j:=0) CO,sp,lt,x,ws,sy,l,rfl,ask G x sy lt l sG hx (zR.same sG) lm,hx.d,hx.n,λp G4 s4 hp lp=>?_⟩;have HX:=Same.trans sG s4;obtain⟨xs,gp,AI⟩:=lp;obtain⟨FW,FX,FY⟩:=t1.mono HX;obtain⟨b1,FZ,BS,CA,DQ⟩:=FY l lm;refine⟨_,rfl,_,rfl,lr,_,_,_,rfl,rfl,SqL.of (HX _ _ OE),bf (j:=0) CO,d1,FW,lt,kL l,.ref b1,rfl,rfl,FX,e9 (zR.same HX),FZ,p,b1,xs,BS,rfl,rfl,SqL.of gp,SqL.of CA,.inr ⟨_,AI,DQ,x8 _,q _ (Same.trans FV HX)⟩⟩
end
theorem E9 {ns:List Int}{lo hi:Option Int}:∀x∈cr (ns.map V.int) lo hi,∃n,x=V.int n:=λx z=>by
 unfold cr at z;obtain⟨n,_,e'⟩:=jD.mp (List.mem_of_mem_drop (lX z));exact⟨n,e'.symm⟩
theorem Hm (xs:List V)(i j:Nat)(h:j<=i+28):(cr xs (some (i:Int)) (some (j:Int))).length<=28:=by
 unfold cr;rw[dJ,HT.sIx_nat,HT.sIx_nat,hX];lia
def Cs (K:aC):Sp:=λvs H Q _=>∃(a:Addr)(ns:List Int),vs=[.ref a]/\SqL K H a (ns.map V.int)/\ns.length<=63/\∀H',Q (.bl true) H'
section
variable {P:aP}{w:aW}{K:aC}{mg:Str->Option aB}{base:Heap}
abbrev nLa:List Str:=["_law_script","_law_speech_here","_law_saying_here","_law_test_here","_law_one"]
theorem Fa:au nLa ["_law_script"] (aj qr):=fsN
theorem Wh {f fC fS fY fT fU fG:Addr}{fd dC dS dY dT dU dG:bX}(F:Fun K "law" "law" qr f fd)
  (GC:FnOk P w K mg base CX0 1 fC dC ["_law_script","_law_k"] (Mj K)) (bC:Binds K dC ["_law_script","_law_k"] []) (kC:aV K (.ref fC)=true) (mC:mg "_law_cell"=some (.ref fC))
  (GS:FnOk P w K mg base CX0 2 fS dS ["_law_cell_here","_law_least"] (Bz K)) (bS:Binds K dS ["_law_cell_here","_law_least"] []) (kS:aV K (.ref fS)=true) (mS:mg "_law_speech"=some (.ref fS))
  (GY:FnOk P w K mg base CX0 4 fY dY ["_law_cells","_law_speech_here","_law_most"] (B0 K)) (bY:Binds K dY ["_law_cells","_law_speech_here","_law_most"] []) (kY:aV K (.ref fY)=true) (mY:mg "_law_saying"=some (.ref fY))
  (GT:FnOk P w K mg base CX0 4 fT dT ["_law_cells","_law_speech_here"] (Hj K)) (bT:Binds K dT ["_law_cells","_law_speech_here"] []) (kT:aV K (.ref fT)=true) (mT:mg "_law_test"=some (.ref fT))
  (GU:FnOk P w K mg base CX0 1 fU dU ["_law_speech_here"] (Nq K)) (bU:Binds K dU ["_law_speech_here"] []) (kU:aV K (.ref fU)=true) (mU:mg "_law_turned"=some (.ref fU))
  (GG:FnOk P w K mg base CX0 61 fG dG ["_law_speech_here","_law_saying_here","_law_test_here"] (Nr K)) (bG:Binds K dG ["_law_speech_here","_law_saying_here","_law_test_here"] []) (kG:aV K (.ref fG)=true) (mG:mg "_law_good"=some (.ref fG)) :
  FnOk P w K mg base CX0 62 f fd ["_law_script"] (Cs K):=by
 refine F.ok Fa (λvs H Q E h=>?_) (λzH A outer s H vs Q E hr h=>?_)
 ·obtain⟨a,ns,rfl,_⟩:=h;rfl
 obtain⟨a,ns,rfl,hS,n63,q⟩:=h;refine⟨_,ag (av (i:=1) Fa.nd rfl (cD rfl) (ao GS (hr.mono (by decide)) rfl mS kS bS .nil aw (aa (ao GC (hr.mono (by decide)) rfl mC kC bC .nil aw (aa (pv 0) (aa af ae))) (aa af ae)))) (ag (av (i:=2) Fa.nd rfl (cD rfl) (ao GY (hr.mono (by decide)) rfl mY kY bY .nil aw (aa (bq db (pv 0) (bw af) (bw af)) (aa (pv 1) (aa af ae))))) (ag (av (i:=3) Fa.nd rfl (cD rfl) (ao GT (hr.mono (by decide)) rfl mT kT bT .nil aw (aa (bq db (pv 0) (bw af) (bw af)) (aa (pv 1) ae)))) (ag (dv eU rfl (cf (az (aa (pv 1) (aa (ao GU (hr.mono (by decide)) rfl mU kU bU .nil aw (aa (pv 1) ae)) (aa (pv 1) ae))))) (ba (i:=4) Fa.nd rfl (cD rfl)) (ah (cn (ye (o7 (ao GG hr rfl mG kG bG .nil aw (aa (pv 4) (aa (pv 2) (aa (pv 3) ae)))))) (ah (ax j9)) bo))) (ah (ax j9))))),?_⟩;dsimp only[bb,Cx.nox];refine⟨_,rfl,a,0,ns,rfl,hS,by decide,λn0=>⟨n0,1,rfl,by decide,by decide,λsp ws G1 s1 zU sk wd CW _=>?_⟩⟩;refine⟨_,rfl,_,rfl,_,rfl,a,_,rfl,s1.seq hS,λp0 IV=>?_⟩;have t2:=ad IV (.lst (cr (ns.map V.int) (some 1) (some 29)));refine⟨_,rfl,p0,sp,0,_,ws,rfl,SqL.of ac,E9,Hm _ 1 29 (by decide),zU.mono t2,sk,wd,λx sx G3 s3 hx x58 xd xn=>?_⟩;have CS:=Same.trans t2 s3;have FV:=Same.trans s1 CS;refine⟨_,rfl,_,rfl,_,rfl,a,_,rfl,FV.seq hS,λp1 BC=>?_⟩;have t4:=ad BC (.lst (cr (ns.map V.int) (some 29) (some 45)));refine⟨_,rfl,p1,sp,_,ws,rfl,SqL.of ac,E9,Hm _ 29 45 (by decide),zU.mono (Same.trans CS t4),sk,wd,λy sy G5 s5 hy y58 yd yn yT=>?_⟩;have JL:=Same.trans t4 s5;have JY:=Same.trans CS JL;refine⟨_,rfl,_,rfl,sp,ws,rfl,zU.mono JY,sk,λDO ws' G6 s6 hsp' tn=>⟨_,rfl,sz3,λp2 zZ=>?_⟩⟩;have t7:=ad zZ (.lst [.ref sp,.ref DO,.ref sp]);have IW:=Same.trans JY s6;refine⟨p2,rfl,⟨_,SqL.of ac⟩,fe (K:=K) (a:=p2) (xs:=[.ref sp,.ref DO,.ref sp]) (λi σ G=>∃v4:Option V,σ=[some (.ref a),some (.ref sp),some x,some y,v4]/\Same (upd G6 p2 (.lst [.ref sp,.ref DO,.ref sp])) G) ⟨none,rfl,Same.refl _⟩ (λi σ G _ z=>by obtain⟨_,_,sG⟩:=z;exact SqL.of (sG _ _ ac)) ?_ ?_⟩
 ·intro i u σ G hu zE;obtain⟨v4,rfl,sG⟩:=zE;generalize zI:d6.mk _ _ _ _=zV;revert zI zV;refine id ?_;intro zV zI;have s7:=Same.trans t7 sG;have any:∃(su:Addr)(wu:List (Str×Nat)),u=.ref su/\Hold K G (.ref su) (cy wu)/\br wu/\Wds wu/\(LL wu).length<=24/\sx.due wu=none/\sy.due wu=none:=by
   have one:∃(su:Addr)(wu:List (Str×Nat)),(.ref sp:V)=.ref su/\Hold K G (.ref su) (cy wu)/\br wu/\Wds wu/\(LL wu).length<=24/\sx.due wu=none/\sy.due wu=none:=⟨sp,ws,rfl,zU.mono (Same.trans IW s7),sk,wd,by rw[E7];exact CW,xd,yd⟩;have two:∃(su:Addr)(wu:List (Str×Nat)),(.ref DO:V)=.ref su/\Hold K G (.ref su) (cy wu)/\br wu/\Wds wu/\(LL wu).length<=24/\sx.due wu=none/\sy.due wu=none:=⟨DO,ws',rfl,hsp'.mono s7,tn.ok sk,tn.wds wd,by rw[E7];exact tn.prd CW,tn.due sk wd xd,tn.due sk wd yd⟩
   match i,hu with
   |0,h=>cases h;exact one
   |1,h=>cases h;exact two
   |2,h=>cases h;exact one
  obtain⟨su,wu,rfl,hsu,ku,du,lu,xu,yu⟩:=any;have WY:=Same.trans s6 s7;refine⟨_,rfl,_,rfl,_,rfl,su,x,y,wu,sx,sy,rfl,hsu,ku,du,lu,⟨hx.mono (Same.trans JL WY),x58,xu,Nat.le_zero.mp xn⟩,⟨hy.mono WY,y58,yu,yn⟩,yT,λG8 s8=>⟨_,rfl,de ?_⟩⟩;subst zI;exact⟨_,rfl,Same.trans sG s8⟩
 ·intro σ G zE;obtain⟨v4,rfl,sG⟩:=zE;exact q G
end
open PyProof.Rows
structure At (K:aC)(f:Addr)(x q:Str)(st:Stmt):Prop where
 ex:∃(oc:aB)(od:Option Addr) (kV dc pm:aB) (an:Option Addr) (cd ct:aB) (sl:Array (Option aB)),K.lookup f=some ⟨oc,od,.func (gT x q (d4 st) (dl st) (aj st) .none kV dc pm an cd ct),sl⟩/\kX K cd q=true
 kp:aV K (.ref f)=true
theorem At.fn {K:aC}{f:Addr}{x q:Str}{st:Stmt}(h:At K f x q st):∃fd,Fun K x q st f fd:=by
 obtain⟨⟨oc,od,kV,dc,pm,an,cd,ct,sl,l,c⟩,k⟩:=h;exact⟨_,pq l c k⟩
theorem at_mk {K:aC}{f:Addr}{x q:Str}{st:Stmt}{oc:aB}{od an:Option Addr}{sl:Array (Option aB)}{kV dc pm cd ct:aB}(l:K.lookup f=some ⟨oc,od,.func (gT x q (d4 st) (dl st) (aj st) .none kV dc pm an cd ct),sl⟩)(c:kX K cd q=true)(k:aV K (.ref f)=true):At K f x q st:=⟨⟨_,_,_,_,_,_,_,_,_,l,c⟩,k⟩
theorem bd1 {K:aC}{x q:Str}{st:Stmt}{f:Addr}{fd:bX}{ps:List Str}(F:Fun K x q st f fd)(e:ps.length=1:=by rfl)(h:∀(kV AR pm:aB)(an:Option Addr) (zH ct u0:aB),vQ (gT x q (d4 st) (dl st) (aj st) .none kV AR pm an zH ct) ⟨[u0],[]⟩=pure (ps.zip [u0]):=by intros;rfl):Binds K fd ps []:=
 F.binds λ_ _ _ _ _ _ us hl=>match us,hl.trans e with | [_],_=>h _ _ _ _ _ _ _
theorem bd2 {K:aC}{x q:Str}{st:Stmt}{f:Addr}{fd:bX}{ps:List Str}(F:Fun K x q st f fd)(e:ps.length=2:=by rfl)(h:∀(kV AR pm:aB)(an:Option Addr) (zH ct u0 u1:aB),vQ (gT x q (d4 st) (dl st) (aj st) .none kV AR pm an zH ct) ⟨[u0,u1],[]⟩=pure (ps.zip [u0,u1]):=by intros;rfl):Binds K fd ps []:=
 F.binds λ_ _ _ _ _ _ us hl=>match us,hl.trans e with | [_,_],_=>h _ _ _ _ _ _ _ _
theorem bd3 {K:aC}{x q:Str}{st:Stmt}{f:Addr}{fd:bX}{ps:List Str}(F:Fun K x q st f fd)(e:ps.length=3:=by rfl)(h:∀(kV AR pm:aB)(an:Option Addr) (zH ct u0 u1 u2:aB),vQ (gT x q (d4 st) (dl st) (aj st) .none kV AR pm an zH ct) ⟨[u0,u1,u2],[]⟩=pure (ps.zip [u0,u1,u2]):=by intros;rfl):Binds K fd ps []:=
 F.binds λ_ _ _ _ _ _ us hl=>match us,hl.trans e with | [_,_,_],_=>h _ _ _ _ _ _ _ _ _
theorem bd4 {K:aC}{x q:Str}{st:Stmt}{f:Addr}{fd:bX}{ps:List Str}(F:Fun K x q st f fd)(e:ps.length=4:=by rfl)(h:∀(kV AR pm:aB)(an:Option Addr) (zH ct u0 u1 u2 u3:aB),vQ (gT x q (d4 st) (dl st) (aj st) .none kV AR pm an zH ct) ⟨[u0,u1,u2,u3],[]⟩=pure (ps.zip [u0,u1,u2,u3]):=by intros;rfl):Binds K fd ps []:=
 F.binds λ_ _ _ _ _ _ us hl=>match us,hl.trans e with | [_,_,_,_],_=>h _ _ _ _ _ _ _ _ _ _
theorem all_mk {l:sF}{w:aW}{K:aC}{h:Heap}{mg:Str->Option aB}{fa cS cF cV cT cP cR cM iF iV iT iP SE OG SG SH SI f1 f2 f3 f4 f5 f6 f7 f8 f9 WZ Xu Xv Xw Xx Xy Xz X0 X1 X2 X3 X4 X5 X6 X7 X8 X9 XA XB XC XD XE XF XG XH XI RP XJ XL XM XN XO XQ XR XS XT XU XV XW XX SJ aH aD aE:Addr}(X:K.In h)(G:h.Ns aQ mg)(hfa:mg "law"=some (.ref fa))
  {odiF aniF odiV aniV odiT aniT odiP aniP od50 ML odH odD odE:Option Addr}{sliF sliV sliT sliP sl50 slH slD slE:Array (Option aB)}{kViF dciF pmiF MN ctiF kViV dciV pmiV MO ctiV kViT dciT pmiT MP ctiT kViP dciP pmiP MQ ctiP oc50 MR MS MT JM MU:aB}{nH nD nE:Nat}{IN ME tk3 tk4 tk5 tk6 tk7 tk8 tk9 tk10 tk11 tk12:Tok}
  {nmF qF:Str}{NF:Addr}{bsF subF:List aB}{snF:List Str}{abF:Bool}{colF:Option Bool}{ddF:Option Addr}{k0F k1F k2F k3F k5F:Option aB}
  {nmV qV:Str}{NV:Addr}{bsV subV:List aB}{snV:List Str}{abV:Bool}{colV:Option Bool}{ddV:Option Addr}{k0V k1V k2V k3V k5V:Option aB}
  {nmT qT:Str}{NT:Addr}{bsT subT:List aB}{snT:List Str}{abT:Bool}{colT:Option Bool}{ddT:Option Addr}{k0T k1T k2T k3T k5T:Option aB}
  {nmP qP:Str}{NP:Addr}{bsP subP:List aB}{snP:List Str}{abP:Bool}{colP:Option Bool}{ddP:Option Addr}{k0P k1P k2P k3P k5P:Option aB}
  (mS:aR K aQ "SwitchError"=some (some (.ref cS)))
  (mF:aR K aQ "NoField"=some (some (.ref cF)))
  (lcF:K.lookup cF=some (iS nmF qF cF NF bsF (.ref cS::bmV) true snF subF abF colF ddF k0F k1F k2F k3F k5F "ValueError.__new__"))
  (saF:cH K (.ref cF) "__setattr__"=some (some (.builtin "object.__setattr__")))
  (gaF:cH K (.ref cF) "__getattribute__"=some (some (.builtin "BaseException.__getattribute__")))
  (gtF:cH K (.ref cF) "__getattr__"=some none)
  (kpF:aV K (.ref cF)=true)
  (mV:aR K aQ "NoValue"=some (some (.ref cV)))
  (lcV:K.lookup cV=some (iS nmV qV cV NV bsV (.ref cS::bmV) true snV subV abV colV ddV k0V k1V k2V k3V k5V "ValueError.__new__"))
  (saV:cH K (.ref cV) "__setattr__"=some (some (.builtin "object.__setattr__")))
  (gaV:cH K (.ref cV) "__getattribute__"=some (some (.builtin "BaseException.__getattribute__")))
  (gtV:cH K (.ref cV) "__getattr__"=some none)
  (kpV:aV K (.ref cV)=true)
  (mT:aR K aQ "NoTest"=some (some (.ref cT)))
  (lcT:K.lookup cT=some (iS nmT qT cT NT bsT (.ref cS::bmV) true snT subT abT colT ddT k0T k1T k2T k3T k5T "ValueError.__new__"))
  (saT:cH K (.ref cT) "__setattr__"=some (some (.builtin "object.__setattr__")))
  (gaT:cH K (.ref cT) "__getattribute__"=some (some (.builtin "BaseException.__getattribute__")))
  (gtT:cH K (.ref cT) "__getattr__"=some none)
  (kpT:aV K (.ref cT)=true)
  (mP:aR K aQ "NoPlain"=some (some (.ref cP)))
  (lcP:K.lookup cP=some (iS nmP qP cP NP bsP (.ref cS::bmV) true snP subP abP colP ddP k0P k1P k2P k3P k5P "ValueError.__new__"))
  (saP:cH K (.ref cP) "__setattr__"=some (some (.builtin "object.__setattr__")))
  (gaP:cH K (.ref cP) "__getattribute__"=some (some (.builtin "BaseException.__getattribute__")))
  (gtP:cH K (.ref cP) "__getattr__"=some none)
  (kpP:aV K (.ref cP)=true)
  (mR:aR K aQ "Runs"=some (some (.ref cR)))
  (mM:aR K aQ "Machine"=some (some (.ref cM)))
  (wga:nY K (.ref cS) "__getattribute__"=some (some (.builtin "type.__getattribute__")))
  (wrd:qM K cS (.type "type")=true)
  (wfc:qN K (.ref cS) (.type "type") "__init__"=some (.val (.builtin "ValueError.__init__")))
  (rga:nY K (.ref cR) "__getattribute__"=some (some (.builtin "type.__getattribute__")))
  (rrd:qM K cR (.type "type")=true)
  (pgM:pR K cM xM=true)
  (hdM:rR K cM=true)
  (poM:vB K cM=true)
  (saM:cH K (.ref cM) "__setattr__"=some (some (.builtin "object.__setattr__")))
  (nMletters:cH K (.ref cM) "letters"=some none)
  (nMways:cH K (.ref cM) "ways"=some none)
  (mkM:wE K cM=true)
  (kpM:aV K (.ref cM)=true)
  (nFfield:cH K (.ref cF) "field"=some none)
  (nVvalue:cH K (.ref cV) "value"=some none)
  (nTsaying:cH K (.ref cT) "saying"=some none)
  (nPsaying:cH K (.ref cP) "saying"=some none)
  (aiF:cH K (.ref cF) "__init__"=some (some (.ref iF)))
  (XY:K.lookup iF=some ⟨(.type "function"),odiF,.func (gT "__init__" "NoField.__init__" (d4 sNF) (dl sNF) (aj sNF) .none kViF dciF pmiF aniF MN ctiF),sliF⟩)
  (ciF:kX K MN "NoField.__init__"=true)
  (kiF:aV K (.ref iF)=true)
  (aiV:cH K (.ref cV) "__init__"=some (some (.ref iV)))
  (XZ:K.lookup iV=some ⟨(.type "function"),odiV,.func (gT "__init__" "NoValue.__init__" (d4 sNV) (dl sNV) (aj sNV) .none kViV dciV pmiV aniV MO ctiV),sliV⟩)
  (ciV:kX K MO "NoValue.__init__"=true)
  (kiV:aV K (.ref iV)=true)
  (aiT:cH K (.ref cT) "__init__"=some (some (.ref iT)))
  (X':K.lookup iT=some ⟨(.type "function"),odiT,.func (gT "__init__" "NoTest.__init__" (d4 sNT) (dl sNT) (aj sNT) .none kViT dciT pmiT aniT MP ctiT),sliT⟩)
  (ciT:kX K MP "NoTest.__init__"=true)
  (kiT:aV K (.ref iT)=true)
  (aiP:cH K (.ref cP) "__init__"=some (some (.ref iP)))
  (Ya:K.lookup iP=some ⟨(.type "function"),odiP,.func (gT "__init__" "NoPlain.__init__" (d4 sNP) (dl sNP) (aj sNP) .none kViP dciP pmiP aniP MQ ctiP),sliP⟩)
  (ciP:kX K MQ "NoPlain.__init__"=true)
  (kiP:aV K (.ref iP)=true)
  (aiR:qN K (.ref cR) (.type "type") "__init__"=some (.val (.ref SE)))
  (Yb:At K SE "__init__" "Runs.__init__" Dl)
  (qiR:oG K (.ref SE)=true)
  (aiM:cH K (.ref cM) "__init__"=some (some (.ref OG)))
  (Yc:At K OG "__init__" "Machine.__init__" Do)
  (qiM:oG K (.ref OG)=true)
  (Yd:cH K (.ref cM) "ends"=some (some (.ref SG)))
  (Ye:At K SG "ends" "Runs.ends" Ja)
  (Yf:oG K (.ref SG)=true)
  (amF:cH K (.ref cM) "ends_from"=some (some (.ref SH)))
  (Yg:At K SH "ends_from" "Runs.ends_from" Dm)
  (qmF:oG K (.ref SH)=true)
  (amK:cH K (.ref cM) "masks_from"=some (some (.ref SI)))
  (Yh:At K SI "masks_from" "Runs.masks_from" yy)
  (qmK:oG K (.ref SI)=true)
  (a1:aR K aQ "letters_of"=some (some (.ref f1)))
  (l1:At K f1 "letters_of" "letters_of" Di)
  (a2:aR K aQ "each_longer"=some (some (.ref f2)))
  (l2:At K f2 "each_longer" "each_longer" vi)
  (a3:aR K aQ "place_of"=some (some (.ref f3)))
  (l3:At K f3 "place_of" "place_of" Dc)
  (a4:aR K aQ "must_value"=some (some (.ref f4)))
  (l4:At K f4 "must_value" "must_value" Ir)
  (a5:aR K aQ "nothing"=some (some (.ref f5)))
  (l5:At K f5 "nothing" "nothing" sNo)
  (a6:aR K aQ "the_same"=some (some (.ref f6)))
  (l6:At K f6 "the_same" "the_same" Iy)
  (a7:aR K aQ "either_of"=some (some (.ref f7)))
  (l7:At K f7 "either_of" "either_of" Iz)
  (a8:aR K aQ "one_then_other"=some (some (.ref f8)))
  (l8:At K f8 "one_then_other" "one_then_other" I0)
  (a9:aR K aQ "reached_from"=some (some (.ref f9)))
  (l9:At K f9 "reached_from" "reached_from" Dj)
  (a10:aR K aQ "again_and_again"=some (some (.ref WZ)))
  (NX:At K WZ "again_and_again" "again_and_again" yw)
  (a11:aR K aQ "where_nothing"=some (some (.ref Xu)))
  (Yi:At K Xu "where_nothing" "where_nothing" Dk)
  (a12:aR K aQ "letters_in"=some (some (.ref Xv)))
  (Yj:At K Xv "letters_in" "letters_in" yx)
  (HG:aR K aQ "parts_of"=some (some (.ref Xw)))
  (Yk:At K Xw "parts_of" "parts_of" Dd)
  (Yl:aR K aQ "held_in"=some (some (.ref Xx)))
  (Ym:At K Xx "held_in" "held_in" Is)
  (SK:aR K aQ "must_saying"=some (some (.ref Xy)))
  (Yn:At K Xy "must_saying" "must_saying" Iu)
  (a16:aR K aQ "must_part"=some (some (.ref Xz)))
  (Yo:At K Xz "must_part" "must_part" De)
  (a17:aR K aQ "is_test"=some (some (.ref X0)))
  (Yp:At K X0 "is_test" "is_test" Oh)
  (a18:aR K aQ "notes_in"=some (some (.ref X1)))
  (Yq:At K X1 "notes_in" "notes_in" Oi)
  (Yr:aR K aQ "must_test"=some (some (.ref X2)))
  (Ys:At K X2 "must_test" "must_test" Df)
  (a20:aR K aQ "must_plain"=some (some (.ref X3)))
  (Yt:At K X3 "must_plain" "must_plain" Ar)
  (a21:aR K aQ "ways_of"=some (some (.ref X4)))
  (Yu:At K X4 "ways_of" "ways_of" Ch)
  (a22:aR K aQ "ways_of_part"=some (some (.ref X5)))
  (RD:At K X5 "ways_of_part" "ways_of_part" Dp)
  (a23:aR K aQ "plain_relation"=some (some (.ref X6)))
  (Yv:At K X6 "plain_relation" "plain_relation" Dq)
  (a24:aR K aQ "is_relation"=some (some (.ref X7)))
  (CW:At K X7 "is_relation" "is_relation" Jb)
  (a25:aR K aQ "put_relation"=some (some (.ref X8)))
  (Yw:At K X8 "put_relation" "put_relation" yz)
  (a26:aR K aQ "note_ways"=some (some (.ref X9)))
  (Yx:At K X9 "note_ways" "note_ways" Dr)
  (a27:aR K aQ "either_ways"=some (some (.ref XA)))
  (Yy:At K XA "either_ways" "either_ways" y8)
  (a28:aR K aQ "then_ways"=some (some (.ref XB)))
  (SA:At K XB "then_ways" "then_ways" y9)
  (Yz:aR K aQ "behind"=some (some (.ref XC)))
  (Y0:At K XC "behind" "behind" vj)
  (Y1:aR K aQ "filling"=some (some (.ref XD)))
  (Y2:At K XD "filling" "filling" Jc)
  (a31:aR K aQ "again_ways"=some (some (.ref XE)))
  (Y3:At K XE "again_ways" "again_ways" vk)
  (a32:aR K aQ "again_row"=some (some (.ref XF)))
  (Y4:At K XF "again_row" "again_row" vm)
  (a33:aR K aQ "done"=some (some (.ref XG)))
  (Y5:At K XG "done" "done" Jd)
  (a34:aR K aQ "is_so"=some (some (.ref XH)))
  (Y6:At K XH "is_so" "is_so" Je)
  (a35:aR K aQ "_law_cell"=some (some (.ref XI)))
  (Y7:At K XI "_law_cell" "_law_cell" Iv)
  (Y8:aR K aQ "_law_purse"=some (some (.ref RP)))
  (EU:At K RP "_law_purse" "_law_purse" Dg)
  (SL:aR K aQ "_law_take"=some (some (.ref XJ)))
  (Y9:At K XJ "_law_take" "_law_take" Iw)
  (a38:aR K aQ "_law_speech"=some (some (.ref XL)))
  (YA:At K XL "_law_speech" "_law_speech" As)
  (a39:aR K aQ "_law_letters"=some (some (.ref XM)))
  (YB:At K XM "_law_letters" "_law_letters" Cg)
  (a40:aR K aQ "_law_lone"=some (some (.ref XN)))
  (YC:At K XN "_law_lone" "_law_lone" Ix)
  (YD:aR K aQ "_law_grown"=some (some (.ref XO)))
  (YE:At K XO "_law_grown" "_law_grown" Dh)
  (SM:aR K aQ "_law_joined"=some (some (.ref XQ)))
  (YF:At K XQ "_law_joined" "_law_joined" Au)
  (a43:aR K aQ "_law_saying"=some (some (.ref XR)))
  (YG:At K XR "_law_saying" "_law_saying" Av)
  (YH:aR K aQ "_law_step"=some (some (.ref XS)))
  (YI:At K XS "_law_step" "_law_step" Ci)
  (a45:aR K aQ "_law_union"=some (some (.ref XT)))
  (YJ:At K XT "_law_union" "_law_union" zc)
  (a46:aR K aQ "_law_led"=some (some (.ref XU)))
  (YK:At K XU "_law_led" "_law_led" Jf)
  (a47:aR K aQ "_law_test"=some (some (.ref XV)))
  (YL:At K XV "_law_test" "_law_test" Ds)
  (a48:aR K aQ "_law_turned"=some (some (.ref XW)))
  (YM:At K XW "_law_turned" "_law_turned" Jg)
  (a49:aR K aQ "_law_good"=some (some (.ref XX)))
  (YN:At K XX "_law_good" "_law_good" Jh)
  (a50:aR K aQ "law"=some (some (.ref SJ)))
  (l50:K.lookup SJ=some ⟨oc50,od50,.func (gT "law" "law" (d4 qr) (dl qr) (aj qr) .none MR MS MT ML JM MU),sl50⟩)
  (c50:kX K JM "law"=true)
  (k50:aV K (.ref SJ)=true)
  (aaH:aR K aQ "HOLDING_SORTS"=some (some (.ref aH)))
  (llH:K.lookup aH=some ⟨.type "tuple",odH,.seq #[.str "not" IN,.str "either" ME,.str "then" tk3,.str "again" tk4] nH,slH⟩)
  (aaD:aR K aQ "FIELD_SORTS"=some (some (.ref aD)))
  (llD:K.lookup aD=some ⟨.type "tuple",odD,.seq #[.str "is" tk5,.str "put" tk6] nD,slD⟩)
  (aaE:aR K aQ "TEST_SORTS"=some (some (.ref aE)))
  (llE:K.lookup aE=some ⟨.type "tuple",odE,.seq #[.str "none" tk7,.str "all" tk8,.str "is" tk9,.str "not" tk10,.str "either" tk11,.str "then" tk12] nE,slE⟩)
  (AU:aR K aQ "range"=some none)
  (zabs:aR K aQ "abs"=some none)
  (zint:aR K aQ "int"=some none)
  (MV:aR K aQ "max"=some none)
  (MW:aR K aQ "min"=some none)
  (ztuple:aR K aQ "tuple"=some none)
  (AN:aR K aQ "len"=some none)
  (zisinstance:aR K aQ "isinstance"=some none)
  (zY:aR K aQ "enumerate"=some none)
  (zsum:aR K aQ "sum"=some none)
  (zall:aR K aQ "all"=some none)
  (JN:aR K aQ "zip"=some none)
  (zreversed:aR K aQ "reversed"=some none)
  (zlist:aR K aQ "list"=some none)
  (zbool:aR K aQ "bool"=some none)
  (zset:aR K aQ "set"=some none)
  (BP:aR K aQ "sorted"=some none) :
  ∃fd:bX,(∀(s:aG)(v:aB),wR s fd ⟨[v],[]⟩ [("_law_script",v)])/\∀base:Heap,K.In base->base.Ns aQ mg->FnOk l.prog w K mg base CX0 62 fa fd ["_law_script"] (Cs K):=by
 have e:=hfa.symm.trans (PySem.W.mg_of X G a50);cases e;have YO:=pq (st:=sNF) XY ciF kiF;have biF:=YO.binds (ps:=["self","field"]) λ_ _ _ _ _ _ us hl=>match us,hl with | [_,_],_=>rfl
 have YQ:=pq (st:=sNV) XZ ciV kiV;have biV:=YQ.binds (ps:=["self","value"]) λ_ _ _ _ _ _ us hl=>match us,hl with | [_,_],_=>rfl
 have YR:=pq (st:=sNT) X' ciT kiT;have biT:=YR.binds (ps:=["self","saying"]) λ_ _ _ _ _ _ us hl=>match us,hl with | [_,_],_=>rfl
 have YS:=pq (st:=sNP) Ya ciP kiP;have biP:=YS.binds (ps:=["self","saying"]) λ_ _ _ _ _ _ us hl=>match us,hl with | [_,_],_=>rfl
 obtain⟨_,YT⟩:=Yb.fn;have kiR:=Yb.kp;have biR:=bd3 (ps:=["self","letters","ways"]) YT;obtain⟨_,YU⟩:=Yc.fn;have kiM:=Yc.kp;have biM:=bd3 (ps:=["self","speech","saying"]) YU;obtain⟨_,YV⟩:=Ye.fn;have YW:=Ye.kp;have YX:=bd3 (ps:=["self","room","letter"]) YV;obtain⟨_,YY⟩:=Yg.fn;have kmF:=Yg.kp;have bmF:=bd3 (ps:=["self","rooms","letter"]) YY;obtain⟨_,YZ⟩:=Yh.fn;have kmK:=Yh.kp;have bmK:=bd3 (ps:=["self","rooms","letter"]) YZ;obtain⟨_,F1⟩:=l1.fn;have k1:=l1.kp;have b1:=bd1 (ps:=["speech"]) F1;obtain⟨_,F2⟩:=l2.fn;have k2:=l2.kp;have b2:=bd2 (ps:=["letters","count"]) F2;obtain⟨_,F3⟩:=l3.fn;have k3:=l3.kp;have b3:=bd3 (ps:=["speech","field","value"]) F3;obtain⟨_,F4⟩:=l4.fn;have k4:=l4.kp;have b4:=bd2 (ps:=["count","value"]) F4;obtain⟨_,F5⟩:=l5.fn;have k5:=l5.kp;have b5:=bd1 (ps:=["size"]) F5;obtain⟨_,F6⟩:=l6.fn;have k6:=l6.kp;have b6:=bd1 (ps:=["size"]) F6;obtain⟨_,F7⟩:=l7.fn;have k7:=l7.kp;have b7:=bd2 (ps:=["one","other"]) F7;obtain⟨_,F8⟩:=l8.fn;have k8:=l8.kp;have b8:=bd2 (ps:=["first","second"]) F8;obtain⟨_,F9⟩:=l9.fn;have k9:=l9.kp;have b9:=bd2 (ps:=["mask","relation"]) F9;obtain⟨_,Y'⟩:=NX.fn;have k10:=NX.kp;have b10:=bd1 (ps:=["relation"]) Y';obtain⟨_,Za⟩:=Yi.fn;have k11:=Yi.kp;have b11:=bd1 (ps:=["relation"]) Za;obtain⟨_,Zb⟩:=Yj.fn;have k12:=Yj.kp;have b12:=bd2 (ps:=["letters","mask"]) Zb;obtain⟨_,Zc⟩:=Yk.fn;have OH:=Yk.kp;have OI:=bd1 (ps:=["saying"]) Zc;obtain⟨_,Zd⟩:=Ym.fn;have Ze:=Ym.kp;have Zf:=bd1 (ps:=["saying"]) Zd;obtain⟨_,Zg⟩:=Yn.fn;have SN:=Yn.kp;have SO:=bd2 (ps:=["speech","saying"]) Zg;obtain⟨_,Zh⟩:=Yo.fn;have k16:=Yo.kp;have b16:=bd2 (ps:=["speech","part"]) Zh;obtain⟨_,Zi⟩:=Yp.fn;have k17:=Yp.kp;have b17:=bd1 (ps:=["saying"]) Zi;obtain⟨_,Zj⟩:=Yq.fn;have k18:=Yq.kp;have b18:=bd1 (ps:=["saying"]) Zj;obtain⟨_,Zk⟩:=Ys.fn;have Zl:=Ys.kp;have Zm:=bd1 (ps:=["saying"]) Zk;obtain⟨_,Zn⟩:=Yt.fn;have k20:=Yt.kp;have b20:=bd1 (ps:=["saying"]) Zn;obtain⟨_,Zo⟩:=Yu.fn;have k21:=Yu.kp;have b21:=bd3 (ps:=["speech","letters","saying"]) Zo;obtain⟨_,Zp⟩:=RD.fn;have k22:=RD.kp;have b22:=bd4 (ps:=["speech","letters","part","inner"]) Zp;obtain⟨_,Zq⟩:=Yv.fn;have k23:=Yv.kp;have b23:=bd3 (ps:=["speech","letters","part"]) Zq;obtain⟨_,Zr⟩:=CW.fn;have k24:=CW.kp;have b24:=bd3 (ps:=["letters","place","value"]) Zr;obtain⟨_,Zs⟩:=Yw.fn;have k25:=Yw.kp;have b25:=bd3 (ps:=["letters","place","value"]) Zs;obtain⟨_,Zt⟩:=Yx.fn;have k26:=Yx.kp;have b26:=bd1 (ps:=["size"]) Zt;obtain⟨_,Zu⟩:=Yy.fn;have k27:=Yy.kp;have b27:=bd2 (ps:=["one","other"]) Zu;obtain⟨_,Zv⟩:=SA.fn;have k28:=SA.kp;have b28:=bd2 (ps:=["first","second"]) Zv;obtain⟨_,Zw⟩:=Y0.fn;have Zx:=Y0.kp;have Zy:=bd2 (ps:=["first","second"]) Zw;obtain⟨_,Zz⟩:=Y2.fn;have Z0:=Y2.kp;have Z3:=bd1 (ps:=["ways"]) Zz;obtain⟨_,Z4⟩:=Y3.fn;have k31:=Y3.kp;have b31:=bd1 (ps:=["ways"]) Z4;obtain⟨_,Z5⟩:=Y4.fn;have k32:=Y4.kp;have b32:=bd3 (ps:=["row","anew","start"]) Z5;obtain⟨_,Z6⟩:=Y5.fn;have k33:=Y5.kp;have b33:=bd3 (ps:=["speech","saying","letter"]) Z6;obtain⟨_,Z7⟩:=Y6.fn;have k34:=Y6.kp;have b34:=bd3 (ps:=["speech","test","letter"]) Z7;obtain⟨_,Z8⟩:=Y7.fn;have k35:=Y7.kp;have b35:=bd2 (ps:=["_law_script","_law_k"]) Z8;obtain⟨_,Z9⟩:=EU.fn;have ZA:=EU.kp;have ZB:=bd1 (ps:=["_law_cell_here"]) Z9;obtain⟨_,ZC⟩:=Y9.fn;have SQ:=Y9.kp;have SR:=bd2 (ps:=["_law_purse_here","_law_many"]) ZC;obtain⟨_,ZD⟩:=YA.fn;have k38:=YA.kp;have b38:=bd2 (ps:=["_law_cell_here","_law_least"]) ZD;obtain⟨_,ZE⟩:=YB.fn;have k39:=YB.kp;have b39:=bd1 (ps:=["_law_speech_here"]) ZE;obtain⟨_,ZF⟩:=YC.fn;have k40:=YC.kp;have b40:=bd3 (ps:=["_law_sort","_law_purse_here","_law_speech_here"]) ZF;obtain⟨_,ZG⟩:=YE.fn;have ZH:=YE.kp;have ZI:=bd4 (ps:=["_law_row","_law_cell_here","_law_speech_here","_law_most"]) ZG;obtain⟨_,ZJ⟩:=YF.fn;have SS:=YF.kp;have ST:=bd2 (ps:=["_law_row","_law_word"]) ZJ;obtain⟨_,ZK⟩:=YG.fn;have k43:=YG.kp;have b43:=bd3 (ps:=["_law_cells","_law_speech_here","_law_most"]) ZK;obtain⟨_,ZL⟩:=YI.fn;have ZM:=YI.kp;have ZN:=bd3 (ps:=["_law_speech_here","_law_letters_here","_law_saying_here"]) ZL;obtain⟨_,ZO⟩:=YJ.fn;have k45:=YJ.kp;have b45:=bd2 (ps:=["_law_step_here","_law_row"]) ZO;obtain⟨_,ZP⟩:=YK.fn;have k46:=YK.kp;have b46:=bd2 (ps:=["_law_step_here","_law_letter"]) ZP;obtain⟨_,ZQ⟩:=YL.fn;have k47:=YL.kp;have b47:=bd2 (ps:=["_law_cells","_law_speech_here"]) ZQ;obtain⟨_,ZR⟩:=YM.fn;have k48:=YM.kp;have b48:=bd1 (ps:=["_law_speech_here"]) ZR;obtain⟨_,ZS⟩:=YN.fn;have k49:=YN.kp;have b49:=bd3 (ps:=["_law_speech_here","_law_saying_here","_law_test_here"]) ZS;have F50:=pq (st:=qr) l50 c50 k50;have no:∀{x:Str},aR K aQ x=some none->mg x=none:=λz=>PySem.W.mg_none_of X G z;have gl:∀{x:Str}{v:aB},aR K aQ x=some (some v)->mg x=some v:=λz=>PySem.W.mg_of X G z;have xFc:j4 K cF:=⟨⟨_,_,_,_,_,_,_,_,_,_,_,_,_,_,_,lcF,(yr cS)⟩,saF,gaF,gtF,kpF⟩;have xVc:j4 K cV:=⟨⟨_,_,_,_,_,_,_,_,_,_,_,_,_,_,_,lcV,(yr cS)⟩,saV,gaV,gtV,kpV⟩;have xTc:j4 K cT:=⟨⟨_,_,_,_,_,_,_,_,_,_,_,_,_,_,_,lcT,(yr cS)⟩,saT,gaT,gtT,kpT⟩;have xPc:j4 K cP:=⟨⟨_,_,_,_,_,_,_,_,_,_,_,_,_,_,_,lcP,(yr cS)⟩,saP,gaP,gtP,kpP⟩;have tH:∀H:Hp,SqT K H aH HS:=λH=>Ap llH rfl rfl sz4 (.cons ⟨_,rfl⟩ (.cons ⟨_,rfl⟩ (.cons ⟨_,rfl⟩ (.cons ⟨_,rfl⟩ .nil))));have tD:∀H:Hp,SqT K H aD FS:=λH=>Ap llD rfl rfl sz2 (.cons ⟨_,rfl⟩ (.cons ⟨_,rfl⟩ .nil));have tE:∀H:Hp,SqT K H aE TS:=λH=>Ap llE rfl rfl sz6 (.cons ⟨_,rfl⟩ (.cons ⟨_,rfl⟩ (.cons ⟨_,rfl⟩ (.cons ⟨_,rfl⟩ (.cons ⟨_,rfl⟩ (.cons ⟨_,rfl⟩ .nil))))));have Wg:Sw K mg cS:=⟨gl mS,wga,wrd,wfc⟩;have MM:MC K cM:=⟨⟨pgM,hdM,poM,saM⟩,nMletters,nMways⟩;refine⟨gT "law" "law" (d4 qr) (dl qr) (aj qr) .none MR MS MT ML JM MU,λs v=>.of_eq rfl,λbase _ _=>?_⟩;have GiF:=Wx (P:=l.prog) (w:=w) (base:=base) (C:=cF) YO Wg;have GiV:=Wy (P:=l.prog) (w:=w) (base:=base) (C:=cV) YQ Wg;have GiT:=Wz (P:=l.prog) (w:=w) (base:=base) (C:=cT) YR Wg;have GiP:=W3 (P:=l.prog) (w:=w) (base:=base) (C:=cP) YS Wg;have GMu:=Sh (P:=l.prog) (w:=w) (base:=base) F4 xVc nVvalue aiV ⟨_,XZ,rfl⟩ GiV biV (gl mV);have ZT:=On (P:=l.prog) (w:=w) (base:=base) F3 xFc nFfield aiF ⟨_,XY,rfl⟩ GiF biF (gl mF) GMu b4 k4 (gl a4) (no zY);have GPl0:=Vt ZT;have ZU:=Sj (P:=l.prog) (w:=w) (base:=base) Zd (gl aaH) tH;have OJ:=Op (P:=l.prog) (w:=w) (base:=base) Zc ZU Zf Ze (gl Yl);have GIs:=U4 (P:=l.prog) (w:=w) (base:=base) Zi OJ OI OH (gl HG) (no zall) (gl aaE) tE;have GNt:=U5 (P:=l.prog) (w:=w) (base:=base) Zj OJ OI OH (gl HG) (no AN);have ZV:=Ow (P:=l.prog) (w:=w) (base:=base) Zk xTc nTsaying aiT ⟨_,X',rfl⟩ GiT biT (gl mT) GIs b17 k17 (gl a17);have GMp:=Ox (P:=l.prog) (w:=w) (base:=base) Zh ZT b3 k3 (gl a3) ZV Zm Zl (gl Yr) (gl aaD) tD;have SU:=Sn (P:=l.prog) (w:=w) (base:=base) Zg OJ OI OH (gl HG) GMp b16 k16 (gl a16);have GMPl:=Mh (P:=l.prog) (w:=w) (base:=base) Zn xPc nPsaying aiP ⟨_,Ya,rfl⟩ GiP biP (gl mP) GNt b18 k18 (gl a18);have SV:=Xd (P:=l.prog) (w:=w) (base:=base) (mg:=mg) F5;have SX:=S4 (P:=l.prog) (w:=w) (base:=base) F6 (no AU);have SY:=S5 (P:=l.prog) (w:=w) (base:=base) F7 (no JN);have GRe:=O6 (P:=l.prog) (w:=w) (base:=base) (mg:=mg) F9;have ZW:=Vk (P:=l.prog) (w:=w) (base:=base) F8 GRe b9 k9 (gl a9);have GAg:=O8 (P:=l.prog) (w:=w) (base:=base) Y' SY b7 k7 (gl a7) SX b6 k6 (gl a6) (no AN) (no AU);have GWh:=O9 (P:=l.prog) (w:=w) (base:=base) Za (no zY);have GLi:=Pa (P:=l.prog) (w:=w) (base:=base) Zb (no zY);have GLg:=L1 (P:=l.prog) (w:=w) (base:=base) F2 (no AU);have GLe:=Jy (P:=l.prog) (w:=w) (base:=base) F1 GLg b2 k2 (gl a2);have GNw:=Pc (P:=l.prog) (w:=w) (base:=base) Zt ⟨_,_,SV,b5,k5,gl a5⟩ ⟨_,_,SX,b6,k6,gl a6⟩;have ZX:=S7 (P:=l.prog) (w:=w) (base:=base) Zz ⟨_,_,SV,b5,k5,gl a5⟩ (no AN);have ZY:=L4 (P:=l.prog) (w:=w) (base:=base) Zw ⟨_,_,ZX,Z3,Z0,gl Y1⟩;have GEw:=Pe (P:=l.prog) (w:=w) (base:=base) Zu ⟨_,_,SY,b7,k7,gl a7⟩ ⟨_,_,ZX,Z3,Z0,gl Y1⟩ ⟨_,_,ZY,Zy,Zx,gl Yz⟩;have GTw:=Pf (P:=l.prog) (w:=w) (base:=base) Zv ⟨_,_,ZW,b8,k8,gl a8⟩ ⟨_,_,ZY,Zy,Zx,gl Yz⟩;have GAr:=Vn (P:=l.prog) (w:=w) (base:=base) Z5 ⟨_,_,ZW,b8,k8,gl a8⟩ ⟨_,_,SY,b7,k7,gl a7⟩ (no JN);have GAw:=Vo (P:=l.prog) (w:=w) (base:=base) Z4 ⟨_,_,GAg,b10,k10,gl a10⟩ ⟨_,_,GAr,b32,k32,gl a32⟩;have GIr:=Vr (P:=l.prog) (w:=w) (base:=base) Zr (no zY);have GPr:=Ta (P:=l.prog) (w:=w) (base:=base) (mg:=mg) Zs;have GPn:=Pk (P:=l.prog) (w:=w) (base:=base) Zq ⟨_,_,SV,b5,k5,gl a5⟩ ⟨_,_,SX,b6,k6,gl a6⟩ ⟨_,_,GPl0,b3,k3,gl a3⟩ ⟨_,_,GIr,b24,k24,gl a24⟩ ⟨_,_,GPr,b25,k25,gl a25⟩ (no AN);have GWp:=Tc (P:=l.prog) (w:=w) (base:=base) Zp ⟨_,_,GEw,b27,k27,gl a27⟩ ⟨_,_,GTw,b28,k28,gl a28⟩ ⟨_,_,GAw,b31,k31,gl a31⟩ ⟨_,_,GWh,b11,k11,gl a11⟩ ⟨_,_,GNw,b26,k26,gl a26⟩ ⟨_,_,GPn,b23,k23,gl a23⟩ (no AN);have GWy:=Td (P:=l.prog) (w:=w) (base:=base) Zo ⟨_,_,OJ,OI,OH,gl HG⟩ ⟨_,_,ZU,Zf,Ze,gl Yl⟩ ⟨_,_,GWp,b22,k22,gl a22⟩ (no zreversed);have GRi:=Po (P:=l.prog) (w:=w) (base:=base) (mg:=mg) YT MM;have GMk:=Pp (P:=l.prog) (w:=w) (base:=base) YZ MM (no AN) (no JN);have GEf:=Pq (P:=l.prog) (w:=w) (base:=base) YY MM ⟨_,_,GLi,b12,k12,gl a12⟩ ⟨_,_,GMk,bmK,⟨amK,qmK,kmK⟩⟩;have ZZ:=Te (P:=l.prog) (w:=w) (base:=base) YV MM ⟨_,_,GEf,bmF,⟨amF,qmF,kmF⟩⟩;have GMi:=Pr (P:=l.prog) (w:=w) (base:=base) YU SU SO SN (gl SK) ⟨_,_,GLe,b1,k1,gl a1⟩ ⟨_,_,GWy,b21,k21,gl a21⟩ GRi biR ⟨rga,rrd,aiR,kiR⟩ (gl mR);have MK:MkM l.prog w K mg base cM cF cV cT OG _:=⟨⟨mkM,aiM,qiM,kpM⟩,GMi,biM,gl mM⟩;have GDo:=Xs (Tf (P:=l.prog) (w:=w) (base:=base) Z6 MK MM SU SO SN (gl SK) GMPl b20 k20 (gl a20) ⟨_,_,ZZ,YX,⟨Yd,Yf,YW⟩⟩);have GSo:=Xt (Tg (P:=l.prog) (w:=w) (base:=base) Z7 MK MM SU SO SN (gl SK) ZV Zm Zl (gl Yr) ⟨_,_,ZZ,YX,⟨Yd,Yf,YW⟩⟩);have GC:=Tj (P:=l.prog) (w:=w) (base:=base) Z8 (no AN);have GP:=Oj (P:=l.prog) (w:=w) (base:=base) Z9 (no AU) (no zabs);have GT:=Sg (P:=l.prog) (w:=w) (base:=base) ZC (no zint);have GS:=J9 (P:=l.prog) (w:=w) (base:=base) ZD GP ZB ZA (gl Y8) GT SR SQ (gl SL) (no AU) (no MV) (no MW) (no ztuple);have GLl:=Tm (P:=l.prog) (w:=w) (base:=base) ZE (no AU);have GLo:=Px (P:=l.prog) (w:=w) (base:=base) ZF GT SR SQ (gl SL) (no AN);have SZ:=Ka (P:=l.prog) (w:=w) (base:=base) ZJ (no MV);have Z':=Mo (P:=l.prog) (w:=w) (base:=base) ZG GP ZB ZA (gl Y8) GT SR SQ (gl SL) GLo b40 k40 (gl a40) SZ ST SS (gl SM) (no zsum) (no AN);have GSa:=Kb (P:=l.prog) (w:=w) (base:=base) ZK Z' ZI ZH (gl YD) SZ ST SS (gl SM) (no AN);have GLt:=Ql (P:=l.prog) (w:=w) (base:=base) ZQ Z' ZI ZH (gl YD) SZ ST SS (gl SM) (no AN);have GUn:=P8 (P:=l.prog) (w:=w) (base:=base) ZO (no BP);have GLd:=V8 (P:=l.prog) (w:=w) (base:=base) ZP (no BP) (no AN);have GSt:=He (P:=l.prog) (w:=w) (base:=base) ZL ZN ZM (gl YH) GUn b45 k45 (gl a45) GLd b46 k46 (gl a46) (no AN) (no BP) (no zset) 58;have GTu:=T6 (P:=l.prog) (w:=w) (base:=base) ZR (no AN) (no MW);have GGd:=T8 (P:=l.prog) (w:=w) (base:=base) ZS GLl b39 k39 (gl a39) GSt ZN ZM (gl YH) GDo b33 k33 (gl a33) GSo b34 k34 (gl a34) (no zisinstance) (no zlist) (no zbool);exact Wh F50 GC b35 k35 (gl a35) GS b38 k38 (gl a38) GSa b43 k43 (gl a43) GLt b47 k47 (gl a47) GTu b48 k48 (gl a48) GGd b49 k49 (gl a49)
theorem walk {l:sF}{q:aP}{BJ:List Str}{XP:(Str->Option aB)->Heap->Prop}{YP:aW->Heap->Prop}{d:DefRec}{K:Params->aC}(hn:l.most=some 63)(KU:d.params.defaults=[])
  (hY:∀(w:aW)(h:Heap),YP w h->(K w.params).In h)
  (F:∀(w:aW)(mg:Str->Option aB) (fa:Addr) (h:Heap),(K w.params).In h->h.Ns aQ mg->mg d.name=some (.ref fa)->∃fd:bX,(∀(s:aG)(u:aB),wR s fd ⟨[u],[]⟩ [("_law_script",u)])/\∀base:Heap,(K w.params).In base->base.Ns aQ mg->FnOk l.prog w (K w.params) mg base CX0 62 fa fd ["_law_script"] (Cs (K w.params))) :
  PySem.W.WalkO q BJ XP YP l.row.toRowW d [] (λf vs=>yU f vs):=
 L2.walk_of (n:=63) (k:=62) (x:="_law_script") (CX:=λ_=>CX0) (sp:=λw=>Cs (K w.params)) hn (by decide) KU ⟨rfl,by decide,by decide⟩ hY F (λ_ _ a ns hl _ hS=>⟨a,ns,rfl,hS,hl,λ_=>rfl⟩) λ_ _ _ _ _ z=>z
end S23
def PySem.W.Fast.tw14352613028042260408:Unit:=()
def PySem.W.Fast.tw14547228744039058666:Unit:=()
def PySem.W.Fast.tw17896458233673693076:Unit:=()
def PySem.W.Fast.tw6578268963154602786:Unit:=()
def PySem.W.Fast.tw15761288950601032047:Unit:=()
def PySem.W.Fast.tw6542127375691379562:Unit:=()
def PySem.W.Fast.tw18417571870389242990:Unit:=()
def PySem.W.Fast.tw11673928035496964690:Unit:=()
def PySem.W.Fast.tw11591027572599009480:Unit:=()
def PySem.W.Fast.tw1447716607786690585:Unit:=()
def PySem.W.Fast.tw14210275635269233847:Unit:=()
def PySem.W.Fast.tw17797034590336220420:Unit:=()
def PySem.W.Fast.tw12121283108140899205:Unit:=()
def PySem.W.Fast.tw259732228856465991:Unit:=()
def PySem.W.Fast.tw17958079058239449359:Unit:=()
def PySem.W.Fast.tw6044519702612785700:Unit:=()
def PySem.W.Fast.tw13224925346274445448:Unit:=()
def PySem.W.Fast.tw5805556694544040411:Unit:=()
def PySem.W.Fast.tw2396014097808160736:Unit:=()
def PySem.W.Fast.tw426494528959364409:Unit:=()
def PySem.W.Fast.tw15999118999189525607:Unit:=()
def PySem.W.Fast.tw5234956754484122417:Unit:=()
def PySem.W.Fast.tw12021318086357042032:Unit:=()
def PySem.W.Fast.tw9495118177215348120:Unit:=()
def PySem.W.Fast.tw4147320411112757054:Unit:=()
def PySem.W.Fast.tw7164404052782369388:Unit:=()
def PySem.W.Fast.tw16038605451705426101:Unit:=()
def PySem.W.Fast.tw13338767333795603737:Unit:=()
def PySem.W.Fast.tw17916806954423817290:Unit:=()
def PySem.W.Fast.tw11922348837298514390:Unit:=()
def PySem.W.Fast.tw10094660203524155155:Unit:=()
def PySem.W.Fast.tw10053399492042331998:Unit:=()
def PySem.W.Fast.tw6115627918224239687:Unit:=()
def PySem.W.Fast.tw7115465197373074498:Unit:=()
def PySem.W.Fast.tw1548639378845294177:Unit:=()
def PySem.W.Fast.tw7918955380766870413:Unit:=()
def PySem.W.Fast.tw12999726728764090148:Unit:=()
def PySem.W.Fast.tw13508590602830862637:Unit:=()
def PySem.W.Fast.tw17965678133530659137:Unit:=()
def PySem.W.Fast.tw5842977720806701651:Unit:=()
def PySem.W.Fast.tw5472896793204263638:Unit:=()
def PySem.W.Fast.tw10365494010613544962:Unit:=()
def PySem.W.Fast.tw17129884513388185288:Unit:=()
def PySem.W.Fast.tw11874151847926390544:Unit:=()
def PySem.W.Fast.tw613471016922853066:Unit:=()
def PySem.W.Fast.tw4099152211973506708:Unit:=()
def PySem.W.Fast.tw12082895382128669747:Unit:=()
def PySem.W.Fast.tw385408725256172470:Unit:=()
def PySem.W.Fast.tw2708063230084346968:Unit:=()
def PySem.W.Fast.tw2896706661663399890:Unit:=()
def PySem.W.Fast.tw3894010339989643009:Unit:=()
def PySem.W.Fast.tw628067866428630491:Unit:=()
def PySem.W.Fast.tw7525571415683943693:Unit:=()
def PySem.W.Fast.tw16574852915597059796:Unit:=()
def PySem.W.Fast.tw13223882837121226:Unit:=()
def PySem.W.Fast.tw11179837310406321937:Unit:=()
def PySem.W.Fast.tw6710517681354703328:Unit:=()
def PySem.W.Fast.tw11265712977481810506:Unit:=()
def PySem.W.Fast.tw11458483075513003464:Unit:=()
def PySem.W.Fast.tw7909477194602892972:Unit:=()
def PySem.W.Fast.tw13830103878669603759:Unit:=()
def PySem.W.Fast.tw7258247412892908505:Unit:=()
def PySem.W.Fast.tw12765575270893080743:Unit:=()
def PySem.W.Fast.tw11929493707670329402:Unit:=()
def PySem.W.Fast.tw239759709069402153:Unit:=()
def PySem.W.Fast.tw1914738056365171960:Unit:=()
def PySem.W.Fast.tw16986844303044800972:Unit:=()
def PySem.W.Fast.tw3234728532676953176:Unit:=()
def PySem.W.Fast.tw6394954141212352555:Unit:=()
def PySem.W.Fast.tw577141312982435343:Unit:=()
def PySem.W.Fast.tw493505229827607918:Unit:=()
def PySem.W.Fast.tw14323314282901723505:Unit:=()
def PySem.W.Fast.tw14947226167271476314:Unit:=()
def PySem.W.Fast.tw16749540508960245283:Unit:=()
def PySem.W.Fast.tw14811790401061757333:Unit:=()
def PySem.W.Fast.tw15526760667512669233:Unit:=()
def PySem.W.Fast.tw8094031308365775450:Unit:=()
def PySem.W.Fast.tw2346030680067645272:Unit:=()
def PySem.W.Fast.tw203156916377923275:Unit:=()
def PySem.W.Fast.tw10888392815691706862:Unit:=()
def PySem.W.Fast.tw7236100024982764750:Unit:=()
def PySem.W.Fast.tw7488328388136631966:Unit:=()
def PySem.W.Fast.tw6054840826566068204:Unit:=()
def PySem.W.Fast.tw8226735873275835934:Unit:=()
def PySem.W.Fast.tw14443267792277886713:Unit:=()
def PySem.W.Fast.tw11860240365444390282:Unit:=()
def PySem.W.Fast.tw15965306787633486041:Unit:=()
open PySem PySem.W PyProof.Rows
set_option maxRecDepth 100000 in
set_option maxHeartbeats 0 in
theorem PySem.Challenge.cw_switchsay_k23_done_and_so_holds : PySem.Challenge.rw_switchsay_k23_done_and_so.Holds := by
  w_on;o_law;k_head;(case hw=>w_witness2)
  k_fill
  refine S23.walk (l:=PySem.Challenge.rw_switchsay_k23_done_and_so) rfl rfl (fun w h Y=>PySem.W.kIn_of Y) ?F
  case F=>
    intro w mg fa h KX G hmg;refine' S23.all_mk KX G hmg ?mS ?mF ?lcF ?saF ?gaF ?gtF ?kpF ?mV ?lcV ?saV ?gaV ?gtV ?kpV ?mT ?lcT ?saT ?gaT ?gtT ?kpT ?mP ?lcP ?saP ?gaP ?gtP ?kpP ?mR ?mM ?wga ?wrd ?wfc ?rga ?rrd ?pgM ?hdM ?poM ?saM ?nMletters ?nMways ?mkM ?kpM ?nFfield ?nVvalue ?nTsaying ?nPsaying ?aiF ?liF ?ciF ?kiF ?aiV ?liV ?ciV ?kiV ?aiT ?liT ?ciT ?kiT ?aiP ?liP ?ciP ?kiP ?aiR ?liR ?qiR ?aiM ?liM ?qiM ?amE ?lmE ?qmE ?amF ?lmF ?qmF ?amK ?lmK ?qmK ?a1 ?l1 ?a2 ?l2 ?a3 ?l3 ?a4 ?l4 ?a5 ?l5 ?a6 ?l6 ?a7 ?l7 ?a8 ?l8 ?a9 ?l9 ?a10 ?l10 ?a11 ?l11 ?a12 ?l12 ?a13 ?l13 ?a14 ?l14 ?a15 ?l15 ?a16 ?l16 ?a17 ?l17 ?a18 ?l18 ?a19 ?l19 ?a20 ?l20 ?a21 ?l21 ?a22 ?l22 ?a23 ?l23 ?a24 ?l24 ?a25 ?l25 ?a26 ?l26 ?a27 ?l27 ?a28 ?l28 ?a29 ?l29 ?a30 ?l30 ?a31 ?l31 ?a32 ?l32 ?a33 ?l33 ?a34 ?l34 ?a35 ?l35 ?a36 ?l36 ?a37 ?l37 ?a38 ?l38 ?a39 ?l39 ?a40 ?l40 ?a41 ?l41 ?a42 ?l42 ?a43 ?l43 ?a44 ?l44 ?a45 ?l45 ?a46 ?l46 ?a47 ?l47 ?a48 ?l48 ?a49 ?l49 ?a50 ?l50 ?c50 ?k50 ?aaH ?llH ?aaD ?llD ?aaE ?llE ?zrange ?zabs ?zint ?zmax ?zmin ?ztuple ?zlen ?zisinstance ?zenumerate ?zsum ?zall ?zzip ?zreversed ?zlist ?zbool ?zset ?zsorted
    case mS|mF|lcF|saF|gaF|gtF|kpF|mV|lcV|saV|gaV|gtV|kpV|mT|lcT|saT|gaT|gtT|kpT|mP|lcP|saP|gaP|gtP|kpP|mR|mM|wga|wrd|wfc|rga|rrd|pgM|hdM|poM|saM|nMletters|nMways|mkM|kpM|nFfield|nVvalue|nTsaying|nPsaying|aiF|liF|ciF|kiF|aiV|liV|ciV|kiV|aiT|liT|ciT|kiT|aiP|liP|ciP|kiP|aiR|qiR|aiM|qiM|amE|qmE|amF|qmF|amK|qmK|a1|a2|a3|a4|a5|a6|a7|a8|a9|a10|a11|a12|a13|a14|a15|a16|a17|a18|a19|a20|a21|a22|a23|a24|a25|a26|a27|a28|a29|a30|a31|a32|a33|a34|a35|a36|a37|a38|a39|a40|a41|a42|a43|a44|a45|a46|a47|a48|a49|a50|l50|c50|k50|aaH|llH|aaD|llD|aaE|llE|zrange|zabs|zint|zmax|zmin|ztuple|zlen|zisinstance|zenumerate|zsum|zall|zzip|zreversed|zlist|zbool|zset|zsorted=>k_is
    case liR|liM|lmE|lmF|lmK|l1|l2|l3|l4|l5|l6|l7|l8|l9|l10|l11|l12|l13|l14|l15|l16|l17|l18|l19|l20|l21|l22|l23|l24|l25|l26|l27|l28|l29|l30|l31|l32|l33|l34|l35|l36|l37|l38|l39|l40|l41|l42|l43|l44|l45|l46|l47|l48|l49=>refine' S23.at_mk ?l ?c ?k;(case l=>k_is);(case c=>k_is);(case k=>k_is)
