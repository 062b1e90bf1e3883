import PyProof.Rows.All
import Wide.All
import OpenK.AllK
import Wide.FinOn
import PySem.Challenge.RW_switchsay_k61_tables
local macro_rules
 | `(‹$x›)=>`($(x).heap.objs.size)
local macro_rules
 | `(tactic|show $x)=>`(tactic|refine $x)
local macro_rules
 | `({$x:term,$y,*})=>`(⟨$x,$y,*⟩)
local macro_rules
 | `(#v[$x,*])=>`(⟨$x,*⟩)
local macro_rules
 | `(())=>`(by lia)
local macro_rules
 | `(∅)=>`(by simp)
local macro_rules
 | `(⋯)=>`(by decide +kernel)
set_option hygiene false in
local macro_rules
 | `(tactic|exists $h)=>`(tactic|(refine ⟨rfl,?_⟩;refine sfN (($h _).trans rfl) ?_))
set_option hygiene false in
local macro_rules
 | `(tactic|exists $h,rfl)=>`(tactic|(refine ⟨rfl,?_⟩;refine sfY (($h _).trans rfl) ?_))
open Option renaming some->KE,none->LY
open Bool renaming true->LZ,false->MA
open PySem renaming Addr->MB,Heap->MC,Expr->MD,Stmt->ME
abbrev MF:=@if_pos
abbrev MG:=@if_neg
abbrev MH:=@decide_eq_false
abbrev MI:=@decide_eq_true
abbrev MJ:=@absurd
abbrev ML:=@congrArg
abbrev ZZ:List PySem.Str:=["range","abs","int","max","min","tuple","list","len","isinstance","enumerate","sum","all","any","zip","reversed","set","sorted","dict","bool"]
abbrev ZY:List PySem.Str:=["_law_speech_here","_law_letters_here","_law_saying_here"]
abbrev ZX:List PySem.Str:=["saying"]
abbrev ZW:List PySem.Str:=["table","wanted"]
abbrev ZV:List PySem.Str:=["letters","place","value"]
abbrev ZU:List PySem.Str:=["_law_row","_law_cell_here","_law_speech_here","_law_most"]
abbrev ZT:List PySem.Str:=["self","rooms","letter"]
abbrev ZS:List PySem.Str:=["first","second"]
abbrev ZR:List PySem.Str:=["_law_sort","_law_purse_here","_law_speech_here"]
abbrev ZQ:List PySem.Str:=["_law_table","_law_due"]
abbrev ZP:List PySem.Str:=["speech","letters","part","inner"]
abbrev ZO:List PySem.Str:=["_law_speech_here"]
abbrev ZN:List PySem.Str:=["_law_cells","_law_speech_here","_law_most"]
abbrev ZM:List PySem.Str:=["_law_deed","_law_letter"]
abbrev ZL:List PySem.Str:=["_law_table","_law_speech_here","_law_most"]
abbrev ZK:List PySem.Str:=["_law_speech_here","_law_saying_here"]
abbrev ZJ:List PySem.Str:=["speech","saying"]
abbrev ZI:List PySem.Str:=["_law_match","_law_letter"]
abbrev ZH:List PySem.Str:=["_law_cell_here","_law_least_here"]
abbrev ZG:List PySem.Str:=["one","other"]
abbrev ZF:List PySem.Str:=["self","letters","ways"]
abbrev ZE:List PySem.Str:=["size"]
abbrev ZD:List PySem.Str:=["relation"]
abbrev ZC:List PySem.Str:=["self","room","letter"]
abbrev ZA:List PySem.Str:=["_law_script","_law_k"]
abbrev Z':List PySem.Str:=["_law_step_here","_law_letter"]
abbrev YZ:List PySem.Str:=["_law_part","_law_speech_here"]
abbrev YY:List PySem.Str:=["_law_purse_here","_law_many"]
abbrev YX:List PySem.Str:=["speech","letters","saying"]
abbrev YW:List PySem.Str:=["_law_step_here","_law_row"]
abbrev YV:List PySem.Str:=["letter","ends"]
abbrev YU:List PySem.Str:=["_law_table","_law_letter"]
abbrev YT:List PySem.Str:=["none","all","is","not","either","then"]
abbrev YS:List PySem.Str:=["speech","letters","part"]
abbrev YR:List PySem.Str:=["speech","field","value"]
abbrev YQ:List PySem.Str:=["self","speech","saying"]
abbrev YO:List PySem.Str:=["mask","relation"]
abbrev YN:List PySem.Str:=["letter","values"]
abbrev YM:List PySem.Str:=["values","letter"]
abbrev YL:List PySem.Str:=["letters","mask"]
abbrev YK:List PySem.Str:=["_law_row","_law_word"]
abbrev YJ:List PySem.Str:=["count","value"]
abbrev YI:List PySem.Str:=["speech","part"]
abbrev YH:List PySem.Str:=["row","anew","start"]
abbrev YG:List PySem.Str:=["letter","end"]
abbrev YF:List PySem.Str:=["row","field"]
abbrev YE:List PySem.Str:=["letter"]
abbrev YD:List PySem.Str:=["letters","count"]
abbrev YC:List PySem.Str:=["ways"]
abbrev YB:List PySem.Str:=["letters","ways"]
abbrev YA:List PySem.Str:=["table","letter"]
abbrev Y':List PySem.Str:=["_law_cell_here"]
local macro_rules
  | `(tactic| obtain $p:rcasesPatMed := $t) => `(tactic| (refine Classical.byContradiction fun hG_ => ?_; obtain $p:rcasesPatMed : _ := $t; all_goals refine hG_ ?_))
set_option Elab.async false
set_option compiler.extract_closed false
set_option autoImplicit true
set_option relaxedAutoImplicit true
set_option linter.all false
set_option maxRecDepth 100000
open PySem renaming wpAny_bind->aA,Value->aE,Shared->aH,wpAny->aL,starEach->aN,Program->aV,model->aX,World->bA,mainGlobals->bG,Around->bV,intKind->cB,IsTupleKey->cJ,wpAny_call_entry->cN,wpAny_callSpecial?_slot->cS,wpAny_newObj_type->cU,wpAny_holding->dB,wpAny_field->dE,cLine->dJ,backTo->dP,bootBuiltins->dW,wpAny_pyIter_list->dX,binaryOp->eA,compareOp->eJ,wpAny_setField_rec->eP,SetTable->eV,wpAny_seqItems->fN,wpAny_pyIter_tuple->fP,wpAny_setState_of->fX,sysModules->fZ,FuncData->gO,pyNext->gU,attributeBase->hU,wpAny_isInstance->hX,wpAny_Call_Name_kw->iA,sizeLine_eq->iE,foldedSetIterable->iJ,Builtin->iP,wpAny_forIn_list->iQ,wpAny_mono->iR,rawInt->iU,wpAny_passesOwn->iZ,wpAny_specialOf->jA,wpAny_attempt->jH,assignEach->jJ,call_meets->jK,wpAny_setField->jO,mem_of_lookup->jV,wpAny_getItem_str_slice->jY,holding->jZ,swapsWith->kA,atKey->kF,codeAny_builtin->kG,keywordEach->kN,wpAny_truthy_bool->kQ,firstArgMember->kU,wpAny_askSetting->lA,IsPair->lF,codeAny->lH,sliceBounds->lI,relabel->lJ,assign->lO,codeAny_mono->lR,wpAny_typeOf->lW,wpAny_eqBool_tuple->lY,Scope->mE,getItem->mG,wpAny_rule->mI,IsEnum->nA,backToKw->nI,Keyword->nP,isSubtype_tuple_tuple->nR,wpAny_execs_nil->nV,letOwnedTupleGo->nW,IsPart->nZ,PlainAttrs->oA,post_val_or_str->oF,field->oG,wpAny_updateSeq_pair->oM,wpAny_setEntries_of->oT,standAt->oV,bindArgs->oX,callerA->oZ,wpAny_fieldsOf->pA,isSubtype_stop->pB,IsZip->pE,getMethod->pI,wpAny_tupleItemsOf->pK,tupleKind_room_in1->pM,wpAny_standAt->pO,behindInMarks->pP,wpAny_newList->pR,wpAny_onRaise->pS,wpAny_sequenceKey->pY,ofAClassStatement->qC,wpAny_pyIter_slot->qD,wpAny_dictEntries->qH,BindsTo->qJ,valueAt->qK,NameKind->qL,noFill_tuple_add->qM,preSum->qQ,tupleKind->qU,eqIsQuiet->qZ,wpAny_dictEpoch->rD,IsRangeIter->rE,wpAny_of_eq->rJ,wpAny_letGo->rK,isSubtype_type->rN,wpAny_newTuple->rP,entryOfKey->rR,GenState->rS,bindL->rT,bindC->rV,typeIs_int->rW,ZipApart->rX,swapsWithSole->rY,swappedStores->rZ,seq_tuple_add->sA,evalPart_none->sC,wpAny_handled->sF,Within->sJ,isTrue->sL,PassesOwn->sM,pyIter->sN,concat_meets->sQ,typeOf->sT,tupleKeyHash->sU,pickOrder->sW,putSet_of->sX,IsEnumOut->tG,spliced->tK,seqIndex_of->tS,wpAny_throw->tT,hashByValue->tU,callWith->tW,newTuple->tX,setField->tY,builtinsNs->uA,Model->uB,wpAny_Name->uC,wpAny_call->uD,typeIs_str->uE,call->uH,closureFor->uI,newExc->uJ,isInstance->uL,setsByText->uN,setItem->uO,storedH->uQ
open List renaming getElem?_eq_getElem->aB,length_map->aC,length_append->aI,getElem?_map->aK,size_toArray->aM,mem_cons_of_mem->aP,mem_cons_self->aQ,mem_of_getElem?->aR,mem_cons->aW,replicate->aY,length_cons->aZ,map_cons->bB,mem_singleton->bC,range->bE,getElem?_eq_some_iff->bH,map_append->bI,nil_append->bM,length_take->bN,getElem?_eq_none->bR,getElem?_append_left->bS,mem_append_right->bW,append_nil->bX,length_range->cA,getD_eq_getElem?_getD->cF,getElem?_range->cG,getElem?_append_right->cK,getElem?_set_ne->cM,length_singleton->cT,take_add_one->cV,take_length->cX,getElem?_set_self->cY,mem_map->dA,length_replicate->dC,length_drop->dF,not_mem_nil->dG,find?_cons->dH,mem_range->dI,mem_append->dO,map_map->dQ,getElem?_replicate->dS,append_assoc->dY,length_set->eF,mem_append_left->eK,idxOf_lt_length_iff->eU,ext_getElem?->eX,drop_eq_getElem_cons->fG,replicate_succ->fH,length_reverse->fJ,toArray->fO,filterMap_cons->fY,nodup_cons->gB,nodup_nil->gL,getElem?_of_mem->gM,eraseIdx_cons_succ->gN,take_of_length_le->gW,pairwise_cons->iB,set_cons_succ->iC,mem_filter->iG,map_nil->iH,reverse_cons->iK,flatten_cons->iM,length_eq_zero_iff->iO,getElem_idxOf->iW,map_inj_right->iY,take_append_drop->jB,eq_nil_or_concat->jC,concat_eq_append->jD,any_cons->jG,getElem_toArray->jL,set_eq_take_append_cons_drop->jN,getElem_mem->jR,all_eq_true->jS,reverse_nil->jU,range_succ->kD,lookup->kM,foldl_append->kR,mem_iff_getElem?->kW,map_congr_left->lK,getElem?_zip_eq_some->lN,getElem?_take_of_lt->lU,pairwise_singleton->mN,mem_singleton_self->mO,getElem?_inj->mU,drop_eq_nil_of_le->nB,map_take->nE,map_drop->nG,any_toArray->nL,map_reverse->nM,filterMap_append->nQ,length_filter_le->nS,foldl_cons->oB,mem_of_mem_take->oI,getElem?_mapIdx->oO,getElem?_zipIdx->oP,length_zip->oQ,mem_map_of_mem->oU,map_id->pG,zip_cons_cons->pL,getElem?_drop->pN,flatMap_cons->qE,getElem?_set->qF,lookup_cons->qO,zipWith->qR,of_mem_zip->qW,drop_zero->rM,all_cons->sE,all_map->tF,length->tR,foldl->uG
open PySem.Heap renaming get?_push_of_some->aF,get?_push_size->aT,lt_size->aU,SameBut->dZ,size_push->eQ,get?_update_self->gF,ExtBut->kO,IsTuple->oN,IsList->pF
open PySem.W renaming Frag->aG,kitOne->bO,nsIn->cH,findIn->dD,kia_one->eR,keepIn->fK,fnOf->fS,emptyDict->fW,kas_rev->iD,instObj->iF,isFn->iV,kas_sort->jT,kas_desc->kP,kas_place->kX,plainGet->kY,mg_of->lG,callWith_K->lS,codeIn->mF,kas_asc->mL,hasDictIn->mQ,specialIn->mR,OpenLaw->mY,makesIn->nX,kas_descPart->oK,plainGet_of->oR,lookIn->oW,methodObj->pV,plainOver->pW,kitx_list->pX,takerIn->qV,readsIn->qX,findCls->qY,kas_bin->rO,kas_rev_size->sY,kas_tail3->sZ,kas_count->tD
open Nat renaming le_refl->aJ,ne_of_lt->bJ,le_trans->bK,lt_of_lt_of_le->bQ,zero_lt_one->cE,zero_le->cP,ne_of_gt->eZ,zero_add->fE,lt_succ_self->fF,lt_irrefl->fR,lt_trans->gH,testBit_succ->gK,le_of_lt->gR,not_lt_zero->iI,mod_lt->kI,testBit_and->kK,eq_of_testBit_eq->lC,mul_comm->lX,pow_succ->lZ,min_self->mB,le_succ_of_le->mV,le_of_not_lt->nJ,le_add_right->nK,succ_lt_succ->nN,add_comm->oC,two_pow_pos->oH,add_le_add->pC,add_assoc->pQ,mul_assoc->pU,lt_of_succ_lt->qA,lt_succ_of_lt->qB,min_le_right->qN,succ_ne_zero->qS,min_eq_left->rB,le_succ->rH
open Bool renaming false_ne_true->aO,false_eq_true->bL,and_eq_true->cO,not_true->hV,eq_iff_iff->kB,or_eq_true->lM,and_false->mH,and_true->nH,eq_false_iff->qG,and_self->sG
open Or renaming inl->aS,inr->fQ
open PySem.PassesOwn renaming never->bF
open Array renaming getElem?_toList->bP,getElem?_eq_getElem->bT,getD_eq_getD_getElem?->cI,length_toList->cQ,getElem?_eq_some_iff->fU,forIn_toList->kE,getElem?_eq_none_iff->lE,replicate->rA
open Option.some renaming inj->bU
open PySem.Value renaming ref->bY,none->eB,isInt->fV,int->jM,type->mD,bool->qI,str->qT,float->tQ
open Int renaming toNat_natCast->bZ,natCast_nonneg->lP,one_mul->rL,ediv_one->sR,le_trans->tH
open PySem.Str renaming ofString->cW
open PyProof.Rows renaming slot_tuple_getitem->cZ,callWith_type1->eW,seqObj->eY,callWith_builtin1->kC,subscriptTail_builtinR->mX,units_in1->mZ,AllBare->nO,envOfC->nY,entry_tuple_getitem->oS,slicePart_none->oY,mirror_perm->pD,args_tuple_getitem->pJ,subscriptTail->sD,listUpdate_at->sH,IsTup->tJ,IntsAre->tM,seqEpoch_at->tV,bubble->uM
open PySem.Builtin.SmallTypes renaming nextOf->dM,ownedTupleIsFree->eG,ownedTupleHandOut->gJ
open Option renaming map_eq_some_iff->dN,isSome_map->gP,isSome_iff_exists->lT,map->oJ,map_some->rC
open PySem.Builtin renaming bitOr->dR,bitAnd->eC,bitXor->jP,bitNot->rQ
open PySem.F renaming plainAttrs_list->dU,slot_list_index->iN,args_tuple_add_2->lV,entry_tuple_add->mM,type_list_index->mP,slot_tuple_add->mW,slot_list_pop->nT,type_list_pop->nU
open PySem.Heap.SameBut renaming update->eI,refl->pZ
open PySem.Builtin.Slice renaming slicePlaces->eM,sliceAdjust->gD,sliceApplied->jE
open PySem.Obj renaming mapSeq->fA,data_mapFields->fB,isFreed_of_fields->kS,putSet->lB,cls_mapFields->mT,mapFields->sI
open PySem.Builtin.Tuple renaming tupleExact->fM,tupleHashOf->gE,tupleItemsOf->jF
open PySem.Builtin.List renaming listTooLong->gG
open PySem.Txt renaming slice->gQ,slice_le->qP
open False renaming elim->gY
open True renaming intro->gZ
open PySem.Shared renaming heap->iS
open PyProof.Rows.F renaming plain_set_update_loop->iX
open List.Pairwise renaming nil->jI
open PySem.Heap.IsList renaming push->jQ
open PySem.Builtin.Int renaming intBits->jW
open PySem.Builtin.Range renaming rangeSize->jX
open PySem.SetTable renaming sizeAbove->kJ,grown->mK
open PySem.Around renaming under_plainId->kZ,under->sO
open PySem.Calls renaming spliced_cons->lQ,spliced_nil->mS
open List.Perm renaming refl->mJ
open List.cons renaming inj->nD
open ForInStep renaming yield->oE
open PySem.Data renaming cell->pH,fields->rF,seq->uX
open PySem.Code renaming isFrame->sP
open PyProof.Rows.IsTup renaming new->sS
open PySem.pickOrder renaming go->sV
open PySem.SeqAt renaming EqAt->uF
open PySem.Walks renaming list->uK
open Iff renaming rfl->uP
namespace L2
open PySem PySem.Spec PyProof.Rows
abbrev Key:=Sum Int Str
def Be:Key->aE->Bool
 | .inl k,v=>fV k v
 | .inr x,v=>Value.isStrOf x v
def keyH (w:bA):Key->Int
 | .inl k=>hashInt k
 | .inr x=>hashStr w x
theorem gx:∀{k:Key}{v:aE},Be k v=LZ->(∃i t,k=Sum.inl i/\v=jM i t)\/(∃x t,k=Sum.inr x/\v=qT x t)
 | .inl i,v,h=>by
  obtain⟨t,e⟩:=Value.isInt_shape (k:=i) (v:=v) h;show .inl #v[i,t,rfl,e]
 | .inr x,v,h=>by
  obtain⟨t,e⟩:=Value.isStrOf_shape (x:=x) (v:=v) h;show .inr #v[x,t,rfl,e]
def Vc (i:Int)(t:Tok):Be (.inl i) (.int i t)=LZ:=by simp[Be,fV]
def Vd (x:Str)(t:Tok):Be (.inr x) (.str x t)=LZ:=by simp[Be,Value.isStrOf]
def ahj (a b:Int):decide ((Sum.inl a:Key)=Sum.inl b)=(a == b):=by
 by_cases e:a=b
 ·subst e;simp
 ·have h:¬(Sum.inl a:Key)=Sum.inl b:=λq=>e (Sum.inl.inj q);rw[MH h];show(beq_eq_false_iff_ne.mpr e).symm
def ahk (a b:Str):decide ((Sum.inr a:Key)=Sum.inr b)=decide (a=b):=by
 by_cases e:a=b
 ·subst e;simp
 ·have h:¬(Sum.inr a:Key)=Sum.inr b:=λq=>e (Sum.inr.inj q);rw[MH h,MH e]
def ahl (a:Int)(b:Str):decide ((Sum.inl a:Key)=Sum.inr b)=MA:=MH (λq=>nomatch q)
def ahm (a:Str)(b:Int):decide ((Sum.inr a:Key)=Sum.inl b)=MA:=MH (λq=>nomatch q)
def g7 (prog:aV)(w:bA):PySem.KeyKind prog w Key where
 is:=Be
 hash:=keyH w
 inj:=λv a b ha hb=>by
  rcases gx ha with⟨i,t,rfl,rfl⟩ | ⟨x,t,rfl,rfl⟩
  ·rcases gx hb with⟨j,u,rfl,e⟩ | ⟨y,u,rfl,e⟩
   ·injection e with e1 _;rw[e1]
   ·show nomatch e
  ·rcases gx hb with⟨j,u,rfl,e⟩ | ⟨y,u,rfl,e⟩
   ·show nomatch e
   ·injection e with e1 _;rw[e1]
 byValue:=λk v h=>by
  rcases gx h with⟨i,t,rfl,rfl⟩ | ⟨x,t,rfl,rfl⟩<;>rfl
 pyHash:=λhv h=>by
  rcases gx hv with⟨i,t,rfl,rfl⟩ | ⟨x,t,rfl,rfl⟩
  ·show wpAny_pyHash_int h
  ·show wpAny_pyHash_str h
 eqBool:=λhu hv h=>by
  rcases gx hu with⟨i,t,rfl,rfl⟩ | ⟨x,t,rfl,rfl⟩
  ·rcases gx hv with⟨j,u,rfl,rfl⟩ | ⟨y,u,rfl,rfl⟩
   ·rw[ahj]at h;show wpAny_eqBool_int h
   ·rw[ahl]at h;show SeqAt.EqAt.int_str i t y u _ _ _ _ h
  ·rcases gx hv with⟨j,u,rfl,rfl⟩ | ⟨y,u,rfl,rfl⟩
   ·rw[ahm]at h;show SeqAt.EqAt.str_int x t j u _ _ _ _ h
   ·rw[ahk]at h;show wpAny_eqBool_str h
 «strs»:=λk x t v h=>by
  rcases gx h with⟨i,u,rfl,e⟩ | ⟨y,u,rfl,e⟩
  ·show nomatch e
  ·injection e with e1 _;subst e1;cases v<;>rfl
def Og (prog:aV)(w:bA)(i:Int)(t:Tok):(g7 prog w).is (.inl i) (.int i t)=LZ:=Vc i t
def Oh (prog:aV)(w:bA)(x:Str)(t:Tok):(g7 prog w).is (.inr x) (.str x t)=LZ:=Vd x t
inductive V where
 |non | bl (b:Bool) | int (i:Int) | str (x:Str) | byt (b:Array UInt8) | flt (b:UInt64) | ref (a:MB) | ty (n:String)
 deriving DecidableEq
def RelV:V->aE->Prop
 | .non,u=>u=eB
 | .bl b,u=>u=qI b
 | .int i,u=>∃t,u=jM i t
 | .str x,u=>∃t,u=qT x t
 | .byt b,u=>∃t,u=Value.bytes b t
 | .flt b,u=>∃t,u=tQ b t
 | .ref a,u=>u=bY a
 | .ty n,u=>u=mD n
abbrev Vals:List V->List aE->Prop:=Paired RelV
theorem Vals.length {xs:List V}{us:List aE}(r:Vals xs us):xs.length=us.length:=Paired.length r
theorem Vals.get:∀{xs:List V}{us:List aE}{i:Nat}{x:V},Vals xs us->xs[i]?=KE x->∃u,us[i]?=KE u/\RelV x u
 |_,_,_,_,.nil,e=>by simp at e
 |_,_,0,_,.cons r _,e=>by simp at e;subst e;show{_,rfl,r}
 |_,_,i+1,x,.cons _ t,e=>by
  obtain⟨u,a,b⟩:=Vals.get (i:=i) (x:=x) t (by simpa using e);show{u,by simpa using a,b}
theorem Vals.set {x:V}{u:aE}(r:RelV x u):∀{xs:List V}{us:List aE}(i:Nat),Vals xs us->Vals (xs.set i x) (us.set i u)
 |_,_,_,.nil=>.nil
 |_,_,0,.cons _ t=>.cons r t
 |_,_,i+1,.cons q t=>.cons q (Vals.set r i t)
theorem Vals.append:∀{xs ys:List V}{us ws:List aE},Vals xs us->Vals ys ws->Vals (xs++ys) (us++ws)
 |_,_,_,_,.nil,s=>s
 |_,_,_,_,.cons r t,s=>.cons r (Vals.append t s)
theorem Vals.take:∀{xs us} n,Vals xs us->Vals (xs.take n) (us.take n)
 |_,_,0,_=>.nil
 |_,_,_+1,.nil=>.nil
 |_,_,n+1,.cons r t=>.cons r (Vals.take n t)
theorem Vals.drop:∀{xs us} n,Vals xs us->Vals (xs.drop n) (us.drop n)
 |_,_,0,r=>r
 |_,_,_+1,.nil=>.nil
 |_,_,n+1,.cons _ t=>Vals.drop n t
def RelO:Option V->Option aE->Prop
 |some v,KE u=>RelV v u
 |none,LY=>True
 |_,_=>False
def KV {a:Type}:List (a×V)->List (a×aE)->Prop:=Paired λp q=>p.1=q.1/\RelV p.2 q.2
def kV:Key->V
 | .inl i=>.int i
 | .inr x=>.str x
inductive HO where
 |lst (xs:List V)
 |tup (xs:List V)
 |dK (kvs:List (Key×V)) | dT (kvs:List (List Key×V))
 |set (S:Int->Bool) (n:Nat)
 |ins (C dx:MB) (fs:List (Str×V))
 |own (x:MB)
 |xd (fs:List (Str×V))
 |met (f x:MB)
 |rng (lo hi:Int)
 |frz (o:Obj) (u:HO)
 |tbl (ps:Array aE)
 |ext (φ:MC->Prop)
abbrev Hp:=MB->Option HO
def upd (H:Hp)(a:MB)(o:HO):Hp:=λb=>if b=a then KE o else H b
def bp {H:Hp}{a:MB}{o:HO}:upd H a o a=KE o:=by unfold upd;rw[MF rfl]
def bc {H:Hp}{a b:MB}{o:HO}(h:b≠a):upd H a o b=H b:=by unfold upd;rw[MG h]
def ne_of {H:Hp}{a b:MB}{o u:HO}(h:H a=KE o)(h':H b=KE u)(d:o≠u):a≠b:=by
 intro e;subst e;rw[h]at h';show d (bU h')
def cf {H:Hp}{a b:MB}{o:HO}(h:H a=KE o)(h':H b=LY):a≠b:=by
 intro e;subst e;rw[h]at h';cases h'
section
variable (P:aV)(w:bA)
def ObjOk (H:Hp)(h:MC)(a:MB):HO->Prop
 | .lst xs=>xs.length<=sizeLine/\∃its n,Vals xs its/\h.get? a=KE { cls:=.type "list",data:=.seq its.toArray n }
 | .tup xs=>xs.length<=sizeLine/\∃its:List aE,Vals xs its/\tJ h a its.toArray
 | .dK kvs=>kvs.length<=sizeLine/\(a == fZ)=MA/\∃vs,KV kvs vs/\h.DictOf (g7 P w) a vs
 | .dT kvs=>kvs.length<=sizeLine/\(a == fZ)=MA/\∃xs:List (List Key×MB×aE),
   Paired (λp q=>p.1=q.1/\H q.2.1=KE (.tup (p.1.map kV))/\RelV p.2 q.2.2) kvs xs/\
   ∃o e ep,h.get? a=KE o/\o.ExactDict/\o.data=.dict e ep/\e.toList=xs.map (rR (qU (g7 P w)))/\(xs.map (·.1)).Nodup
 | .set S n=>h.SetOf (cB P w) a S n
 | .ins C c fs=>H c=KE (.own a)/\fs.length<=1000/\c≠a/\h.get? a=KE (iF C c)/\
   ∃b,h.Ns1 c b/\(∀f,RelO (fs.lookup f) (b f))/\sJ b (fs.map (·.1))
 | .own _=>∃o,h.get? a=KE o
 | .xd fs=>∃b,h.Ns1 a b/\∀f,RelO (fs.lookup f) (b f)
 | .rng lo hi=>∃t u v,h.get? a=KE { cls:=.type "range",data:=.fields #[.int lo t,.int hi u,.int 1 v] }
 | .frz o u=>h.get? a=KE o/\ObjOk H h a u
 | .tbl ps=>h.get? a=KE { cls:=.none,data:=.fields ps }
 | .met f x=>h.get? a=KE (pV (.ref f) (.ref x))
 | .ext d=>d h/\(∃o,h.get? a=KE o)/\∀g i:MC,d g->(∀o,g.get? a=KE o->i.get? a=KE o)->d i
def HOk (H:Hp)(h:MC):Prop:=∀a o,H a=KE o->ObjOk P w H h a o
end
section
variable {P:aV}{w:bA}{H H':Hp}{h h':MC}{a:MB}{o:HO}
theorem ObjOk.lt (x:ObjOk P w H h a o):a < h.objs.size:=by
 cases o with
 |lst xs=>obtain⟨_,_,_,_,e⟩:=x;show aU e
 |tup xs=>obtain⟨_,_,_,p⟩:=x;show p.lt
 |dK kvs=>obtain⟨_,_,_,_,o,_,_,e,_⟩:=x;show aU e
 |dT kvs=>obtain⟨_,_,_,_,o,_,_,e,_⟩:=x;show aU e
 |set S n=>obtain⟨o,_,_,_,e,_⟩:=x;show aU e
 |ins C b fs=>obtain⟨_,_,_,e,_⟩:=x;show aU e
 |own y=>obtain⟨_,e⟩:=x;show aU e
 |xd fs=>obtain⟨_,⟨_,_,_,e,_⟩,_⟩:=x;show aU e
 |rng lo hi=>obtain⟨_,_,_,e⟩:=x;show aU e
 |frz c u=>obtain⟨e,_⟩:=x;show aU e
 |tbl ps=>show aU (show h.get? a=KE _ from x)
 |met f y=>show aU (show h.get? a=KE _ from x)
 |ext d=>obtain⟨_,⟨_,e⟩,_⟩:=x;show aU e
theorem Paired.mapP:∀{l₁ c},Paired F l₁ c->(∀a b,F a b->G a b)->Paired G l₁ c
 |_,_,.nil,_=>.nil
 |_,_,.cons r t,f=>.cons (f _ _ r) (Paired.mapP t f)
def ObjOk.stay (x:ObjOk P w H h a o)(k:∀b u,(b=a\/H b=KE (.own a))->h.get? b=KE u->h'.get? b=KE u)
  (m:∀b,H b=KE (.own a)->H' b=KE (.own a)) (s:∀b xs,H b=KE (.tup xs)->H' b=KE (.tup xs)):ObjOk P w H' h' a o:=by
 induction o with
 |lst xs=>obtain⟨z,its,n,r,e⟩:=x;show{z,its,n,r,k _ _ (.inl rfl) e}
 |tup xs=>obtain⟨z,its,r,g,e,c⟩:=x;show{z,its,r,g,k _ _ (.inl rfl) e,c}
 |dK kvs=>obtain⟨z,y,vs,r,g,i,ep,e,c⟩:=x;show{z,y,vs,r,g,i,ep,k _ _ (.inl rfl) e,c}
 |dT kvs=>
  obtain⟨z,y,xs,r,g,i,ep,e,c⟩:=x;show{z,y,xs,Paired.mapP r λp q z=>{z.1,s _ _ z.2.1,z.2.2},g,i,ep,k _ _ (.inl rfl) e,c}
 |set S n=>obtain⟨g,i,ep,t,e,c⟩:=x;show{g,i,ep,t,k _ _ (.inl rfl) e,c}
 |ins C E fs=>
  obtain⟨d,z,ne,e,j,⟨l,i,ep,A,c⟩,r⟩:=x;show{m _ d,z,ne,k _ _ (.inl rfl) e,j,{l,i,ep,k _ _ (.inr d) A,c},r}
 |own y=>obtain⟨g,e⟩:=x;show{g,k _ _ (.inl rfl) e}
 |xd fs=>obtain⟨j,⟨l,i,ep,e,c⟩,r⟩:=x;show{j,{l,i,ep,k _ _ (.inl rfl) e,c},r}
 |rng lo hi=>obtain⟨t,u,v,e⟩:=x;show{t,u,v,k _ _ (.inl rfl) e}
 |frz g u D=>obtain⟨e,q⟩:=x;show{k _ _ (.inl rfl) e,D q}
 |tbl ps=>
  have e:h.get? a=KE { cls:=.none,data:=.fields ps }:=x;change h'.get? a=KE { cls:=.none,data:=.fields ps };show k a _ (.inl rfl) e
 |met f y=>
  have e:h.get? a=KE (pV (.ref f) (.ref y)):=x;change h'.get? a=KE (pV (.ref f) (.ref y));show k a _ (.inl rfl) e
 |ext G=>obtain⟨p,⟨o,e⟩,st⟩:=x;show{st _ _ p λo q=>k _ _ (.inl rfl) q,{o,k _ _ (.inl rfl) e},st}
theorem HOk.lt (x:HOk P w H h)(e:H a=KE o):a < h.objs.size:=(x a o e).lt
def HOk.fresh (x:HOk P w H h)(e:h.objs.size<=a):H a=LY:=by
 cases q:H a with
 |none=>rfl
 |some u=>show MJ (bQ (x.lt q) e) (fR _)
def HOk.kept (x:HOk P w H h)(k:∀b u,h.get? b=KE u->h'.get? b=KE u):HOk P w H h':=λa o e=>
 (x a o e).stay (λb u _ q=>k b u q) (λ_ q=>q) λ_ _ q=>q
def HOk.laid (x:HOk P w H h)(k:∀b u,h.get? b=KE u->h'.get? b=KE u)(g:h.objs.size<=a)(new:ObjOk P w (upd H a o) h' a o):HOk P w (upd H a o) h':=λb u e=>by
 have d:=x.fresh g;by_cases f:b=a
 ·subst f;rw[bp]at e;cases e;show new
 ·rw[bc f]at e;show(x b u e).stay (λc v _ q=>k c v q) (λc q=>by rw[bc (cf q d)];show q) λc xs q=>by rw[bc (cf q d)];show q
end
def Rd (H:Hp)(a:MB)(u:HO):Prop:=H a=KE u\/∃o,H a=KE (.frz o u)
def Rd.ok {P:aV}{w:bA}{H:Hp}{h:MC}{a:MB}{u:HO}(r:Rd H a u)(x:HOk P w H h):ObjOk P w H h a u:=by
 rcases r with r | ⟨o,r⟩
 ·show x a u r
 ·obtain⟨_,q⟩:=x a _ r;show q
def Mut:Option HO->Prop
 |some (.lst _)=>True
 |some (.dK _)=>True
 |some (.dT _)=>True
 |some (.set _ _)=>True
 |some (.ins _ _ _)=>True
 |some (.ext _)=>True
 |_=>False
section
variable {P:aV}{w:bA}{H:Hp}{h h':MC}{x e:MB}{o':HO}
def HOk.write (ok:HOk P w H h)(mu:Mut (H x))(g:e=x\/H e=KE (.own x))(k:∀b u,b≠e->h.get? b=KE u->h'.get? b=KE u)(l:∃u,h'.get? e=KE u)
  (new:ObjOk P w (upd H x o') h' x o'):HOk P w (upd H x o') h':=λb u q=>by
 have i:∀c y,H c=KE (.own y)->c≠x:=λc y r z=>(by subst z;rw[r]at mu;show mu);have a:∀c xs,H c=KE (.tup xs)->c≠x:=λc xs r z=>(by subst z;rw[r]at mu;show mu);by_cases d:b=x
 ·subst d;rw[bp]at q;cases q;show new
 ·rw[bc d]at q;by_cases f:b=e
  ·have j:H b=KE (.own x):=by
    rcases g with z | z
    ·show MJ (f.trans z) d
    ·rw[f];show z
   rw[q]at j;cases j;obtain⟨v,m⟩:=l;show{v,by rw[f];show m}
  ·show(ok b u q).stay (λc v hc r=>k c v ?_ r) (λc r=>by rw[bc (i c b r)];show r) λc xs r=>(by rw[bc (a c xs r)];show r);rcases hc with rfl | hc
   ·show f
   ·intro n;subst n;rcases g with z | z
    ·show i c b hc z
    ·rw[hc]at z;cases z;show d rfl
end
structure Un (fs ex:List MB)(H H':Hp)(h h':MC):Prop where
 keep:∀b o,h.get? b=KE o->H b=LY->b ∉ fs->b ∉ ex->h'.get? b=KE o
 slot:∀b o,h.get? b=KE o->H b=LY->b∈fs->b ∉ ex->∃sl,h'.get? b=KE { o with slots:=sl }
 free:∀b o,h.get? b=KE o->H b=LY->b ∉ ex->H' b=LY
 there:∀b o,h.get? b=KE o->b ∉ ex->∃o',h'.get? b=KE o'
 tups:∀b xs,H b=KE (.tup xs)->H' b=KE (.tup xs)
 frzs:∀b o u,H b=KE (.frz o u)->H' b=KE (.frz o u)
 tbls:∀b ps,H b=KE (.tbl ps)->∃more,H' b=KE (.tbl (ps++more))
section
variable {fs BN ex ex':List MB}{H H1 H2:Hp}{h h1 h2 h':MC}{a x e:MB}{o:HO}
def Un.any (u:Un fs ex H H1 h h1)(q:h.get? b=KE c)(n:H b=LY)(d:b ∉ ex):∃g,h1.get? b=KE { c with slots:=g }:=by
 by_cases f:b∈fs
 ·show u.slot b c q n f d
 ·show{c.slots,u.keep b c q n f d}
def Un.kept (k:∀b u,h.get? b=KE u->h'.get? b=KE u):Un fs ex H H h h':=
 {λb c q _ _ _=>k b c q,λb c q _ _ _=>{c.slots,k b c q},λ_ _ _ n _=>n,λb c q _=>{c,k b c q},λ_ _ q=>q,λ_ _ _ q=>q,λ_ ps q=>{#[],by rw[q];simp}}
def Un.refl:Un fs ex H H h h:=Un.kept λ_ _ q=>q
def Un.laid (k:∀b u,h.get? b=KE u->h'.get? b=KE u)(hp:h.objs.size<=a)(hn:H a=LY):Un fs ex H (upd H a o) h h' where
 keep:=λb u q _ _ _=>k b u q
 slot:=λb u q _ _ _=>{u.slots,k b u q}
 free:=λb u q n _=>by rw[bc (bJ (bQ (aU q) hp))];show n
 there:=λb u q _=>{u,k b u q}
 tups:=λb xs q=>by rw[bc (cf q hn)];show q
 frzs:=λb u xs q=>by rw[bc (cf q hn)];show q
 tbls:=λb ps q=>{#[],by rw[bc (cf q hn),q];simp}
def Un.write (mu:Mut (H x))(i:e=x\/H e=KE (.own x))(k:∀b u,b≠e->h.get? b=KE u->h'.get? b=KE u)(j:∃u,h'.get? e=KE u):Un fs ex H (upd H x o) h h':=by
 have d:∀b,H b=LY->b≠x:=λb n z=>(by subst z;rw[n]at mu;show mu);have f:∀b,H b=LY->b≠e:=λb n z=>by
  subst z;rcases i with r | r
  ·show d b n r
  ·rw[n]at r;cases r
 have c:∀b u,H b=KE u->¬Mut (KE u)->b≠x:=λb u q l z=>(by subst z;rw[q]at mu;show l mu);show{λb u q n _ _=>k b u (f b n) q,λb u q n _ _=>{u.slots,k b u (f b n) q},λb u q n _=>by rw[bc (d b n)];show n,λb u q _=>?_,λb xs q=>by rw[bc (c b _ q λz=>z)];show q,λb u xs q=>by rw[bc (c b _ q λz=>z)];show q,λb ps q=>{#[],by rw[bc (c b _ q λz=>z),q];simp}};by_cases g:b=e
 ·subst g;show j
 ·show{u,k b u g q}
end
def trk (h:MC)(H:Hp):List MB:=(bE h.objs.size).filter λa=>(H a).isSome
def ya (h:MC)(H:Hp):MC:=PySem.W.hideAll h (trk h H)
def Ve (h:MC)(H:Hp):(ya h H).objs.size=h.objs.size:=PySem.W.hideAll_size _ _
def Yx (e:h.get? b=KE o)(n:H b=LY):(ya h H).get? b=KE o:=
 PySem.W.hideAll_get _ e λa=>by
  have q:(H b).isSome=LZ:=(iG.mp a).2;rw[n]at q;simp at q
def ado (e:(ya h H).get? b=KE o):h.get? b=KE o/\H b=LY:=by
 have a:h.get? b=KE o:=PySem.W.of_hideAll (trk h H) e;show{a,?_};cases q:H b with
 |none=>rfl
 |some x=>
  have c:b∈trk h H:=List.mem_filter.mpr {dI.mpr (aU a),by simp[q]};have z:(ya h H).get? b=LY:=PySem.W.hideAll_none (trk h H) c;rw[z]at e;cases e
def adp (g h:MC)(L:MB):List (MB×Obj):=(bE h.objs.size).filterMap λa=>if a=L\/(g.get? a).isSome=LZ then LY else (h.get? a).map λo=>(a,o)
def rest (g h:MC)(L d:MB):List (MB×Obj):=(adp g h L).filter λp=>decide (p.1≠d)
structure Mod (K:aG)(mg:Str->Option aE)(base:MC):Prop where
 kin:K.In base
 glob:base.Ns bG mg
 blt:∃mb,base.Ns uA mb/\∀x:Str,x≠"__name__"->mb x=dW x
 nolimit:base.NoLimit
structure Cx where
 prog:aV
 w:bA
 K:aG
 mg:Str->Option aE
 base:MC
 A:bV
 N:List Str
 s₀:aH
 H₀:Hp
 env:Env
 outer:List Env
 stack:List Env
 ex:List MB
 fn:Str->Bool
 calm:Bool
 pn:List (MB×Obj)
 xe:aE->aH->Prop
def frs (l:List Env):List MB:=l.filterMap (·.frame)
abbrev Cx.fs (X:Cx):List MB:=frs X.outer
def Vis (a:mE)(x:Str):Prop:=a.names.lookup x=KE .local\/a.names.lookup x=KE .cell\/a.names.lookup x=KE .free
def Loc (a:mE)(x:Str):Prop:=a.names.lookup x=KE .local\/a.names.lookup x=KE .cell
def Look (env:Env)(h:MC)(m:Str->Option aE)(x:Str)(u:aE):Prop:=
 (env.kindOf x=KE .local/\m x=KE u)\/((env.kindOf x=KE .cell\/env.kindOf x=KE .free)/\∃c,env.cells.lookup x=KE c/\h.IsCell c (KE u))
structure Cx.Ok (X:Cx):Prop where
 mod:Mod X.K X.mg X.base
 kind:X.env.scope.kind=.function
 glob:X.env.globals=bG
 blt:X.env.builtins=uA
 above:X.s₀.heap.objs.size<=X.env.locals
 inj:∀x y c,X.env.cells.lookup x=KE c->X.env.cells.lookup y=KE c->x=y
 has:∀x,(X.env.kindOf x=KE .cell\/X.env.kindOf x=KE .free)->∃c,X.env.cells.lookup x=KE c
 cab:∀x c,X.fn x=LZ->X.env.cells.lookup x=KE c->X.s₀.heap.objs.size<=c
 hd:X.calm=LZ->X.A.handled=LY
 frames:X.A.frames=KE X.stack
 stk:X.stack=X.outer\/(X.stack=X.env::X.outer/\X.env.frame=KE X.env.locals)
 exf:∀b∈X.ex,b≠X.env.locals/\∀x c,X.env.cells.lookup x=KE c->c≠b
 bs:∀b o,X.base.get? b=KE o->X.s₀.heap.get? b=KE o/\X.H₀ b=LY
 bsz:X.base.objs.size<=X.s₀.heap.objs.size
 noex:∀b o,X.base.get? b=KE o->b ∉ X.ex
 exfs:∀b∈X.ex,b ∉ X.fs
 funs:X.s₀.heap.FunFrames X.base X.outer
 frf:∀b∈X.fs,X.H₀ b=LY
structure Inv (X:Cx)(f':List (MB×Obj))(σ:List (Option V))(H:Hp)(s:aH):Prop where
 ok:X.Ok
 os:s.os=X.s₀.os
 bare:nO s.gens
 base:Un X.fs X.ex X.H₀ H X.s₀.heap s.heap
 loc:∃m,s.heap.Ns X.env.locals m/\∀(i:Nat)(x:Str) (v:V),X.N[i]?=KE x->σ[i]?=KE (KE v)->Vis X.env.scope x->∃u,RelV v u/\Look X.env s.heap m x u
 cell:∀x c,X.env.cells.lookup x=KE c->∃v,s.heap.IsCell c v
 free:H X.env.locals=LY
 freeC:∀x c,X.env.cells.lookup x=KE c->H c=LY
 pin:∀p∈X.pn++f',s.heap.get? p.1=KE p.2/\H p.1=LY/\p.1≠X.env.locals/\p.1 ∉ X.fs/\∀v,p.2.data≠.cell v
 hok:HOk X.prog X.w H s.heap
 len:σ.length=X.N.length
section
variable {X:Cx}{f':List (MB×Obj)}{σ:List (Option V)}{H H':Hp}{s:aH}{h':MC}
def Cx.Ok.nofr (ok:X.Ok){b:MB}{o:Obj}(e:X.base.get? b=KE o):b ∉ X.fs:=λa=>by
 have:=(ok.funs.mem a).1;rw[e]at this;cases this
theorem Inv.bs (I:Inv X f' σ H s):∀b o,X.base.get? b=KE o->s.heap.get? b=KE o/\H b=LY:=λb o e=>
 {I.base.keep b o (I.ok.bs b o e).1 (I.ok.bs b o e).2 (I.ok.nofr e) (I.ok.noex b o e),I.base.free b o (I.ok.bs b o e).1 (I.ok.bs b o e).2 (I.ok.noex b o e)}
def Inv.bk (I:Inv X f' σ H s):∀b o,X.base.get? b=KE o->s.heap.get? b=KE o:=λb o e=>(I.bs b o e).1
theorem Inv.mod (I:Inv X f' σ H s):Mod X.K X.mg X.base:=I.ok.mod
def Inv.kIn (I:Inv X f' σ H s):X.K.In s.heap:=I.ok.mod.kin.keeps I.bk
theorem Inv.lt (I:Inv X f' σ H s):X.env.locals < ‹s›:=let ⟨_,a,_⟩:=I.loc;a.lt
def Inv.sz (I:Inv X f' σ H s):X.s₀.heap.objs.size<=‹s›:=bK I.ok.above (gR I.lt)
def Inv.nofs (I:Inv X f' σ H s){a:MB}(h:‹s›<=a):a ∉ X.fs:=λb=>by
 obtain⟨_,o,c,_⟩:=I.ok.funs.mem b;show MJ (bQ (aU c) (bK I.sz h)) (fR _)
def Inv.cne (I:Inv X f' σ H s):∀x c,X.env.cells.lookup x=KE c->c≠X.env.locals:=λx c e z=>by
 obtain⟨v,o,a,hd⟩:=I.cell x c e;obtain⟨m,⟨f,g,ep,b,d,_⟩,_⟩:=I.loc;rw[z,b]at a;cases a;rw[d]at hd;cases hd
theorem Inv.funs (I:Inv X f' σ H s):s.heap.FunFrames X.base X.outer:=by
 have all:∀(l:List Env),(∀b∈frs l,b∈X.fs)->X.s₀.heap.FunFrames X.base l->s.heap.FunFrames X.base l:=by
  intro l
  induction l with
  |nil=>intro _ _;trivial
  |cons env r f=>
   intro hs g;obtain⟨hk,⟨L,o,a,h,i,hd⟩,j⟩:=g;have c:L∈X.fs:=hs L (by unfold frs;rw[fY,a];show aQ);obtain⟨m,e⟩:=I.base.slot L o i (I.ok.frf L c) c λz=>I.ok.exfs L z c;show{hk,{L,_,a,h,e,hd},f (λb d=>hs b (by unfold frs;rw[fY,a];show aP _ d)) j}
 show all X.outer (λ_ d=>d) I.ok.funs
theorem Inv.stack (I:Inv X f' σ H s):s.heap.FunFrames X.base X.stack:=by
 rcases I.ok.stk with e | ⟨e,a⟩
 ·rw[e];show I.funs
 ·rw[e];obtain⟨m,b,_⟩:=I.loc;show .cons (by rw[I.ok.kind];decide) a b ?_ I.funs;show Heap.get?_none_of_le (bK I.ok.bsz I.ok.above)
def Inv.stkSub (I:Inv X f' σ H s):∀b∈frs X.stack,b∈X.env.locals::X.fs:=λb a=>by
 rcases I.ok.stk with e | ⟨e,c⟩
 ·rw[e]at a;show aP _ a
 ·rw[e]at a;unfold frs at a;rw[fY,c]at a;show a
def Inv.stkFree (I:Inv X f' σ H s):∀b∈frs X.stack,H b=LY:=λb hb=>by
 rcases aW.mp (I.stkSub b hb)with e | hb
 ·rw[e];show I.free
 ·obtain⟨_,o,a,_⟩:=I.ok.funs.mem hb;show I.base.free b o a (I.ok.frf b hb) λz=>I.ok.exfs b z hb
def Inv.step {g':Array rS}{t':Nat}{d':Drawn}{ch:List MB}(I:Inv X f' σ H s)
  (j:∀b∈ch,(b∈X.ex\/X.s₀.heap.objs.size<=b)/\b≠X.env.locals/\(∀x c,X.env.cells.lookup x=KE c->c≠b)/\∀p∈X.pn++f',p.1≠b)
  (keep:∀b o,b≠X.env.locals->b ∉ X.fs->b ∉ ch->s.heap.get? b=KE o->H b=LY->h'.get? b=KE o)
  (slot:∀b o,b≠X.env.locals->b∈X.fs->b ∉ ch->s.heap.get? b=KE o->H b=LY->∃E,h'.get? b=KE { o with slots:=E }) (free:∀b o,b ∉ ch->s.heap.get? b=KE o->H b=LY->H' b=LY)
  (there:∀b o,b ∉ ch->s.heap.get? b=KE o->∃y,h'.get? b=KE y)
  (tups:∀b xs,H b=KE (.tup xs)->H' b=KE (.tup xs)) (frzs:∀b o u,H b=KE (.frz o u)->H' b=KE (.frz o u)) (tbls:∀b ps,H b=KE (.tbl ps)->∃more,H' b=KE (.tbl (ps++more)))
  (ns:∀m,s.heap.Ns X.env.locals m->h'.Ns X.env.locals m) (hok:HOk X.prog X.w H' h') (T:nO g') :
  Inv X f' σ H' { s with heap:=h',gens:=g',drawn:=d',toks:=t' }:=by
 have J:∀b o,X.s₀.heap.get? b=KE o->b≠X.env.locals:=λb o e=>bJ (bQ (aU e) I.ok.above);have D:∀b o,X.s₀.heap.get? b=KE o->b ∉ X.ex->b ∉ ch:=λb o e a g=>by
  rcases(j b g).1 with z | z
  ·show a z
  ·show MJ (bQ (aU e) z) (fR _)
 have L:∀x c,X.env.cells.lookup x=KE c->∀v,s.heap.IsCell c v->h'.IsCell c v:=λx c e v ⟨o,h,hd⟩=>by
  have A:c ∉ ch:=λz=>(j c z).2.2.1 x c e rfl;by_cases N:c∈X.fs
  ·obtain⟨E,q⟩:=slot c o (I.cne x c e) N A h (I.freeC x c e);show{_,q,hd}
  ·show{o,keep c o (I.cne x c e) N A h (I.freeC x c e),hd}
 show{I.ok,I.os,T,{λb o e n g a=>?_,λb o e n g a=>?_,λb o e n a=>?_,λb o e a=>?_,λb xs e=>tups b xs (I.base.tups b xs e),λb o xs e=>frzs b o xs (I.base.frzs b o xs e),λb ps e=>?_},?_,λx c e=>?_,?_,λx c e=>?_,λp O=>?_,hok,I.len}
 ·show keep b o (J b o e) g (D b o e a) (I.base.keep b o e n g a) (I.base.free b o e n a)
 ·obtain⟨E,f⟩:=I.base.slot b o e n g a;obtain⟨G,C⟩:=slot b _ (J b o e) g (D b o e a) f (I.base.free b o e n a);show#v[G,C]
 ·obtain⟨y,f⟩:=I.base.there b o e a;show free b y (D b o e a) f (I.base.free b o e n a)
 ·obtain⟨y,f⟩:=I.base.there b o e a;show there b y (D b o e a) f
 ·obtain⟨U,f⟩:=I.base.tbls b ps e;obtain⟨Y,C⟩:=tbls b _ f;show{U++Y,by rw[C,Array.append_assoc]}
 ·obtain⟨m,hn,hl⟩:=I.loc;show{m,ns m hn,λi x v f C e3=>?_};obtain⟨u,r,l⟩:=hl i x v f C e3;show{u,r,?_};rcases l with l | ⟨k,c,e,z⟩
  ·show .inl l
  ·show .inr {k,c,e,L x c e _ z}
 ·obtain⟨v,z⟩:=I.cell x c e;show{v,L x c e v z}
 ·obtain⟨m,⟨o,_,_,h,_⟩,_⟩:=I.loc;show free _ o (λz=>(j _ z).2.1 rfl) h I.free
 ·obtain⟨v,o,h,hd⟩:=I.cell x c e;show free c o (λz=>(j c z).2.2.1 x c e rfl) h (I.freeC x c e)
 ·obtain⟨e,n,ne,Q,d⟩:=I.pin p O;have A:p.1 ∉ ch:=λz=>(j p.1 z).2.2.2 p O rfl;show{keep p.1 p.2 ne Q A e n,free p.1 p.2 A e n,ne,Q,d}
def Inv.un {t':Nat}(I:Inv X f' σ H s)(u:Un X.fs [] H H' s.heap h')(hok:HOk X.prog X.w H' h'):Inv X f' σ H' { s with heap:=h',toks:=t' }:=by
 obtain⟨m,⟨o,l,ep,c,r⟩,_⟩:=id I.loc;obtain⟨p,f⟩:=u.any c I.free ∅;show I.step (g':=s.gens) (d':=s.drawn) (ch:=[]) (λ_ z=>nomatch z) (λb o _ a _ e n=>u.keep b o e n a ∅) (λb o _ a _ e n=>u.slot b o e n a ∅) (λb o _ e n=>u.free b o e n ∅) (λb o _ e=>u.there b o e ∅) u.tups u.frzs u.tbls (λq g=>by
   obtain⟨x,h,i,d,j⟩:=g;rw[c]at d;cases d;show{_,h,i,f,j}) hok I.bare
def Inv.call {t':Nat}{ch:List MB}(I:Inv X f' σ H s)(u:Un (frs X.stack) ch H H' s.heap h')(hok:HOk X.prog X.w H' h')(i:nO g')
  (f:∀b∈ch,(b∈X.ex\/X.s₀.heap.objs.size<=b)/\b≠X.env.locals/\(∀x c,X.env.cells.lookup x=KE c->c≠b)/\∀p∈X.pn++f',p.1≠b) :
  Inv X f' σ H' { s with heap:=h',gens:=g',drawn:=d',toks:=t' }:=by
 obtain⟨m,⟨o,C,ep,g,r⟩,_⟩:=id I.loc;obtain⟨D,d⟩:=u.any g I.free λz=>(f _ z).2.1 rfl;show I.step (ch:=ch) f (λb o d j a e n=>u.keep b o e n (λz=>(aW.mp (I.stkSub b z)).elim d j) a) (λb o _ _ a e n=>u.any e n a) (λb o a e n=>u.free b o e n a) (λb o a e=>u.there b o e a) u.tups u.frzs u.tbls (λE l=>by
   obtain⟨G,q,y,h,A⟩:=l;rw[g]at h;cases h;show{_,q,y,d,A}) hok i
def Inv.turned {t':Nat}{it:MB}(I:Inv X f' σ H s)(k:∀b o,b≠it->s.heap.get? b=KE o->h'.get? b=KE o)(g:H it=LY)(d:it≠X.env.locals)
  (h:it∈X.ex\/X.s₀.heap.objs.size<=it) (i:∀x c,X.env.cells.lookup x=KE c->c≠it) (j:∀p∈X.pn++f',p.1≠it):Inv X f' σ H { s with heap:=h',toks:=t' }:=by
 have f:∀b u,H b=KE u->b≠it:=λb u e z=>(by rw[z,g]at e;cases e);show I.step (g':=s.gens) (d':=s.drawn) (ch:=[it]) (λb l=>?_) (λb o _ _ a e _=>k b o (λz=>a (by simp[z])) e) (λb o _ _ a e _=>{o.slots,k b o (λz=>a (by simp[z])) e}) (λ_ _ _ _ n=>n)
  (λb o a e=>{o,k b o (λz=>a (by simp[z])) e}) (λ_ _ e=>e) (λ_ _ _ e=>e) (λb ps e=>{#[],by rw[e];simp}) (λm w=>?_) (λb u e=>?_) I.bare
 ·have e:b=it:=(by simpa using l);subst e;show#v[h,d,i,j]
 ·obtain⟨o,y,ep,A,r⟩:=w;show{o,y,ep,k _ o (Ne.symm d) A,r}
 ·show(I.hok b u e).stay (λc v a q=>k c v ?_ q) (λ_ q=>q) λ_ _ q=>q;rcases a with z | z
  ·rw[z];show f b u e
  ·show f c _ z
def Inv.tok (I:Inv X f' σ H s)(t:Nat):Inv X f' σ H { s with toks:=t }:=I.un (h':=s.heap) (t':=t) Un.refl I.hok
theorem Inv.kept {t':Nat}(I:Inv X f' σ H s)(k:∀b u,s.heap.get? b=KE u->h'.get? b=KE u):Inv X f' σ H { s with heap:=h',toks:=t' }:=I.un (Un.kept k) (I.hok.kept k)
theorem Inv.laid {t':Nat}(I:Inv X f' σ H s)(k:∀b u,s.heap.get? b=KE u->h'.get? b=KE u)(c:‹s›<=a)(new:ObjOk X.prog X.w (upd H a o) h' a o) :
  Inv X f' σ (upd H a o) { s with heap:=h',toks:=t' }:=I.un (Un.laid k c (I.hok.fresh c)) (I.hok.laid k c new)
theorem Inv.write {x e:MB}{o:HO}{t':Nat}(I:Inv X f' σ H s)(mu:Mut (H x))(a:e=x\/H e=KE (.own x))(k:∀b u,b≠e->s.heap.get? b=KE u->h'.get? b=KE u)(c:∃u,h'.get? e=KE u)
  (new:ObjOk X.prog X.w (upd H x o) h' x o):Inv X f' σ (upd H x o) { s with heap:=h',toks:=t' }:=I.un (Un.write mu a k c) (I.hok.write mu a k c new)
def Inv.weak {a:List (Option V)}(I:Inv X f' σ H s)(b:a.length=σ.length)(w:∀(i:Nat) v,a[i]?=KE (KE v)->σ[i]?=KE (KE v)):Inv X f' a H s:=
 ⟨I.ok,I.os,I.bare,I.base,let ⟨m,c,d⟩:=I.loc;{m,c,λi x v e f g=>d i x v e (w i v f) g},I.cell,I.free,I.freeC,I.pin,I.hok,b.trans I.len⟩
def Inv.pins_of {a:List (MB×Obj)}(I:Inv X f' σ H s)(h:∀p∈a,s.heap.get? p.1=KE p.2/\H p.1=LY/\p.1≠X.env.locals/\p.1 ∉ X.fs/\∀v,p.2.data≠.cell v):Inv X a σ H s:=
 {I.ok,I.os,I.bare,I.base,I.loc,I.cell,I.free,I.freeC,λp b=>(dO.mp b).elim (λz=>I.pin p (eK _ z)) (h p),I.hok,I.len}
def Kf {N:List Str}(c:N.Nodup){i j:Nat}{x:Str}(a:N[i]?=KE x)(b:N[j]?=KE x):i=j:=by
 obtain⟨f,d⟩:=bH.mp a;obtain⟨g,e⟩:=bH.mp b;show(List.getElem_inj c).mp (d.trans e.symm)
def Hh {M:uB}{A:bV}{E:aE->aH->Prop}{i:Nat}{x:Str}{v:V}{u:aE}{Q:Unit->aH->Prop}(I:Inv X f' σ H s)(hN:X.N.Nodup)(hi:X.N[i]?=KE x)(g:Loc X.env.scope x)(r:RelV v u)
  (h:∀s',Inv X f' (σ.set i (KE v)) H s'->(∃a,dZ a s.heap s'.heap/\(a=X.env.locals\/X.env.cells.lookup x=KE a))->Q Unit.unit s') (hf:X.fn x=LZ\/X.env.scope.names.lookup x=KE .local:=by first | show .inl rfl | show .inr rfl | assumption):aL M A (storeName X.env x u) Q E s:=by
 obtain⟨m,T,hl⟩:=id I.loc;have G:(X.env.scope.kind == .class || (X.env.scope.kind == .module && X.env.locals != X.env.globals))=MA:=(by rw[I.ok.kind];rfl);have FL:i < σ.length:=(by rw[I.len];show(bH.mp hi).1);have cne:=I.cne;have BA:∀{a:MB}{h':MC},(∃o,s.heap.get? a=KE o/\H a=LY)->dZ a s.heap h'->HOk X.prog X.w H h':=λ{a h'} ha hs b ob e=>by
  obtain⟨_,_,DN⟩:=ha;show(I.hok b ob e).stay (λc L hc q=>(hs.2 c ?_).trans q) (λ_ q=>q) λ_ _ q=>q;intro U;subst U;rcases hc with rfl | hc
  ·rw[DN]at e;cases e
  ·rw[DN]at hc;cases hc
 rcases g with hk | hk
 ·show wpAny_storeName_local hk T (λh' JV hs=>?_) G;obtain⟨oL,_,_,EB,_⟩:=id T;show h _ {I.ok,I.os,I.bare,{λb o e n C g=>?_,λb o e n C g=>?_,I.base.free,λb o e g=>?_,I.base.tups,I.base.frzs,I.base.tbls},{_,JV,λj y Y f l e3=>?_},λy c e=>?_,I.free,I.freeC,λp hp=>?_,BA #v[oL,EB,I.free] hs,by simpa using I.len} {_,hs,.inl rfl}
  ·show(hs.2 b (bJ (bQ (aU e) I.ok.above))).trans (I.base.keep b o e n C g)
  ·obtain⟨sl,f⟩:=I.base.slot b o e n C g;show{sl,(hs.2 b (bJ (bQ (aU e) I.ok.above))).trans f}
  ·obtain⟨o',f⟩:=I.base.there b o e g;show{o',(hs.2 b (bJ (bQ (aU e) I.ok.above))).trans f}
  ·by_cases D:j=i
   ·subst D;rw[hi]at f;cases f;rw[cY FL]at l;cases l;show{u,r,.inl {hk,by simp}}
   ·rw[cM (Ne.symm D)]at l;obtain⟨u',r',q⟩:=hl j y Y f l e3;show{u',r',?_};rcases q with⟨k,e⟩ | ⟨k,c,e,z⟩
    ·show .inl {k,?_};have:y≠x:=λe=>D (Kf hN f (e ▸ hi));simp[this,e]
    ·show .inr {k,c,e,z.sameBut hs (cne y c e)}
  ·obtain⟨L,z⟩:=I.cell y c e;show{L,z.sameBut hs (cne y c e)}
  ·obtain⟨e,n,ne,nf,d⟩:=I.pin p hp;show{(hs.2 p.1 ne).trans e,n,ne,nf,d}
 ·have HW:X.fn x=LZ:=by
   rcases hf with z | z
   ·show z
   ·rw[z]at hk;cases hk
  obtain⟨c,hc⟩:=I.ok.has x (.inl hk);obtain⟨L,z⟩:=I.cell x c hc;show wpAny_storeName_cell I.ok.kind hk hc z (λh' FM hs=>?_);obtain⟨oc,JW,J⟩:=id z;show h { s with heap:=h' } {I.ok,I.os,I.bare,{λb o e n C g=>?_,λb o e n C g=>?_,I.base.free,λb o e g=>?_,I.base.tups,I.base.frzs,I.base.tbls},{m,T.sameBut hs (Ne.symm (cne x c hc)),λj y Y f l e3=>?_},λy O e=>?_,I.free,I.freeC,λp hp=>?_,BA {oc,JW,I.freeC x c hc} hs,by simpa using I.len} {c,hs,.inr hc}
  ·show(hs.2 b (bJ (bQ (aU e) (I.ok.cab x c HW hc)))).trans (I.base.keep b o e n C g)
  ·obtain⟨sl,f⟩:=I.base.slot b o e n C g;show{sl,(hs.2 b (bJ (bQ (aU e) (I.ok.cab x c HW hc)))).trans f}
  ·obtain⟨o',f⟩:=I.base.there b o e g;show{o',(hs.2 b (bJ (bQ (aU e) (I.ok.cab x c HW hc)))).trans f}
  ·by_cases D:j=i
   ·subst D;rw[hi]at f;cases f;rw[cY FL]at l;cases l;show{u,r,.inr {.inl hk,c,hc,FM}}
   ·rw[cM (Ne.symm D)]at l;obtain⟨u',r',q⟩:=hl j y Y f l e3;show{u',r',?_};rcases q with q | ⟨k,O,e,z'⟩
    ·show .inl q
    ·show .inr {k,O,e,z'.sameBut hs ?_};intro U;subst U;show D (Kf hN f (I.ok.inj _ _ _ e hc ▸ hi))
  ·by_cases JX:O=c
   ·subst JX;show{_,FM}
   ·obtain⟨w2,z2⟩:=I.cell y O e;show{w2,z2.sameBut hs JX}
  ·obtain⟨e,n,ne,nf,d⟩:=I.pin p hp;show{(hs.2 p.1 ?_).trans e,n,ne,nf,d};intro q;rw[q,JW]at e;have q':oc=p.2:=bU e;show d L (by rw[<-q'];show J)
def p8 {M:uB}{A:bV}{E:aE->aH->Prop}{i:Nat}{x:Str}{v:V}{u:aE}{Q:Unit->aH->Prop}(I:Inv X f' σ H s)(a:X.N.Nodup)(hi:X.N[i]?=KE x)(b:Loc X.env.scope x)(r:RelV v u)
  (h:∀s',Inv X f' (σ.set i (KE v)) H s'->Q Unit.unit s') (c:X.fn x=LZ\/X.env.scope.names.lookup x=KE .local:=by first | show .inl rfl | show .inr rfl | assumption):aL M A (storeName X.env x u) Q E s:=
 Hh I a hi b r (λs' d _=>h s' d) c
def Inv.call' {s':aH}(I:Inv X f' σ H s)(a:s'.os=s.os)(u:Un (frs X.stack) ch H H' s.heap s'.heap)(hok:HOk X.prog X.w H' s'.heap)(d:nO s'.gens)
  (f:∀b∈ch,(b∈X.ex\/X.s₀.heap.objs.size<=b)/\b≠X.env.locals/\(∀x c,X.env.cells.lookup x=KE c->c≠b)/\∀p∈X.pn++f',p.1≠b):Inv X f' σ H' s':=by
 obtain⟨h',g',d',t',g⟩:=s';have e:g=s.os:=a;subst e;show I.call (g':=g') (t':=t') (d':=d') u hok d f
end
abbrev XK:=aE->Option MB->Hp->Prop
abbrev St:=List (Option V)
abbrev VK:=V->Hp->Prop
abbrev TE:=St->Hp->VK->Prop
abbrev TT:=St->Hp->(Bool->Hp->Prop)->Prop
abbrev TA:=St->Hp->(List V->Hp->Prop)->Prop
structure Sl where
 nx:St->Hp->Prop
 rt:VK
 bk:St->Hp->Prop:=λ_ _=>False
 ct:St->Hp->Prop:=λ_ _=>False
abbrev TS:=Sl->St->Hp->Prop
def EP (X:Cx)(a:List (MB×Obj))(b:St)(Q:VK)(u:aE)(s':aH):Prop:=∃v H',Inv X a b H' s'/\RelV v u/\Q v H'
def TP (X:Cx)(a:List (MB×Obj))(c:St)(Q:Bool->Hp->Prop)(b:Bool)(s':aH):Prop:=∃H',Inv X a c H' s'/\Q b H'
def AP (X:Cx)(a:List (MB×Obj))(b:St)(Q:List V->Hp->Prop)(us:List aE)(s':aH):Prop:=∃vs H',Inv X a b H' s'/\Vals vs us/\Q vs H'
def SP (X:Cx)(b:List (MB×Obj))(D:Sl)(f:Flow)(s':aH):Prop:=
 match f with
 | .next=>∃a H',Inv X b a H' s'/\D.nx a H'
 | .brk=>∃a H',Inv X b a H' s'/\D.bk a H'
 | .cont=>∃a H',Inv X b a H' s'/\D.ct a H'
 | .ret u=>∃v a H',Inv X b a H' s'/\RelV v u/\D.rt v H'
def PE (X:Cx)(e:MD)(t:TE):Prop:=
 ∀(b:List (MB×Obj))(s:aH) (a:St) (H:Hp) (Q:VK),Inv X b a H s->t a H Q->aL (aX X.prog X.w) X.A (eval e X.env) (EP X b a Q) X.xe s
def PT (X:Cx)(e:MD)(t:TT):Prop:=
 ∀(b:List (MB×Obj))(s:aH) (a:St) (H:Hp) (Q:Bool->Hp->Prop),Inv X b a H s->t a H Q->aL (aX X.prog X.w) X.A (sL e X.env (eval e X.env)) (TP X b a Q) X.xe s
def PW (X:Cx)(e:MD)(t:TT):Prop:=
 ∀(c:Sem aE)(b:List (MB×Obj)) (s:aH) (a:St) (H:Hp) (Q:Bool->Hp->Prop),Inv X b a H s->t a H Q->aL (aX X.prog X.w) X.A (sL e X.env c) (TP X b a Q) X.xe s
def PW.pt {X:Cx}{e:MD}{t:TT}(h:PW X e t):PT X e t:=h _
def PA (X:Cx)(d:List MD)(t:TA):Prop:=
 ∀(a:Pos)(c:List (MB×Obj)) (s:aH) (b:St) (H:Hp) (Q:List V->Hp->Prop),Inv X c b H s->t b H Q->aL (aX X.prog X.w) X.A (tK (dP a (aN d X.env))) (AP X c b Q) X.xe s
def PS (X:Cx)(st:ME)(t:TS):Prop:=
 ∀(a:List (MB×Obj))(s:aH) (b:St) (H:Hp) (D:Sl),Inv X a b H s->t D b H->aL (aX X.prog X.w) X.A (exec st X.env) (SP X a D) X.xe s
def PSs (X:Cx)(st:List ME)(t:TS):Prop:=
 ∀a s b H D,Inv X a b H s->t D b H->aL (aX X.prog X.w) X.A (execs st X.env) (SP X a D) X.xe s
def thn {b:Type}{t:Sem b}{Q c:b->aH->Prop}{M:uB}{A:bV}{E:aE->aH->Prop}{s:aH}(h:aL M A t Q E s)(d:∀a s,Q a s->c a s):aL M A t c E s:=iR h d λ_ _ x=>x
section
variable {X:Cx}
def Sn (i:Nat):TE:=λa H Q=>∃v,a[i]?=KE (KE v)/\Q v H
def tC (v:V):TE:=λ_ H Q=>Q v H
def ug {i:Nat}{x:Str}{a:Pos}(g:X.N[i]?=KE x)(j:Vis X.env.scope x)(hd:(x == ("__debug__":Str))=MA:=by decide)(n:(x == ("__classdict__":Str))=MA:=by decide):PE X (.Name x a) (Sn i):=by
 intro o s p H Q I h;obtain⟨v,e,h⟩:=h;obtain⟨m,q,w⟩:=I.loc;obtain⟨u,r,l⟩:=w i x v g e j;have b:EP X o p Q u s:=#v[v,H,I,r,h];rcases l with⟨hk,y⟩ | ⟨hk,c,d,f⟩
 ·show uC (wpAny_loadName_local I.ok.kind hk q y b) hd
 ·rcases hk with hk | hk
  ·show uC (wpAny_loadName_cell I.ok.kind hk d f b) hd
  ·show uC (wpAny_loadName_free I.ok.kind hk d f b n) hd
def Kg {i j a}:PE X (.Constant (.int i) j a) (tC (.int i)):=λ_ _ _ H _ I h=>wpAny_Constant_int {.int i,H,I.tok _,{_,rfl},h}
def pe_bl:PE X (.Constant (.bool b) j a) (tC (.bl b)):=λ_ _ _ H _ I h=>Constant_bool {.bl b,H,I,rfl,h}
def ahn:PE X (.Constant .none j a) (tC .non):=λ_ _ _ H _ I h=>Constant_none {.non,H,I,rfl,h}
def aho:PE X (.Constant (.str x) j a) (tC (.str x)):=λ_ _ _ H _ I h=>Calls.Constant_str {.str x,H,I.tok _,{_,rfl},h}
def Gl (X:Cx)(x:Str):Prop:=X.env.kindOf x=KE .globalImplicit
def Bf {E:aE->aH->Prop}{b:List (MB×Obj)}{s:aH}{c:St}{H:Hp}{x:Str}{u:aE}{a:Pos}{Q:aE->aH->Prop}(I:Inv X b c H s)(d:Gl X x)(e:X.mg x=KE u)(h:Q u s)
  (hd:(x == ("__debug__":Str))=MA:=by decide):aL (aX X.prog X.w) X.A (eval (.Name x a) X.env) Q E s:=
 Calls.Name_function_global I.ok.kind d (Calls.loadGlobal_global (by rw[I.ok.glob];show I.mod.glob.keeps I.bk) e h) hd
def kh {E:aE->aH->Prop}{b:List (MB×Obj)}{s:aH}{c:St}{H:Hp}{x:Str}{u:aE}{a:Pos}{Q:aE->aH->Prop}(I:Inv X b c H s)(d:Gl X x)(e:X.mg x=LY)(f:dW x=KE u)(h:Q u s)
  (g:x≠"__name__":=by decide) (hd:(x == ("__debug__":Str))=MA:=by decide):aL (aX X.prog X.w) X.A (eval (.Name x a) X.env) Q E s:=by
 obtain⟨l,i,j⟩:=I.mod.blt;show Calls.Name_function_global I.ok.kind d (Calls.loadGlobal_builtin (by rw[I.ok.glob];show I.mod.glob.keeps I.bk) e (by rw[I.ok.blt];show i.keeps I.bk) ((j x g).trans f) h) hd
def adq {x:Str}{v:V}{u:aE}{a:Pos}(b:Gl X x)(c:X.mg x=KE u)(r:RelV v u)(hd:(x == ("__debug__":Str))=MA:=by decide):PE X (.Name x a) (tC v):=
 λ_ _ _ H _ I h=>Bf I b c #v[v,H,I,r,h] hd
def ads {x:Str}{v:V}{u:aE}{a:Pos}(b:Gl X x)(c:X.mg x=LY)(d:dW x=KE u)(r:RelV v u)(e:x≠"__name__":=by decide)(hd:(x == ("__debug__":Str))=MA:=by decide):PE X (.Name x a) (tC v):=
 λ_ _ _ H _ I h=>kh I b c d #v[v,H,I,r,h] e hd
variable {a b:MD}{ta tb:TE}{pos:Pos}
def tB (t:TE):TT:=λd H Q=>t d H λx e=>∃c,x=.bl c/\Q c e
variable {tA HB:TT}{rest:List MD}
def tAnd (t u:TT):TT:=λd H Q=>t d H λc e=>if c=LZ then u d e Q else Q MA e
def tOr (t u:TT):TT:=λd H Q=>t d H λc e=>if c=LZ then Q LZ e else u d e Q
def tNot (t:TT):TT:=λd H Q=>t d H λc e=>Q (!c) e
def adt (d:PT X a tA):PW X (.BoolOp .And [a] pos) tA:=by
 intro i f s g H Q I h;show isTrue_and (thn (d f s g H Q I h) λc j e=>?_);cases c with
 |true=>show isTrue_and_nil e
 |false=>show e
def ahp (d:PT X a tA):PW X (.BoolOp .Or [a] pos) tA:=by
 intro i f s g H Q I h;show isTrue_or (thn (d f s g H Q I h) λc j e=>?_);cases c with
 |false=>show isTrue_or_nil e
 |true=>show e
def ahq (j:PT X a tA)(l:PW X (.BoolOp .And (b::rest) pos) HB):PW X (.BoolOp .And (a::b::rest) pos) (tAnd tA HB):=by
 intro m d s e H Q I h;show isTrue_and (thn (j d s e H _ I h) λc n o=>?_);obtain⟨f,g,i⟩:=o;cases c with
 |true=>show l m d n e f Q g i
 |false=>show#v[f,g,i]
def pw_or (j:PT X a tA)(l:PW X (.BoolOp .Or (b::rest) pos) HB):PW X (.BoolOp .Or (a::b::rest) pos) (tOr tA HB):=by
 intro m d s e H Q I h;show isTrue_or (thn (j d s e H _ I h) λc n o=>?_);obtain⟨f,g,i⟩:=o;cases c with
 |true=>show#v[f,g,i]
 |false=>show l m d n e f Q g i
def ahr (d:PT X a tA):PT X (.UnaryOp .Not a pos) (tNot tA):=by
 intro e s f H Q I h;show isTrue_not (d e s f H (λc g=>Q (!c) g) I h)
def tAndV (ta tb:TE):TE:=λd H Q=>ta d H λx e=>∃c,x=.bl c/\if c=LZ then tb d e Q else Q (.bl MA) e
def ahs {op}{t:TE}(h:PE X a t):PE X (.BoolOp op [a] pos) t:=λc s d H Q I hw=>BoolOp_one (h c s d H Q I hw)
def aht (j:PE X a ta)(l:PE X (.BoolOp .And (b::rest) pos) tb):PE X (.BoolOp .And (a::b::rest) pos) (tAndV ta tb):=by
 intro e s f H Q I h;show BoolOp_and (thn (j e s f H _ I h) λv m n=>?_);obtain⟨x,g,i,o,d⟩:=n;obtain⟨c,rfl,d⟩:=d;cases o;show kQ ?_;cases c with
 |true=>show l e m f g Q i d
 |false=>show{.bl MA,g,i,rfl,d}
def tIf (t:TT)(ta tb:TE):TE:=λd H Q=>t d H λc e=>if c=LZ then ta d e Q else tb d e Q
def Yy {c:MD}(m:PT X c tA)(n:PE X a ta)(o:PE X b tb):PE X (.IfExp c a b pos) (tIf tA ta tb):=by
 intro e s f H Q I h;show wpAny_IfExp (thn (m e s f H _ I h) λd g p=>?_);obtain⟨i,j,l⟩:=p;cases d with
 |true=>show n e g f i Q j l
 |false=>show o e g f i Q j l
end
def SqL (K:aG)(H:Hp)(a:MB)(xs:List V):Prop:=
 Rd H a (.lst xs)\/
  ∃o its n,K.lookup a=KE o/\o.cls=.type "list"/\o.dict=LY/\o.data=.seq its n/\its.size<=sizeLine/\Vals xs its.toList
def SqT (K:aG)(H:Hp)(a:MB)(xs:List V):Prop:=
 Rd H a (.tup xs)\/
  ∃o its n,K.lookup a=KE o/\o.cls=.type "tuple"/\o.data=.seq its n/\its.size<=sizeLine/\Vals xs its.toList
def absV:aE->Option V
 | .none=>KE .non
 | .bool b=>KE (.bl b)
 | .int i _=>KE (.int i)
 | .str x _=>KE (.str x)
 | .bytes b _=>KE (.byt b)
 | .float b _=>KE (.flt b)
 | .ref a=>KE (.ref a)
 | .type n=>KE (.ty n)
 |_=>LY
def RelV.abs {x:V}{u:aE}(r:RelV x u):absV u=KE x:=by
 cases x with
 |non=>cases r;rfl
 |bl _=>cases r;rfl
 |int _=>obtain⟨t,rfl⟩:=r;rfl
 |str _=>obtain⟨t,rfl⟩:=r;rfl
 |byt _=>obtain⟨t,rfl⟩:=r;rfl
 |flt _=>obtain⟨t,rfl⟩:=r;rfl
 |ref _=>cases r;rfl
 |ty _=>cases r;rfl
def RelV.inj {x y:V}{u:aE}(r:RelV x u)(q:RelV y u):x=y:=bU (r.abs.symm.trans q.abs)
theorem Vals.inj:∀{xs ys:List V}{us:List aE},Vals xs us->Vals ys us->xs=ys
 |_,_,_,.nil,.nil=>rfl
 |_,_,_,.cons r t,.cons a t'=>by rw[r.inj a,Vals.inj t t']
section
variable {X:Cx}{f':List (MB×Obj)}{σ:St}{H:Hp}{s:aH}{a:MB}{xs ys:List V}
def SqL.of {K:aG}(h:H a=KE (.lst xs)):SqL K H a xs:=.inl (.inl h)
def SqT.of {K:aG}(h:H a=KE (.tup xs)):SqT K H a xs:=.inl (.inl h)
def Inv.list (I:Inv X f' σ H s)(h:SqL X.K H a xs):∃its:List aE,Vals xs its/\PlainL s.heap a its.toArray/\xs.length<=sizeLine:=by
 rcases h with h | ⟨o,its,n,hk,b,hd,hs,hz,r⟩
 ·obtain⟨z,its,n,r,e⟩:=h.ok I.hok;show{its,r,{_,n,e,rfl,rfl,rfl},z}
 ·show{its.toList,r,{o,n,I.kIn a o hk,b,hd,by simpa using hs},?_};have e:=r.length;simp only[cQ]at e;lia
def Inv.tuple (I:Inv X f' σ H s)(h:SqT X.K H a xs):∃its:List aE,Vals xs its/\tJ s.heap a its.toArray/\xs.length<=sizeLine:=by
 rcases h with h | ⟨o,its,n,hk,b,hs,hz,r⟩
 ·obtain⟨z,its,r,p⟩:=h.ok I.hok;show#v[its,r,p,z]
 ·show{its.toList,r,{o,I.kIn a o hk,b,n,by simpa using hs},?_};have e:=r.length;simp only[cQ]at e;lia
def Inv.list_inj (I:Inv X f' σ H s)(h:SqL X.K H a xs)(h':SqL X.K H a ys):xs=ys:=by
 obtain⟨its,r,⟨o,n,e,_,_,d⟩,_⟩:=I.list h;obtain⟨its',c,⟨g,i,b,_,_,d'⟩,_⟩:=I.list h';rw[e]at b;cases b;rw[d]at d';injection d' with f _;have:its=its':=(by simpa using ML Array.toList f);subst this;show r.inj c
def Inv.tuple_inj (I:Inv X f' σ H s)(h:SqT X.K H a xs)(h':SqT X.K H a ys):xs=ys:=by
 obtain⟨its,r,⟨o,e,_,n,d⟩,_⟩:=I.tuple h;obtain⟨its',c,⟨g,b,_,i,d'⟩,_⟩:=I.tuple h';rw[e]at b;cases b;rw[d]at d';injection d' with f _;have:its=its':=(by simpa using ML Array.toList f);subst this;show r.inj c
end
abbrev Cx.wish (X:Cx)(E:aE->aH->Prop):Cx:={ X with xe:=E }
abbrev Cx.nox (X:Cx):Cx:=X.wish λ_ _=>False
theorem Cx.Ok.wish {X:Cx}(ok:X.Ok)(E:aE->aH->Prop):(X.wish E).Ok:=
 #v[ok.mod,ok.kind,ok.glob,ok.blt,ok.above,ok.inj,ok.has,ok.cab,ok.hd,ok.frames,ok.stk,ok.exf,ok.bs,ok.bsz,ok.noex,ok.exfs,ok.funs,ok.frf]
def Cx.Ok.unwish {X:Cx}{E:aE->aH->Prop}(ok:(X.wish E).Ok):X.Ok:=
 #v[ok.mod,ok.kind,ok.glob,ok.blt,ok.above,ok.inj,ok.has,ok.cab,ok.hd,ok.frames,ok.stk,ok.exf,ok.bs,ok.bsz,ok.noex,ok.exfs,ok.funs,ok.frf]
section
variable {X:Cx}{f':List (MB×Obj)}{σ:St}{H:Hp}{s:aH}{E:aE->aH->Prop}
theorem Inv.wish (I:Inv X f' σ H s)(E:aE->aH->Prop):Inv (X.wish E) f' σ H s:={I.ok.wish E,I.os,I.bare,I.base,I.loc,I.cell,I.free,I.freeC,I.pin,I.hok,I.len}
theorem Inv.unwish (I:Inv (X.wish E) f' σ H s):Inv X f' σ H s:=#v[I.ok.unwish,I.os,I.bare,I.base,I.loc,I.cell,I.free,I.freeC,I.pin,I.hok,I.len]
theorem SP.unwish (h:SP (X.wish E) f' D f s'):SP X f' D f s':=by
 cases f with
 |next=>obtain⟨a,H',I,q⟩:=h;show#v[a,H',I.unwish,q]
 |brk=>obtain⟨a,H',I,q⟩:=h;show#v[a,H',I.unwish,q]
 |cont=>obtain⟨a,H',I,q⟩:=h;show#v[a,H',I.unwish,q]
 |ret u=>obtain⟨v,a,H',I,r,q⟩:=h;show#v[v,a,H',I.unwish,r,q]
theorem PSs.nox {st:List ME}{t:TS}(h:PSs X.nox st t):PSs X st t:=λf' s σ H D I hw=>
 iR (h f' s σ H D (I.wish _) hw) (λ_ _ q=>q.unwish) λ_ _ z=>gY z
end
section
variable {X:Cx}{st:ME}{rest:List ME}{t u:TS}{e:MD}{te:TE}{pos:Pos}
def tNext:TS:=λD a H=>D.nx a H
def tSeq (t u:TS):TS:=λD a H=>t { D with nx:=u D } a H
def adu:PSs X [] tNext:=λ_ _ a H _ I h=>nV #v[a,H,I,h]
def Cw (c:PS X st t)(d:PSs X rest u):PSs X (st::rest) (tSeq t u):=by
 intro b s g H D I h;show wpAny_execs_cons (thn (c b s g H { D with nx:=u D } I h) λf i q=>?_);cases f with
 |next=>
  obtain⟨a,H',j,q⟩:=q;show d b i a H' D j q
 |ret v=>show q
 |brk=>show q
 |cont=>show q
def adw (a:PS X st t):PSs X [st] t:=by
 intro b s c H D I h;show wpAny_execs_cons (thn (a b s c H D I h) λf d q=>?_);cases f with
 |next=>show nV q
 |ret v=>show q
 |brk=>show q
 |cont=>show q
def Inv.quiet {a:List (MB×Obj)}{b:St}{H:Hp}{s:aH}(I:Inv X a b H s):interactive X.env=MA:=by simp[interactive,I.ok.kind]
def tDrop (te:TE):TS:=λD a H=>te a H λ_ b=>D.nx a b
def adx (b:PE X e te)(hs:kA e LY pos.line X.env=pure MA:=by rfl):PS X (.Expr e pos) (tDrop te):=by
 intro c s a H D I h;show wpAny_Expr_any (thn (b c s a H _ I h) λv j d=>by obtain⟨x,f,g,l,i⟩:=d;show#v[a,f,g,i]) I.quiet hs
def tRet (te:TE):TS:=λD a H=>te a H D.rt
def ahu (b:PE X e te):PS X (.Return (KE e) pos) (tRet te):=by
 intro c s a H D I h;show wpAny_Return_some (thn (b c s a H _ I h) λv l d=>by obtain⟨x,f,g,i,j⟩:=d;show#v[x,a,f,g,i,j])
def tIfS (c:TT)(t u:TS):TS:=λD a H=>c a H λb d=>if b=LZ then t D a d else u D a d
def ps_if {a b:List ME}(n:PT X c o)(p:PSs X a t)(q:PSs X b u):PS X (.If c a b pos) (tIfS o t u):=by
 intro f s g H D I h;show wpAny_If (thn (n f s g H _ I h) λd i r=>?_);obtain⟨j,l,m⟩:=r;cases d with
 |true=>show p f i g j D l m
 |false=>show q f i g j D l m
end
abbrev TG:=V->St->Hp->(St->Hp->Prop)->Prop
abbrev TGs:=List V->St->Hp->(St->Hp->Prop)->Prop
def PG (X:Cx)(a:MD)(t:TG):Prop:=
 ∀c s d H v u Q,Inv X c d H s->RelV v u->t v d H Q->
  aL (aX X.prog X.w) X.A (lO a X.env u) (λ_ s'=>∃b H',Inv X c b H' s'/\Q b H') X.xe s
def PGs (X:Cx)(d:List MD)(t:TGs):Prop:=
 ∀b s c H vs us Q,Inv X b c H s->Vals vs us->t vs c H Q->
  aL (aX X.prog X.w) X.A (assignInOrder ((jJ d X.env).map (·.2)) us) (λ_ s'=>∃a H',Inv X b a H' s'/\Q a H') X.xe s
abbrev Kh:=V->V->V->Hp->(Hp->Prop)->Prop
def So (X:Cx)(t:Kh):Prop:=
 ∀a s b H o i v c iv u Q,Inv X a b H s->RelV o c->RelV i iv->RelV v u->t o i v H Q->
  aL (aX X.prog X.w) X.A (uO c iv u) (λ_ s'=>∃H',Inv X a b H' s'/\Q H') X.xe s
abbrev TIp:=V->V->Hp->VK->Prop
def PIp (X:Cx)(op:Operator)(t:TIp):Prop:=
 ∀a s b H x y v u Q,Inv X a b H s->RelV x v->RelV y u->t x y H Q->
  aL (aX X.prog X.w) X.A (inplaceOp op v u) (EP X a b Q) X.xe s
section
variable {X:Cx}{pos:Pos}
def Bg (i:Nat):TG:=λv a H Q=>Q (a.set i (KE v)) H
def nr {i:Nat}{x:Str}(a:X.N.Nodup)(hi:X.N[i]?=KE x)(b:Loc X.env.scope x)(c:X.fn x=LZ\/X.env.scope.names.lookup x=KE .local:=by first | show .inl rfl | show .inr rfl | assumption):PG X (.Name x pos) (Bg i):=by
 intro e s f H v u Q I r h;show wpAny_assign_Name (p8 I a hi b r (λs' d=>{_,H,d,h}) c)
def Yz:TGs:=λvs a H Q=>vs=[]/\Q a H
def J4 (t:TG)(u:TGs):TGs:=λvs b H Q=>∃v r,vs=v::r/\t v b H λa H'=>u r a H' Q
def Fg:PGs X [] Yz:=by
 intro b s a H vs us Q I r h;obtain⟨e,h⟩:=h;subst e;cases r;show assignInOrder_nil #v[a,H,I,h]
def p9 {e:MD}{a:List MD}{t:TG}{u:TGs}(d:PG X e t)(f:PGs X a u)
  (hs:(jJ (e::a) X.env).map (·.2)=lO e X.env::(jJ a X.env).map (·.2):=by rfl):PGs X (e::a) (J4 t u):=by
 intro c s g H vs us Q I r h;obtain⟨v,q,i,h⟩:=h;subst i;cases r with
 |cons r j=>
  rw[hs];show assignInOrder_cons (thn (d c s g H _ _ _ I r h) λ_ l m=>?_);obtain⟨b,n,o,p⟩:=m;show f c l b n _ _ Q o j p
def gTup (K:aG)(n:Nat)(t:TGs):TG:=λv b H Q=>∃a xs,v=.ref a/\SqT K H a xs/\xs.length=n/\t xs b H Q
def Vf {c:List MD}{k:Nat}{t:TGs}{n:Nat}(i:X.calm=LZ)(h:PGs X c t)
  (j:(jJ c X.env).length=n:=by rfl) (l:(jJ c X.env).findIdx? (·.1)=LY:=by rfl):PG X (.Tuple c k pos) (gTup X.K n t):=by
 intro d s f H v u Q I r hw;obtain⟨a,xs,m,p,q,hw⟩:=hw;subst m;cases r;obtain⟨its,g,w,hz⟩:=I.tuple p;show assign_Tuple_tuple (I.ok.hd i) w (by simp[j,<-q,g.length]) l λh' x=>?_;have y:Inv X d f H { s with heap:=h' }:=I.kept (t':=s.toks) λb o e=>x b o (bJ (aU e)) e;show h d _ f H xs _ Q y (by simpa using g) hw
def gSub (to b:TE)(t:Kh):TG:=λv a H Q=>to a H λo c=>b a c λi d=>t o i v d λe=>Q a e
def Vg {o i:MD}{to e:TE}{t:Kh}(f:PE X o to)(hi:PE X i e)(hs:So X t)
  (g:∀v,lO (.Subscript o i pos) X.env v=(do
    let a <-jZ [v] (eval o X.env)
    let iv <-jZ [v,a] (eval i X.env)
    oV pos
    jZ [v,a,iv] (uO a iv v)
    release [v,a,iv] []):=by intro _;rfl):PG X (.Subscript o i pos) (gSub to e t):=by
 intro d s c H v u Q I r h;rw[g];show aA (dB (thn (f d s c H _ I h) λa j b=>?_));obtain⟨x,l,m,n,p⟩:=b;show aA (dB (thn (hi d j c l _ m p) λiv q b=>?_));obtain⟨y,w,I2,z,A⟩:=b;show aA (pO (aA (dB (thn (hs d q c w x y v a iv u _ I2 n z r A) λ_ G b=>?_))));obtain⟨C,D,E⟩:=b;show wpAny_release #v[c,C,D,E]
def Y0 (te:TE)(g:TG):TS:=λD a H=>te a H λx b=>g x a b D.nx
def Ki {a e:MD}{te:TE}{g:TG}(d:PE X e te)(f:PG X a g)(hs:rY [a] e pos.line X.env=pure MA:=by rfl)(hw:rZ [a] e X.env=pure LY:=by rfl)
  (i:(jJ [a] X.env).map (·.2)=[lO a X.env]:=by rfl):PS X (.Assign [a] e pos) (Y0 te g):=by
 intro b s c H D I h;show wpAny_Assign_stores (thn (d b s c H _ I h) λv j l=>?_) hs hw;obtain⟨x,m,n,o,p⟩:=l;rw[i];show thn (f b j c m x v _ n o p) λ_ r q=>q
def Vh {i:Nat}{x:Str}{e:MD}{te:TE}{a:Pos}(b:X.N.Nodup)(hi:X.N[i]?=KE x)(c:Loc X.env.scope x)(d:PE X e te)(hs:kA e (KE (.Name x a)) pos.line X.env=pure MA:=by rfl)(f:X.fn x=LZ\/X.env.scope.names.lookup x=KE .local:=by first | show .inl rfl | show .inr rfl | assumption) :
  PS X (.Assign [.Name x a] e pos) (Y0 te (Bg i)):=by
 intro g s j H D I h;show wpAny_Assign_Name (thn (d g s j H _ I h) λv q l=>?_) hs;obtain⟨y,m,n,o,p⟩:=l;show p8 n b hi c o (λr I2=>{_,m,I2,p}) f
def tAug (i:Nat)(te:TE)(b:TIp):TS:=λD a H=>∃x,a[i]?=KE (KE x)/\te a H λy c=>b x y c λz d=>D.nx (a.set i (KE z)) d
def Vi {i:Nat}{x:Str}{e:MD}{te:TE}{op:Operator}{n:TIp}{p:Pos}(q:X.N.Nodup)(hi:X.N[i]?=KE x)(d:Loc X.env.scope x)(C:PE X e te)(E:PIp X op n)(G:X.fn x=LZ\/X.env.scope.names.lookup x=KE .local:=by first | show .inl rfl | show .inr rfl | assumption) :
  PS X (.AugAssign (.Name x p) op e pos) (tAug i te n):=by
 intro f s o H D I h;obtain⟨v,J,h⟩:=h;obtain⟨m,L,O⟩:=I.loc;have g:Vis X.env.scope x:=(by rcases d with k | k;show .inl k;show .inr (.inl k));obtain⟨u,r,l⟩:=O i x v hi J g;show wpAny_AugAssign_Name ?_;have go:aL (aX X.prog X.w) X.A (eval e X.env) (λw a=>aL (aX X.prog X.w) X.A (inplaceOp op u w) (λr b=>aL (aX X.prog X.w) X.A (storeName X.env x r) (λ_=>SP X f D .next) X.xe b) X.xe a) X.xe s:=by
  show thn (C f s o H _ I h) λw Q j=>?_;obtain⟨y,T,U,Y,q1⟩:=j;show thn (E f Q o T v y u w _ U r Y q1) λz s2 j=>?_;obtain⟨zv,H2,I2,r2,q2⟩:=j;show p8 I2 q hi d r2 (λs3 I3=>{_,H2,I3,q2}) G
 rcases l with⟨hk,hm⟩ | ⟨hk,c,hc,BB⟩
 ·show wpAny_loadName_local I.ok.kind hk L hm go
 ·rcases hk with hk | hk
  ·show wpAny_loadName_cell I.ok.kind hk hc BB go
  ·rcases d with k | k
   ·have:X.env.scope.names.lookup x=KE .free:=hk;rw[k]at this;cases this
   ·have:X.env.scope.names.lookup x=KE .free:=hk;rw[k]at this;cases this
def ipI (f:Int->Int->Int):TIp:=λx y H Q=>∃i j,x=.int i/\y=.int j/\Q (.int (f i j)) H
def ahx (c:TT)(tb:TS):TS:=λD a H=>∃W:Nat->St->Hp->Prop,(∃m,W m a H)/\∀m a H,W m a H->
 c a H λb e=>if b=LZ then ∃N:St->Hp->Prop,(∀d H',N d H'->∃f,f < m/\W f d H')/\tb { D with nx:=N,ct:=N,bk:=D.nx } a e else D.nx a e
def Y1 {body:List ME}(r:sM (aX X.prog X.w) X.A X.env X.xe)(z:PT X c C)(E:PSs X body tb):PS X (.While c body [] pos) (ahx C tb):=by
 intro l s G H D I h;obtain⟨W,⟨J,L⟩,O⟩:=h;show wpAny_While (codeAny_whileLoop (λn s'=>∃e H',Inv X l e H' s'/\W n e H') ?_ J #v[G,H,I,L]);intro n Q T;obtain⟨d,u,U,Y⟩:=T;show iZ r (thn (z l Q d u _ U (O n d u Y)) λb s2 uU=>?_);obtain⟨x,I2,i⟩:=uU;cases b with
 |true=>
  obtain⟨N,y,i⟩:=i;rw[MF rfl];show iZ r (thn (E l s2 d x _ I2 i) λf s3 j=>?_);cases f with
  |next=>
   obtain⟨a,g,m,n3⟩:=j;obtain⟨o,p,q⟩:=y a g n3;show#v[o,p,a,g,m,q]
  |cont=>
   obtain⟨a,g,m,n3⟩:=j;obtain⟨o,p,q⟩:=y a g n3;show#v[o,p,a,g,m,q]
  |brk=>show j
  |ret v=>show j
 |false=>
  rw[MG aO];show nV #v[d,x,I2,i]
end
structure It where
 go:Nat->Hp->Prop
 yld:Nat->Hp->V->Hp->Prop
 stop:Nat->Hp->Prop
def ki (X:Cx)(a:List (MB×Obj))(H:Hp)(b:MB):Prop:=
 H b=LY/\b≠X.env.locals/\b ∉ X.fs/\(b∈X.ex\/X.s₀.heap.objs.size<=b)/\(∀x c,X.env.cells.lookup x=KE c->c≠b)/\∀p∈X.pn++a,p.1≠b
def Inv.fpOk (I:Inv X d h H s)(a:‹s›<=b)(f:H' b=LY):ki X d H' b:=by
 show{f,eZ (bQ I.lt a),I.nofs a,.inr (bK I.sz a),λx c e z=>?_,λp g z=>?_}
 ·obtain⟨v,q⟩:=I.cell x c e;show MJ (bQ q.lt (by rw[z];show a)) (fR _)
 ·show MJ (bQ (aU (I.pin p g).1) (by rw[z];show a)) (fR _)
structure yb (P:aV)(w:bA)(K:aG)(tg:MD)(J:It)(fp:List MB)(it:MB)(tn:Nat->MC->Prop):Prop where
 mem:it∈fp
 obj:∀i h,tn i h->∀b∈fp,∃o,h.get? b=KE o/\∀v,o.data≠.cell v
 keep:∀i h h',tn i h->(∀b∈fp,∀o,h.get? b=KE o->h'.get? b=KE o)->tn i h'
 item:∀X,X.prog=P->X.w=w->X.K=K->X.calm=LZ->∀i f' s σ H E,Inv X f' σ H s->(∀b∈fp,ki X f' H b)->tn i s.heap->J.go i H->
  aL (aX P w) X.A (gU (.ref it)) (λr s1=>∃u,r=KE u/\aL (aX P w) X.A (nW tg (.ref it) u) (λ_ s2=>∃x H',Inv X f' σ H' s2/\RelV x u/\J.yld i H x H'/\tn (i+1) s2.heap/\∀b∈fp,H' b=LY) E s1) E s
 done:∀X,X.prog=P->X.w=w->X.K=K->X.calm=LZ->∀i f' s σ H E,Inv X f' σ H s->(∀b∈fp,ki X f' H b)->tn i s.heap->J.stop i H->
  aL (aX P w) X.A (gU (.ref it)) (λr s1=>r=LY/\Inv X f' σ H s1) E s
 self:∀A i s Q E,tn i s.heap->Q (.ref it) s->aL (aX P w) A (sN (.ref it)) Q E s
abbrev TI:=St->Hp->(It->Hp->Prop)->Prop
def PIE (X:Cx)(a:List (MB×Obj))(f:St)(g:MD)(R:It->Hp->Prop)(h:aE)(c:aH):Prop:=
 ∃it d e J H',h=.ref it/\Inv X a f H' c/\yb X.prog X.w X.K g J d it e/\e 0 c.heap/\(∀b∈d,ki X a H' b)/\R J H'
def PI (X:Cx)(c iter:MD)(d:TI):Prop:=
 ∀b s a H R,Inv X b a H s->d a H R->
  aL (aX X.prog X.w) X.A (eval iter X.env) (λv e=>aL (aX X.prog X.w) X.A (sN v) (PIE X b a c R) X.xe e) X.xe s
def Bh {M:uB}{A:bV}{E:aE->aH->Prop}{s:aH}{b:MD}{it:MB}{u:aE}{o:Obj}{n:String}{vs:Array aE}{Q:Unit->aH->Prop}(c:s.heap.get? it=KE o)(d:o.cls=.type n)(hd:o.data=.fields vs)
  (e:["enumerate","zip","dict_itemiterator","dict_reverseitemiterator","odict_iterator","itertools.zip_longest","itertools.pairwise"].contains n=MA) (a:Q Unit.unit s):aL M A (nW b (.ref it) u) Q E s:=by
 unfold nW;cases b<;>first
  |show wpAny_pure a
  | (cases u<;>first
      |show wpAny_pure a
      | (show aA (wpAny_load c ?_)
         rw[d,hd];change aL M A (if (["enumerate","zip","dict_itemiterator","dict_reverseitemiterator","odict_iterator","itertools.zip_longest","itertools.pairwise"].contains n && vs[0]? == KE (iU _))=LZ then _ else _) Q E s
         rw[MG (by intro h;rw[e,Bool.false_and]at h;cases h)];show wpAny_pure a))
def Itl (K:aG)(a:MB):It:=
 {λi H=>∃xs x,SqL K H a xs/\xs[i]?=KE x,λi H x H'=>H'=H/\∀xs,SqL K H a xs->xs[i]?=KE x,λi H=>∃xs,SqL K H a xs/\xs.length<=i}
def Itt (K:aG)(a:MB):It:=
 {λi H=>∃xs x,SqT K H a xs/\xs[i]?=KE x,λi H x H'=>H'=H/\∀xs,SqT K H a xs->xs[i]?=KE x,λi H=>∃xs,SqT K H a xs/\xs.length<=i}
def Itr (lo:Int)(n:Nat):It:={λi _=>i < n,λi H x H'=>H'=H/\x=.int (lo+i),λi _=>n<=i}
def Vj {P:aV}{w:bA}{K:aG}{tg:MD}(a it:MB):yb P w K tg (Itl K a) [it] it (λi h=>h.IsListIter it a i) where
 mem:=by simp
 obj:=λi h st b hb=>by
  have e:b=it:=(by simpa using hb);subst e;obtain⟨o,e,c,d⟩:=st;show{o,e,λv z=>by rw[d]at z;cases z}
 keep:=λi h h' st k=>st.at λo e=>k it ∅ o e
 item:=by
  intro X hP hw hK hc i f' s σ H E I hf st hg;subst hP hw hK;obtain⟨xs,x,hq,hx⟩:=hg;obtain⟨its,rv,p,hz⟩:=I.list hq;obtain⟨u,hu,ru⟩:=rv.get hx;obtain⟨f0,f1,f2,f3,f4,f5⟩:=hf it ∅;show wpAny_pyNext_list_item st p.isList (x:=u) (by simpa using hu) λh' zB sb=>?_;have I1:Inv X f' σ H { s with heap:=h' }:=I.turned (t':=s.toks) (λb o hb e=>(sb.2 b hb).trans e) f0 f1 f3 f4 f5;obtain⟨o,e,c,d⟩:=id zB;show⟨u,rfl,Bh (s:={ s with heap:=h' }) e c d (by decide) {x,H,I1,ru,{rfl,λys hy=>by rw[I.list_inj hy hq];show hx},zB,λb hb=>(hf b hb).1}⟩
 done:=by
  intro X hP hw hK hc i f' s σ H E I hf st hg;subst hP hw hK;obtain⟨xs,hq,hx⟩:=hg;obtain⟨its,rv,p,hz⟩:=I.list hq;obtain⟨f0,f1,f2,f3,f4,f5⟩:=hf it ∅;have hl:=rv.length;show wpAny_pyNext_list_end (I.ok.hd hc) st p.isList (by simp;lia) λh' eb=>{rfl,I.turned (t':=s.toks) (λb o hb e=>eb b o hb e) f0 f1 f3 f4 f5}
 self:=λ_ _ _ _ _ st h=>wpAny_pyIter_listiter st h
def Sr {P:aV}{w:bA}{K:aG}{tg:MD}(a it:MB):yb P w K tg (Itt K a) [it] it (λi h=>h.IsTupleIter it a i) where
 mem:=by simp
 obj:=λi h st b hb=>by
  have e:b=it:=(by simpa using hb);subst e;obtain⟨o,e,c,d⟩:=st;show{o,e,λv z=>by rw[d]at z;cases z}
 keep:=λi h h' st k=>st.at λo e=>k it ∅ o e
 item:=by
  intro X hP hw hK hc i f' s σ H E I hf st hg;subst hP hw hK;obtain⟨xs,x,hq,hx⟩:=hg;obtain⟨its,rv,p,hz⟩:=I.tuple hq;obtain⟨u,hu,ru⟩:=rv.get hx;obtain⟨f0,f1,f2,f3,f4,f5⟩:=hf it ∅;show wpAny_pyNext_tuple_item st (show s.heap.IsTuple a its.toArray from p) (x:=u) (by simpa using hu) λh' zB sb=>?_;have I1:Inv X f' σ H { s with heap:=h' }:=I.turned (t':=s.toks) (λb o hb e=>(sb.2 b hb).trans e) f0 f1 f3 f4 f5;obtain⟨o,e,c,d⟩:=id zB;show⟨u,rfl,Bh (s:={ s with heap:=h' }) e c d (by decide) {x,H,I1,ru,{rfl,λys hy=>by rw[I.tuple_inj hy hq];show hx},zB,λb hb=>(hf b hb).1}⟩
 done:=by
  intro X hP hw hK hc i f' s σ H E I hf st hg;subst hP hw hK;obtain⟨xs,hq,hx⟩:=hg;obtain⟨its,rv,p,hz⟩:=I.tuple hq;obtain⟨f0,f1,f2,f3,f4,f5⟩:=hf it ∅;have hl:=rv.length;show wpAny_pyNext_tuple_end (I.ok.hd hc) st (show s.heap.IsTuple a its.toArray from p) (by simp;lia) λh' eb=>{rfl,I.turned (t':=s.toks) (λb o hb e=>eb b o hb e) f0 f1 f3 f4 f5}
 self:=λ_ _ _ _ _ st h=>wpAny_pyIter_tupleiter st h
def Ss {P:aV}{w:bA}{K:aG}{tg:MD}(it:MB)(lo:Int)(n:Nat):yb P w K tg (Itr lo n) [it] it (λi h=>rE h it (lo+(i:Nat) * 1) ((n:Int) - (i:Nat)) 1) where
 mem:=by simp
 obj:=λi h st b hb=>by
  have e:b=it:=(by simpa using hb);subst e;show⟨_,st,λv z=>by
    have z':rF _=pH v:=z;cases z'⟩
 keep:=λi h h' st k=>k it ∅ _ st
 item:=by
  intro X hP hw hK hc i f' s σ H E I hf st hg;subst hP hw hK;obtain⟨f0,f1,f2,f3,f4,f5⟩:=hf it ∅;have W:=Walks.range (prog:=X.prog) (w:=X.w) (I.ok.hd hc) it lo 1 n;show W.item i s _ _ hg st λv h' tk hv zB kk=>?_;obtain⟨t,rfl⟩:=hv;have I1:Inv X f' σ H { s with heap:=h',toks:=tk }:=I.turned (λb o hb e=>kk b o (by simpa using hb) e) f0 f1 f3 f4 f5;show⟨_,rfl,Bh (s:={ s with heap:=h',toks:=tk }) (n:="range_iterator") zB rfl rfl (by decide) {.int (lo+i),H,I1,{t,?_},#v[rfl,rfl],zB,λb hb=>(hf b hb).1}⟩;rw[Int.mul_one]
 done:=by
  intro X hP hw hK hc i f' s σ H E I hf st hg;subst hP hw hK;obtain⟨f0,f1,f2,f3,f4,f5⟩:=hf it ∅;show wpAny_pyNext_range_end (I.ok.hd hc) st (by have:n<=i:=hg;lia) λh' eb=>{rfl,I.turned (t':=s.toks) (λb o hb e=>eb b o hb e) f0 f1 f3 f4 f5}
 self:=λ_ _ _ _ _ st h=>wpAny_pyIter_rangeiter st h
section
variable {X:Cx}{tg:MD}
def iList (K:aG)(c:TE):TI:=λd H R=>c d H λx b=>∃a,x=.ref a/\(∃xs,SqL K b a xs)/\R (Itl K a) b
def iTup (K:aG)(c:TE):TI:=λd H R=>c d H λx b=>∃a,x=.ref a/\(∃xs,SqT K b a xs)/\R (Itt K a) b
def ady {l:MD}{f:TE}(g:PE X l f):PI X tg l (iList X.K f):=by
 intro i s j H R I h;show thn (g i s j H _ I h) λv c m=>?_;obtain⟨x,n,d,r,u⟩:=m;obtain⟨a,e,⟨xs,w⟩,q⟩:=u;subst e;cases r;obtain⟨its,z,p,hz⟩:=d.list w;show dX p.isList ?_;show{‹c›,[‹c›],_,_,n,rfl,d.kept (t':=c.toks) λb o e=>aF _ e,Vj a _,{_,aT _ rfl,rfl,rfl},λb y=>?_,q};have e:b=‹c›:=(by simpa using y);subst e;show d.fpOk (aJ _) (d.hok.fresh (aJ _))
def ahy {l:MD}{f:TE}(g:PE X l f):PI X tg l (iTup X.K f):=by
 intro i s j H R I h;show thn (g i s j H _ I h) λv c m=>?_;obtain⟨x,n,d,r,u⟩:=m;obtain⟨a,e,⟨xs,w⟩,q⟩:=u;subst e;cases r;obtain⟨its,z,p,hz⟩:=d.tuple w;show fP (show c.heap.IsTuple a its.toArray from p) ?_;show{‹c›,[‹c›],_,_,n,rfl,d.kept (t':=c.toks) λb o e=>aF _ e,Sr a _,{_,aT _ rfl,rfl,rfl},λb y=>?_,q};have e:b=‹c›:=(by simpa using y);subst e;show d.fpOk (aJ _) (d.hok.fresh (aJ _))
def Y2 {a:List (MB×Obj)}{c:St}{H:Hp}{s:aH}{R:It->Hp->Prop}{E:aE->aH->Prop}{lo hi:Int}{t u v:Tok}{d:Nat}(I:Inv X a c H s)(g:-(2 ^ 62)<=lo)(h:lo < 2 ^ 62)(i:-(2 ^ 62)<=hi)(j:hi < 2 ^ 62)
  (q:R (Itr lo (hi - lo).toNat) H):aL (aX X.prog X.w) X.A (sN (.ref ‹s›)) (PIE X a c tg R) E { s with heap:=s.heap.push { cls:=.type "range",data:=.fields #[.int lo t,.int hi u,.int 1 v] },toks:=d }:=by
 show wpAny_pyIter_range (IsRange.new ..) (small_one g h i j) ?_;have f:Inv X a c H { s with heap:=s.heap.push { cls:=.type "range",data:=.fields #[.int lo t,.int hi u,.int 1 v] },toks:=d }:=I.kept λb o e=>aF _ e;show{(s.heap.push { cls:=.type "range",data:=.fields #[.int lo t,.int hi u,.int 1 v] }).objs.size,[(s.heap.push { cls:=.type "range",data:=.fields #[.int lo t,.int hi u,.int 1 v] }).objs.size],_,_,H,rfl,f.kept (t':=d) λb o e=>aF _ e,Ss _ lo (hi - lo).toNat,?_,λb l=>?_,q}
 ·have m:lo+((0:Nat):Int) * 1=lo:=∅;have n:(((hi - lo).toNat:Nat):Int) - ((0:Nat):Int)=jX lo hi 1:=(by rw[rangeSize_one];split<;>lia);change rE _ _ (lo+((0:Nat):Int) * 1) ((((hi - lo).toNat:Nat):Int) - ((0:Nat):Int)) 1;rw[m,n];show aT _ rfl
 ·have e:b=(s.heap.push { cls:=.type "range",data:=.fields #[.int lo t,.int hi u,.int 1 v] }).objs.size:=(by simpa using l);subst e;show f.fpOk (aJ _) (f.hok.fresh (aJ _))
def iRng1 (a:TA):TI:=λb H R=>a b H λvs c=>∃j:Int,vs=[.int j]/\-(2 ^ 62)<=j/\j < 2 ^ 62/\R (Itr 0 j.toNat) c
def Vk {a:MD}{d:TA}{p b:Pos}(f:Gl X "range")(g:X.mg "range"=LY)(i:PA X [a] d)(hs:aN [a] X.env=[(MA,eval a X.env)]:=by rfl):PI X tg (.Call (.Name "range" p) [a] [] b) (iRng1 d):=by
 intro l s m H R I h;show Call_ (kh I f g boot_range (eW (thn (i b l s m H _ I h) λus y n=>?_) hs rfl));obtain⟨vs,z,o,u,c⟩:=n;obtain⟨j,e,c,w,q⟩:=c;subst e;cases u with
 |cons r x=>
  cases x;obtain⟨t,rfl⟩:=r;show call_range_1 (Y2 o () () c w (by simpa using q))
def tFor (e:TI)(g:TG)(tb:TS):TS:=λD a H=>e a H λJ f=>∃W:Nat->Nat->St->Hp->Prop,(∃m,W 0 m a f)/\∀i m a H,W i m a H->
 (J.stop i H/\D.nx a H)\/(J.go i H/\∃N:St->Hp->Prop,(∀b H',N b H'->∃d,d < m/\W (i+1) d b H')/\∀x H',J.yld i H x H'->g x a H' λc h=>tb { D with nx:=N,ct:=N,bk:=D.nx } c h)
def xm (a:List MB)(h:MC):List (MB×Obj):=a.filterMap λb=>(h.get? b).map λo=>(b,o)
def kz (a:b∈c)(e:h.get? b=KE o):(b,o)∈xm c h:=List.mem_filterMap.mpr {b,a,by rw[e];rfl}
def Vl (a:p∈xm c h):p.1∈c/\h.get? p.1=KE p.2:=by
 obtain⟨b,d,e⟩:=List.mem_filterMap.mp a;cases q:h.get? b with
 |none=>rw[q]at e;cases e
 |some o=>
  rw[q]at e;have f:(b,o)=p:=bU e;subst f;show#v[d,q]
def Inv.pinned (I:Inv X a h H s)(i:∀b∈c,ki X a H b)(j:∀b∈c,∃o,s.heap.get? b=KE o/\∀v,o.data≠.cell v):Inv X (a++xm c s.heap) h H s:=
 I.pins_of λp l=>(dO.mp l).elim (λz=>I.pin p (bW _ z)) λz=>by
  obtain⟨f,e⟩:=Vl z;obtain⟨m,n,q,_⟩:=i p.1 f;obtain⟨o,g,d⟩:=j p.1 f;rw[e]at g;cases g;show#v[e,m,n,q,d]
def Inv.unpinned (I:Inv X (a++pl) b H s):Inv X a b H s:=I.pins_of λp c=>I.pin p (bW _ (eK _ c))
def ahz (E:sM (aX X.prog X.w) X.A X.env X.xe)(hc:X.calm=LZ)(hi:PI X tg iter wi)(hg:PG X tg g)(c:PSs X body tb)
  (hs:∀x,iJ iter X.env x=pure x:=by intro _;rfl):PS X (.For tg iter body [] pos) (tFor wi g tb):=by
 intro z s σ H D I h;show wpAny_For (thn (hi z s σ H _ I h) λv s1 h1=>thn h1 λHC s2 h2=>?_) hs;obtain⟨it,G,tn,J,H2,e,I2,T,AJ,f2,W,⟨m0,w0⟩,zF⟩:=h2;subst e;have Q:∀{H'},(∀b∈G,H' b=LY)->∀b∈G,ki X z H' b:=λhn b c=>{hn b c,(f2 b c).2};show codeAny_forLoop_any (λn s'=>∃i j H',Inv X z j H' s'/\tn i s'.heap/\(∀b∈G,H' b=LY)/\W i n j H') ?_ m0 {0,σ,H2,I2,AJ,λb c=>(f2 b c).1,w0};intro n s3 uW;obtain⟨i,l,O,I3,DO,FB,w3⟩:=uW;rcases zF i n l O w3 with⟨stop,qn⟩ | ⟨go,N,hN,step⟩
 ·show iZ E (thn (T.done X rfl rfl rfl hc i z s3 l O X.xe I3 (Q FB) DO stop) λr s4 C=>?_);obtain⟨U,I4⟩:=C;subst U;show nV #v[l,O,I4,qn]
 ·show iZ E (thn (T.item X rfl rfl rfl hc i z s3 l O X.xe I3 (Q FB) DO go) λr s4 C=>?_);obtain⟨u,U,h4⟩:=C;subst U;show iZ E (thn h4 λ_ s5 C=>?_);obtain⟨x,H5,I5,r5,y5,Y,EC⟩:=C;have I5':=I5.pinned (Q EC) (T.obj _ _ Y);show iZ E (thn (hg _ s5 l H5 x u _ I5' r5 (step x H5 y5)) λ_ s6 C=>?_);obtain⟨σ6,H6,I6,q6⟩:=C;show iZ E (thn (c _ s6 σ6 H6 _ I6 q6) λf s7 y=>?_);have again:∀{a p},Inv X (z++xm G s5.heap) a p s7->N a p->∃m,m < n/\∃i j H',Inv X z j H' s7/\tn i s7.heap/\(∀b∈G,H' b=LY)/\W i m j H':=λ{a p} q L=>by
   obtain⟨m',hm,w7⟩:=hN a p L;show{m',hm,i+1,a,p,q.unpinned,T.keep _ _ _ Y λb c o e=>(q.pin (b,o) (bW _ (bW _ (kz c e)))).1,λb c=>?_,w7};obtain⟨o,e,d⟩:=T.obj _ _ Y b c;show(q.pin (b,o) (bW _ (bW _ (kz c e)))).2.1
  cases f with
  |next=>obtain⟨a,p,q,L⟩:=y;show again q L
  |cont=>obtain⟨a,p,q,L⟩:=y;show again q L
  |brk=>obtain⟨a,p,q,y⟩:=y;show#v[a,p,q.unpinned,y]
  |ret v=>obtain⟨x7,a,p,q,r7,y⟩:=y;show#v[x7,a,p,q.unpinned,r7,y]
end
abbrev R2:=V->V->Hp->VK->Prop
def OpR (X:Cx)(f:aE->aE->Sem aE)(r:R2):Prop:=
 ∀a s b H x y v u Q,Inv X a b H s->RelV x v->RelV y u->r x y H Q->
  aL (aX X.prog X.w) X.A (f v u) (EP X a b Q) X.xe s
def UnR (X:Cx)(f:aE->Sem aE)(r:V->Hp->VK->Prop):Prop:=
 ∀a s b H x v Q,Inv X a b H s->RelV x v->r x H Q->
  aL (aX X.prog X.w) X.A (f v) (EP X a b Q) X.xe s
def j9 (X:Cx)(f:aE)(r:List V->Hp->VK->Prop):Prop:=
 ∀a s b H xs us Q,Inv X a b H s->Vals xs us->r xs H Q->
  aL (aX X.prog X.w) X.A (call f us) (EP X a b Q) X.xe s
def TruR (X:Cx)(r:V->Hp->(Bool->Hp->Prop)->Prop):Prop:=
 ∀a s b H x v Q,Inv X a b H s->RelV x v->r x H Q->
  aL (aX X.prog X.w) X.A (truthy v) (TP X a b Q) X.xe s
def tOp (r:R2)(b tb:TE):TE:=λa H Q=>b a H λx c=>tb a c λy d=>r x y d Q
def tUn (r:V->Hp->VK->Prop)(a:TE):TE:=λb H Q=>a b H λx c=>r x c Q
def rI (C:Int->Int->Prop)(g:Int->Int->V):R2:=λx y H Q=>∃i j,x=.int i/\y=.int j/\C i j/\Q (g i j) H
def rI0 (g:Int->Int->V):R2:=λx y H Q=>∃i j,x=.int i/\y=.int j/\Q (g i j) H
def rU (g:Int->V):V->Hp->VK->Prop:=λx H Q=>∃i,x=.int i/\Q (g i) H
section
variable {X:Cx}{a b c:MD}{ta tb tc:TE}{pos:Pos}
def Y3 (o:PE X a ta)(p:PE X b tb){j:List (MB×Obj)}{s:aH}{d:St}{H:Hp}{R:V->V->Hp->Prop}(I:Inv X j d H s)
  (h:ta d H λx m=>tb d m λy e=>R x y e) {Q:aE->aH->Prop}{f:aE->aE->Sem aE}
  (q:∀v u l x y e,Inv X j d e l->RelV x v->RelV y u->R x y e->aL (aX X.prog X.w) X.A (f v u) Q X.xe l) :
  aL (aX X.prog X.w) X.A (eval a X.env) (λv g=>aL (aX X.prog X.w) X.A (eval b X.env) (λu i=>aL (aX X.prog X.w) X.A (f v u) Q X.xe i) X.xe g) X.xe s:=by
 show thn (o j s d H _ I h) λv r n=>?_;obtain⟨x,m,z,C,D⟩:=n;show thn (p j r d m _ z D) λu l n=>?_;obtain⟨y,e,I2,E,G⟩:=n;show q v u l x y e I2 C E G
def pe_op {op:Operator}{r:R2}(d:OpR X (eA op) r)(e:PE X a ta)(f:PE X b tb):PE X (.BinOp a op b pos) (tOp r ta tb):=by
 intro g s i H Q I h;show wpAny_BinOp (Y3 e f I h λv u j x y l I2 m n q=>d g j i l x y v u Q I2 m n q)
def pe_un (f:UnR X (unaryOp op) r)(g:PE X a ta):PE X (.UnaryOp op a pos) (tUn r ta):=by
 intro d s e H Q I h;show UnaryOp_ (thn (g d s e H _ I h) λv i j=>by obtain⟨x,l,m,n,o⟩:=j;show f d i e l x v Q m n o)
def opI {f:aE->aE->Sem aE}{C:Int->Int->Prop}{g:Int->Int->Int}
  (rule:∀(i j:Int)(t u:Tok) (s:aH) (Q:aE->aH->Prop) (E:aE->aH->Prop),C i j->Q (.int (g i j) s.toks) { s with toks:=s.toks+1 }->aL (aX X.prog X.w) X.A (f (.int i t) (.int j u)) Q E s) :
  OpR X f (rI C λi j=>.int (g i j)):=by
 intro m s n H x y v u Q I d e h;obtain⟨i,j,rfl,rfl,l,q⟩:=h;obtain⟨t,rfl⟩:=d;obtain⟨t',rfl⟩:=e;show rule i j t t' s _ _ l {.int (g i j),H,I.tok _,{_,rfl},q}
def Su {f:aE->aE->Sem aE}{g:Int->Int->Int}
  (rule:∀(i j:Int)(t u:Tok) (s:aH) (Q:aE->aH->Prop) (E:aE->aH->Prop),Q (.int (g i j) s.toks) { s with toks:=s.toks+1 }->aL (aX X.prog X.w) X.A (f (.int i t) (.int j u)) Q E s) :
  OpR X f (rI0 λi j=>.int (g i j)):=by
 intro l s m H x y v u Q I d e h;obtain⟨i,j,rfl,rfl,q⟩:=h;obtain⟨t,rfl⟩:=d;obtain⟨t',rfl⟩:=e;show rule i j t t' s _ _ {.int (g i j),H,I.tok _,{_,rfl},q}
def Y4 {f:aE->aE->Sem aE}{g:Int->Int->Bool}
  (rule:∀(i j:Int)(t u:Tok) (s:aH) (Q:aE->aH->Prop) (E:aE->aH->Prop),Q (.bool (g i j)) s->aL (aX X.prog X.w) X.A (f (.int i t) (.int j u)) Q E s) :
  OpR X f (rI0 λi j=>.bl (g i j)):=by
 intro l s m H x y v u Q I d e h;obtain⟨i,j,rfl,rfl,q⟩:=h;obtain⟨t,rfl⟩:=d;obtain⟨t',rfl⟩:=e;show rule i j t t' s _ _ {.bl (g i j),H,I,rfl,q}
def Kj (i j:Int):Prop:=0 < j/\j < 1073741824
def Fh (i j:Int):Prop:=0<=j/\j<=1000000/\i.natAbs < 2 ^ 64
def CMul (i j:Int):Prop:=(-(2 ^ 64) < i/\i < 2 ^ 64)\/(-(2 ^ 64) < j/\j < 2 ^ 64)
def CMul.ok {i j:Int}(h:CMul i j):IntMulOk i j:=by
 rcases h with⟨d,e⟩ | ⟨d,e⟩
 ·show .of_left (intBits_le_64 d e)
 ·show .of_right (intBits_le_64 d e)
def Sv (k:Nat):(0:Int)<=2 ^ k:=by
 rw[two_pow_cast];show lP _
def aia:OpR X (eA .Add) (rI0 λi j=>.int (i+j)):=Su λ_ _ _ _ _ _ _ q=>add_int q
def aib:OpR X (eA .Sub) (rI0 λi j=>.int (i - j)):=Su λ_ _ _ _ _ _ _ q=>sub_int q
def aic:OpR X (eA .Mult) (rI CMul λi j=>.int (i * j)):=opI λ_ _ _ _ _ _ _ d q=>mul_int q d.ok
def adz:OpR X (eA .FloorDiv) (rI Kj λi j=>.int (i / j)):=opI λi j _ _ _ _ _ d q=>by
 have e:(0:Int) < j:=d.1;have f:j < 1073741824:=d.2;show floordiv_int () (by rw[Int.fdiv_eq_ediv_of_nonneg i ()];show q) (.inl (PyProof.noPylong_small ()))
def aid:OpR X (eA .Mod) (rI (λ_ j=>0 < j) λi j=>.int (i % j)):=opI λi j _ _ _ _ _ d q=>by
 have e:(0:Int) < j:=d;show mod_int' () (by rw[Int.fmod_eq_emod_of_nonneg i ()];show q)
def aie:OpR X (eA .LShift) (rI Fh λi j=>.int (i * 2 ^ j.toNat)):=opI λ_ _ _ _ _ _ _ d q=>lshift_int_small d.1 d.2.1 d.2.2 q
def aif:OpR X (eA .RShift) (rI (λ_ j=>0<=j) λi j=>.int (i / 2 ^ j.toNat)):=opI λi j _ _ _ _ _ d q=>
 rshift_int d (by rw[Int.fdiv_eq_ediv_of_nonneg i (Sv _)];show q)
def aih:OpR X (eA .BitAnd) (rI0 λi j=>.int (eC i j)):=Su λ_ _ _ _ _ _ _ q=>and_int q
def op_or:OpR X (eA .BitOr) (rI0 λi j=>.int (dR i j)):=Su λ_ _ _ _ _ _ _ q=>or_int q
def unI {f:aE->Sem aE}{g:Int->Int}
  (rule:∀(i:Int)(t:Tok) (s:aH) (Q:aE->aH->Prop) (E:aE->aH->Prop),Q (.int (g i) s.toks) { s with toks:=s.toks+1 }->aL (aX X.prog X.w) X.A (f (.int i t)) Q E s) :
  UnR X f (rU λi=>.int (g i)):=by
 intro e s j H x v Q I d h;obtain⟨i,rfl,q⟩:=h;obtain⟨t,rfl⟩:=d;show rule i t s _ _ {.int (g i),H,I.tok _,{_,rfl},q}
def aii:UnR X (unaryOp .USub) (rU λi=>.int (-i)):=unI λ_ _ _ _ _ q=>neg_int q
end
def Y5:V->V->Bool
 | .non,.non=>LZ | .non,.int _=>LZ | .int _,.non=>LZ | .non,.bl _=>LZ | .bl _,.non=>LZ | .non,.str _=>LZ | .str _,.non=>LZ
 | .int _,.int _=>LZ | .bl _,.bl _=>LZ | .str _,.str _=>LZ | .byt _,.byt _=>LZ
 | .int _,.str _=>LZ | .str _,.int _=>LZ | .bl _,.str _=>LZ | .str _,.bl _=>LZ
 |_,_=>MA
def rEq:R2:=λx y H Q=>Y5 x y=LZ/\Q (.bl (decide (x=y))) H
def rNe:R2:=λx y H Q=>Y5 x y=LZ/\Q (.bl (!decide (x=y))) H
def P6:decide (V.int i=V.int j)=(i == j):=by
 rw[kB];simp
def Vm:decide (V.bl i=V.bl j)=(i == j):=by
 rw[kB];simp
def P7:decide (V.str i=V.str j)=(i == j):=by
 rw[kB];simp
def P8:decide (V.byt i=V.byt j)=(i.toList == j.toList):=by
 rw[kB];cases i;cases j;simp
section
variable {X:Cx}{a b c:MD}{ta tb tc:TE}{pos:Pos}
def cq {d:List (MB×Obj)}{f:St}{H:Hp}{s:aH}{Q:VK}{k g:Bool}(I:Inv X d f H s)(q:Q (.bl k) H)(e:k=g):EP X d f Q (.bool g) s:=by
 subst e;show{.bl k,H,I,rfl,q}
def op_eq:OpR X (eJ .Eq) rEq:=by
 intro f s g H x y v u Q I e d h;obtain⟨hs,q⟩:=h;cases x with
 |non=>
  cases e;cases y with
  |non=>cases d;show PySem.EqNone.eq_none_none (cq I q ∅)
  |bl j=>cases d;show PySem.EqNone.eq_none_bool (cq I q ∅)
  |int j=>obtain⟨t',rfl⟩:=d;show PySem.EqNone.eq_none_int (cq I q ∅)
  |str j=>obtain⟨t',rfl⟩:=d;show PySem.EqNone.eq_none_str (cq I q ∅)
  |_=>show MJ (show MA=LZ from hs) aO
 |bl i=>
  cases e;cases y with
  |non=>cases d;show PySem.EqNone.eq_bool_none (cq I q ∅)
  |bl j=>cases d;show eq_bool (cq I q Vm)
  |str j=>obtain⟨t',rfl⟩:=d;show PySem.EqMixed.eq_bool_str (cq I q ∅)
  |_=>show MJ (show MA=LZ from hs) aO
 |int i=>
  obtain⟨t,rfl⟩:=e;cases y with
  |non=>cases d;show PySem.EqNone.eq_int_none (cq I q ∅)
  |int j=>obtain⟨t',rfl⟩:=d;show eq_int (cq I q P6)
  |str j=>obtain⟨t',rfl⟩:=d;show PySem.EqMixed.eq_int_str (cq I q ∅)
  |_=>show MJ (show MA=LZ from hs) aO
 |str i=>
  obtain⟨t,rfl⟩:=e;cases y with
  |non=>cases d;show PySem.EqNone.eq_str_none (cq I q ∅)
  |bl j=>cases d;show PySem.EqMixed.eq_str_bool (cq I q ∅)
  |int j=>obtain⟨t',rfl⟩:=d;show PySem.EqMixed.eq_str_int (cq I q ∅)
  |str j=>obtain⟨t',rfl⟩:=d;show eq_str (cq I q P7)
  |_=>show MJ (show MA=LZ from hs) aO
 |byt i=>
  obtain⟨t,rfl⟩:=e;cases y with
  |byt j=>obtain⟨t',rfl⟩:=d;show PySem.W.eq_bytes (cq I q P8)
  |_=>show MJ (show MA=LZ from hs) aO
 |_=>cases y<;>show MJ (show MA=LZ from hs) aO
def op_ne:OpR X (eJ .NotEq) rNe:=by
 intro f s g H x y v u Q I e d h;obtain⟨hs,q⟩:=h;cases x with
 |non=>
  cases e;cases y with
  |non=>cases d;show PySem.EqNone.ne_none_none (cq I q ∅)
  |bl j=>cases d;show PySem.EqNone.ne_none_bool (cq I q ∅)
  |int j=>obtain⟨t',rfl⟩:=d;show PySem.EqNone.ne_none_int (cq I q ∅)
  |str j=>obtain⟨t',rfl⟩:=d;show PySem.EqNone.ne_none_str (cq I q ∅)
  |_=>show MJ (show MA=LZ from hs) aO
 |bl i=>
  cases e;cases y with
  |non=>cases d;show PySem.EqNone.ne_bool_none (cq I q ∅)
  |bl j=>cases d;show ne_bool (cq I q (ML not Vm))
  |str j=>obtain⟨t',rfl⟩:=d;show PySem.EqMixed.ne_bool_str (cq I q ∅)
  |_=>show MJ (show MA=LZ from hs) aO
 |int i=>
  obtain⟨t,rfl⟩:=e;cases y with
  |non=>cases d;show PySem.EqNone.ne_int_none (cq I q ∅)
  |int j=>obtain⟨t',rfl⟩:=d;show ne_int (cq I q (ML not P6))
  |str j=>obtain⟨t',rfl⟩:=d;show PySem.EqMixed.ne_int_str (cq I q ∅)
  |_=>show MJ (show MA=LZ from hs) aO
 |str i=>
  obtain⟨t,rfl⟩:=e;cases y with
  |non=>cases d;show PySem.EqNone.ne_str_none (cq I q ∅)
  |bl j=>cases d;show PySem.EqMixed.ne_str_bool (cq I q ∅)
  |int j=>obtain⟨t',rfl⟩:=d;show PySem.EqMixed.ne_str_int (cq I q ∅)
  |str j=>obtain⟨t',rfl⟩:=d;show ne_str (cq I q (ML not P7))
  |_=>show MJ (show MA=LZ from hs) aO
 |byt i=>
  obtain⟨t,rfl⟩:=e;cases y with
  |byt j=>obtain⟨t',rfl⟩:=d;show PySem.W.ne_bytes (cq I q (ML not P8))
  |_=>show MJ (show MA=LZ from hs) aO
 |_=>cases y<;>show MJ (show MA=LZ from hs) aO
def op_lt:OpR X (eJ .Lt) (rI0 λi j=>.bl (decide (i < j))):=Y4 λ_ _ _ _ _ _ _ q=>lt_int q
def op_gt:OpR X (eJ .Gt) (rI0 λi j=>.bl (decide (j < i))):=Y4 λ_ _ _ _ _ _ _ q=>gt_int q
def op_ge:OpR X (eJ .GtE) (rI0 λi j=>.bl (decide (j<=i))):=Y4 λ_ _ _ _ _ _ _ q=>ge_int q
def Kk:OpR X (eJ .Is) (λx y H Q=>y=.non/\Q (.bl (decide (x=.non))) H):=by
 intro f s g H x y v u Q I d e h;obtain⟨rfl,q⟩:=h;cases e;show is_none_gen (cq I q ?_);cases x<;>first
  | (cases d;rfl)
  | (obtain⟨t,rfl⟩:=d;rfl)
def Fi:OpR X (eJ .IsNot) (λx y H Q=>y=.non/\Q (.bl (!decide (x=.non))) H):=by
 intro f s g H x y v u Q I d e h;obtain⟨rfl,q⟩:=h;cases e;show isnot_none_gen (cq I q ?_);cases x<;>first
  | (cases d;rfl)
  | (obtain⟨t,rfl⟩:=d;rfl)
def OpR.or (h:OpR X f r)(h':OpR X f j):OpR X f (λx y H Q=>r x y H Q\/j x y H Q):=by
 intro d s e H x y v u Q I g i q;rcases q with q | q
 ·show h d s e H x y v u Q I g i q
 ·show h' d s e H x y v u Q I g i q
def aea {op:CmpOp}{r:R2}(d:OpR X (eJ op) r)(e:PE X a ta)(f:PE X b tb)(g:pP op b=MA):PE X (.Compare a [op] [b] pos) (tOp r ta tb):=by
 intro i s j H Q I h;show wpAny_Compare1 (Y3 e f I h λv u l x y m I2 n o q=>d i l j m x y v u Q I2 n o q) g
def tTest (t:TE):TT:=λd H Q=>t d H λx H'=>∃k,x=.bl k/\Q k H'
def aeb (g:OpR X (eJ op) r)(i:PE X a ta)(j:PE X b tb)(l:pP op b=MA):PT X (.Compare a [op] [b] pos) (tTest (tOp r ta tb)):=by
 intro d s f H Q I h;show wpAny_isTrue_Compare1 (thn (i d s f H _ I h) λv m ⟨x,n,o,p,q⟩=>thn (j d m f n _ o q) λu w ⟨y,A,I2,C,D⟩=>
   thn (g d w f A x y v u _ I2 p C D) λc N ⟨z,E,G,J,k,e,L⟩=>?_) l
 subst e;cases J;show kQ #v[E,G,L]
def Y6 (K:aG)(x:V)(H:Hp)(k:Bool):Prop:=
 match x with
 | .non=>k=MA
 | .bl b=>k=b
 | .int i=>k=(i != 0)
 | .str y=>y.length<=sizeLine/\k=((y.length:Int) != 0)
 | .byt y=>y.size<=sizeLine/\k=((y.size:Int) != 0)
 | .ref p=>(∃xs,SqL K H p xs/\k=!xs.isEmpty)\/(∃xs,SqT K H p xs/\k=!xs.isEmpty)\/∃kvs,H p=KE (.dK kvs)/\k=!kvs.isEmpty
 |_=>False
def Sw {d:Type}{kvs:List (d×V)}{vs:List (d×aE)}(r:KV kvs vs):(!vs.isEmpty)=!kvs.isEmpty:=by
 cases r<;>rfl
def D6 {xs:List V}{its:List aE}(r:Vals xs its):(!its.toArray.isEmpty)=!xs.isEmpty:=by
 cases r<;>simp
def mf:(sizeLine:Nat) < 2 ^ 63:=by rw[iE];decide
def aij:TruR X (λx H Q=>∃k,Y6 X.K x H k/\Q k H):=by
 intro o s u H x v Q I f h;obtain⟨k,e,q⟩:=h;have z:=mf;have hs:sizeLine=16777216:=iE;cases x with
 |non=>
  cases f;have d:k=MA:=e;subst d;show truthy_none #v[H,I,q]
 |bl b=>
  cases f;have d:k=b:=e;subst d;show kQ #v[H,I,q]
 |int i=>
  obtain⟨t,rfl⟩:=f;have d:k=(i != 0):=e;subst d;show PySem.P.truthy_int #v[H,I,q]
 |str y=>
  obtain⟨t,rfl⟩:=f;obtain⟨l,d⟩:y.length<=sizeLine/\k=((y.length:Int) != 0):=e;subst d;show PySem.P.truthy_str () {H,I.tok _,q}
 |byt y=>
  obtain⟨t,rfl⟩:=f;obtain⟨l,d⟩:y.size<=sizeLine/\k=((y.size:Int) != 0):=e;subst d;show PySem.W.truthy_bytes () {H,I.tok _,q}
 |ref p=>
  cases f;have d:(∃xs,SqL X.K H p xs/\k=!xs.isEmpty)\/(∃xs,SqT X.K H p xs/\k=!xs.isEmpty)\/∃kvs,H p=KE (.dK kvs)/\k=!kvs.isEmpty:=e;rcases d with⟨xs,g,d⟩ | ⟨xs,g,d⟩ | ⟨kvs,g,d⟩
  ·subst d;obtain⟨its,r,pl,hz⟩:=I.list g;have j:=r.length;show wpAny_truthy_list pl.isList (by simp only[aM];lia) {H,I.tok _,by rw[D6 r];show q}
  ·subst d;obtain⟨its,r,pl,hz⟩:=I.tuple g;have j:=r.length;show truthy_tuple pl (by simp only[aM];lia) {H,I.tok _,by rw[D6 r];show q}
  ·subst d;obtain⟨hz,n,vs,r,m⟩:kvs.length<=sizeLine/\(p == fZ)=MA/\∃vs,KV kvs vs/\s.heap.DictOf (g7 X.prog X.w) p vs:=I.hok p _ g;have j:kvs.length=vs.length:=Paired.length r;show wpAny_truthy_dict n m () {H,I.tok _,by rw[Sw r];show q}
 |_=>show(show False from e).elim
def Y7 (g:PE X a ta)(i:∀e,sL a X.env e=(do let v <-e;oV a.pos;jZ [v] (truthy v))) :
  PT X a (λd H Q=>ta d H λx H'=>∃k,Y6 X.K x H' k/\Q k H'):=by
 intro f s d H Q I h;show isTrue_plain (thn (g f s d H _ I h) λv j l=>by obtain⟨x,m,n,o,p⟩:=l;show aij f j d m x v Q n o p) (i _)
def Sx:OpR X (eA .Add) (λx y H Q=>∃i j,x=.str i/\y=.str j/\i.length+j.length<=sizeLine/\Q (.str (i++j)) H):=by
 intro f s g H x y v u Q I d e h;obtain⟨i,j,rfl,rfl,hz,q⟩:=h;obtain⟨t,rfl⟩:=d;obtain⟨t',rfl⟩:=e;show add_str (λt' l=>{.str (i++j),H,I.tok _,{_,rfl},q}) hz
def k8 {x:V}{us:List aE}(r:Vals [x] us):∃u,us=[u]/\RelV x u:=by
 cases r with
 |cons d e=>cases e;show{_,rfl,d}
def J5 {x y:V}{us:List aE}(r:Vals [x,y] us):∃u d,us=[u,d]/\RelV x u/\RelV y d:=by
 cases r with
 |cons e f=>
  cases f with
  |cons g h=>cases h;show{_,_,rfl,e,g}
def Y8:j9 X (.builtin "abs") (λxs H Q=>∃i,xs=[.int i]/\Q (.int (if i < 0 then -i else i)) H):=by
 intro d s e H xs us Q I r h;obtain⟨i,rfl,q⟩:=h;obtain⟨u,rfl,t,rfl⟩:=k8 r;show call_abs_int λu f=>{.int (if i < 0 then -i else i),H,I.tok _,{_,rfl},q}
def Vn (e:X.calm=LZ):j9 X (.builtin "max") (λxs H Q=>∃i j,xs=[.int i,.int j]/\Q (.int (if j > i then j else i)) H):=by
 intro f s g H xs us Q I r h;obtain⟨i,j,rfl,q⟩:=h;obtain⟨u,l,rfl,⟨t,rfl⟩,⟨t',rfl⟩⟩:=J5 r;show max_two_ints (I.ok.hd e) λh' m k=>{_,H,I.kept k,?_,q};by_cases d:j > i
 ·rw[MF d,MF d];show{_,rfl}
 ·rw[MG d,MG d];show{_,rfl}
def Vo (e:X.calm=LZ):j9 X (.builtin "min") (λxs H Q=>∃i j,xs=[.int i,.int j]/\Q (.int (if j < i then j else i)) H):=by
 intro f s g H xs us Q I r h;obtain⟨i,j,rfl,q⟩:=h;obtain⟨u,l,rfl,⟨t,rfl⟩,⟨t',rfl⟩⟩:=J5 r;show min_two_ints (I.ok.hd e) λh' m k=>{_,H,I.kept k,?_,q};by_cases d:j < i
 ·rw[MF d,MF d];show{_,rfl}
 ·rw[MG d,MG d];show{_,rfl}
def Hi:j9 X (.type "int") (λxs H Q=>(∃i,xs=[.int i]/\Q (.int i) H)\/∃k,xs=[.bl k]/\Q (.int (if k then 1 else 0)) H):=by
 intro e s f H xs us Q I r h;rcases h with⟨i,rfl,q⟩ | ⟨k,rfl,q⟩
 ·obtain⟨u,rfl,t,rfl⟩:=k8 r;show call_int_int {.int i,H,I,{_,rfl},q}
 ·obtain⟨u,rfl,d⟩:=k8 r;cases d;show call_int_bool {.int (if k then 1 else 0),H,I.tok _,{_,rfl},q}
end
structure ObjM (h:MC)(x dx C:MB)(mA:Str->Option aE):Prop where
 obj:h.get? x=KE (iF C dx)
 ns:h.Ns1 dx mA
 ne:dx≠x
def Vp {h:MC}(n:h.Ns1 f g):∃c,h.get? f=KE c/\∀name,oW name c=KE (g name):=by
 obtain⟨o,d,ep,i,hd,hk,_,j⟩:=n;show{o,i,λname=>?_};have e:=j name;unfold nsFind findBy at e;rw[<-Array.find?_toList]at e;unfold oW;rw[hd];dsimp only
 split
 ·rename_i y q
  rw[q]at e;show ML KE e
 ·rename_i q
  rw[q]at e;have a:d.toList.any (·.refKey)=MA:=by
   rw[List.any_eq_false];intro y l;obtain⟨z,t,b⟩:=hk y (Array.mem_toList_iff.mp l);simp[DictEntry.refKey,b]
  have m:¬d.toList.any (·.refKey)=LZ:=(by rw[a];show aO);rw[MG m];show ML KE e
def ObjM.look {h:MC}{x b C:MB}{c:Str->Option aE}(I:ObjM h x b C c):∃a,PySem.W.InstAt h x (iF C b) C (KE a)/\∀name,oW name a=KE (c name):=
 let ⟨a,d,e⟩:=Vp I.ns
 {a,#v[I.obj,rfl,rfl,d],e}
section
variable {prog:aV}{w:bA}{A:bV}{E:aE->aH->Prop}{s:aH}{K:aG}{x dx C f:MB}{mA:Str->Option aE}{name:Str}{v:aE}
def aec (X:K.In s.heap)(I:ObjM s.heap x dx C mA)(b:kY K C name=LZ)(c:mQ K C=LZ)
  (d:dD K (.ref C) name=KE LY) (e:mA name=KE v) (a:PySem.W.handedIn v=LZ) (h:Q v { s with toks:=s.toks+1 }) :
  aL (aX prog w) A (getAttr (.ref x) name expr) Q E s:=by
 obtain⟨i,J,g⟩:=I.look;show PySem.W.get_value X J (oR b).1 (PySem.W.findObj_own c d rfl (by rw[g,e])) a h
def Y9 (X:K.In s.heap)(I:ObjM s.heap x dx C mA)(a:kY K C name=LZ)
  (b:dD K (.ref C) name=KE (KE (.ref f))) (c:iV K (.ref f)=LZ) (d:mA name=LY) (h:Q (.ref f,[.ref x]) s) :
  aL (aX prog w) A (pI (.ref x) name pl) Q E s:=by
 obtain⟨e,J,g⟩:=I.look;show PySem.W.method_fn X J (oR a).1 (oR a).2 b (beq_iff_eq.mp c) (by change(oW name e).map (·.isSome)=KE MA;rw[g,d];rfl) h
def aed (X:K.In s.heap)(I:ObjM s.heap x dx C mA)
  (hs:dD K (.ref C) "__setattr__"=KE (KE (.builtin "object.__setattr__"))) (j:pW K C=LZ) (l:qV K C name=KE LY) (m:mQ K C=LZ)
  (hw:sJ mA ns) (hsz:ns.length<=sizeLine)
  (h:∀h',ObjM h' x dx C (λy=>if y=name then KE v else mA y)->dZ dx s.heap h'->Q Unit.unit { s with heap:=h',toks:=s.toks+2 }) :
  aL (aX prog w) A (setAttr (.ref x) name v) Q E s:=by
 obtain⟨z,J,D⟩:=I.look;show PySem.W.set_plain X J hs (PySem.W.osa_open (s:={ s with toks:=s.toks+1 }) (r:=LY) X J j l λb=>?_);obtain⟨cd,n,o⟩:=PySem.W.any_some m;have p:s.heap.get? x=KE ⟨.ref C,KE dx,.plain,#[]⟩:=I.obj;show aA (wpAny_pure (aA (aA (wpAny_loadPart p (aA (PySem.W.Looks.here (s:={ s with toks:=s.toks+1 }) (PySem.W.looks_clsIn X n) ?_))))));rw[o];show wpAny_pure (a:=KE dx) (aA (wpAny_pure (aA ?_)));show wpAny_nsSet1 (s:={ s with toks:=s.toks+1 }) I.ns λh' g i=>?_;obtain⟨G,q,u,c,d,e⟩:=g.count (PySem.Within.cons name v hw);show aA (wpAny_lookBehind c (by rw[d];show pastItsLine_dict (bK e (by rw[aZ];lia))) ?_);show wpAny_pure (h _ {(i.2 _ (Ne.symm I.ne)).trans I.obj,g,I.ne} i)
def Za (X:K.In s.heap)(b:nX K C=LZ)
  (hi:dD K (.ref C) "__init__"=KE (KE (.ref f))) (c:PySem.W.typeIn K (.ref f)=KE (.type "function"))
  (h:lH (aX prog w) (A.under (.builtin "type.__call__" {.ref C::vs,a})) (.call (.ref f) {.ref (‹s›+1)::vs,a}) (PySem.W.InitBack (‹s›+1) R) { s with heap:=(s.heap.push fW).push (iF C ‹s›) }) :
  lH (aX prog w) A (.call (.ref C) #v[vs,a]) R s:=by
 obtain⟨e,g,d,t,os⟩:=s;show PySem.W.make_core (PySem.W.makes_of X b) (PySem.W.looks_findIn X hi) (λself=>PySem.W.bind_fn X self c) (.inl rfl) h
end
def j6 (f:Str)(v:V):List (Str×V)->List (Str×V)
 | []=>[(f,v)]
 | (g,x)::r=>if g=f then (g,v)::r else (g,x)::j6 f v r
theorem Cg (f g:Str)(v:V):∀fs:List (Str×V),(j6 f v fs).lookup g=if g=f then KE v else fs.lookup g
 | []=>by
  change kM g [(f,v)]=_;by_cases h:g=f
  ·have a:(g == f)=LZ:=beq_iff_eq.mpr h;simp only[kM,a,MF h]
  ·have a:(g == f)=MA:=beq_eq_false_iff_ne.mpr h;simp only[kM,a,MG h]
 | (k,x)::r=>by
  have b:=Cg f g v r;rw[show j6 f v ((k,x)::r)=(if k=f then (k,v)::r else (k,x)::j6 f v r)from rfl]
  by_cases hk:k=f
  ·rw[MF hk];by_cases h:g=k
   ·have a:(g == k)=LZ:=beq_iff_eq.mpr h;simp only[kM,a,MF (h.trans hk)]
   ·have a:(g == k)=MA:=beq_eq_false_iff_ne.mpr h;simp only[kM,a,MG (λe:g=f=>h (e.trans hk.symm))]
  ·rw[MG hk];by_cases h:g=k
   ·have a:(g == k)=LZ:=beq_iff_eq.mpr h;simp only[kM,a,MG (λe:g=f=>hk (h.symm.trans e))]
   ·have a:(g == k)=MA:=beq_eq_false_iff_ne.mpr h;simp only[kM,a];show b
theorem zw (f:Str)(v:V):∀fs:List (Str×V),f∈(j6 f v fs).map (·.1)/\∀g,g∈fs.map (·.1)->g∈(j6 f v fs).map (·.1)
 | []=>{by simp[j6],λg h=>by simp at h}
 | (k,x)::r=>by
  obtain⟨a,b⟩:=zw f v r;rw[show j6 f v ((k,x)::r)=(if k=f then (k,v)::r else (k,x)::j6 f v r)from rfl]
  by_cases hk:k=f
  ·rw[MF hk];subst hk;show{by simp,λg h=>by simpa using h}
  ·rw[MG hk];show{?_,λg h=>?_}
   ·rw[bB];show aP _ a
   ·rw[bB]at h ⊢;rcases aW.mp h with e | e
    ·show List.mem_cons.mpr (.inl e)
    ·show aP _ (b g e)
theorem Ci (f:Str)(v:V):∀fs:List (Str×V),(j6 f v fs).length<=fs.length+1
 | []=>by simp[j6]
 | (k,x)::r=>by
  have a:=Ci f v r;rw[show j6 f v ((k,x)::r)=(if k=f then (k,v)::r else (k,x)::j6 f v r)from rfl]
  by_cases hk:k=f
  ·rw[MF hk,aZ,aZ];lia
  ·rw[MG hk,aZ,aZ];lia
def RelO.some_of {v:V}{o:Option aE}(r:RelO (KE v) o):∃u,o=KE u/\RelV v u:=by
 cases o with
 |none=>show(show False from r).elim
 |some u=>show#v[u,rfl,r]
def RelO.none_of (r:RelO LY o):o=LY:=by
 cases o with
 |none=>rfl
 |some u=>show(show False from r).elim
def Vq {v:V}{u:aE}(r:RelV v u):PySem.W.handedIn u=LZ:=by
 cases v with
 |non=>cases(show u=eB from r);rfl
 |bl b=>cases(show u=qI b from r);rfl
 |int i=>obtain⟨t,e⟩:=(show ∃t,u=jM i t from r);cases e;rfl
 |str x=>obtain⟨t,e⟩:=(show ∃t,u=qT x t from r);cases e;rfl
 |byt b=>obtain⟨t,e⟩:=(show ∃t,u=Value.bytes b t from r);cases e;rfl
 |flt b=>obtain⟨t,e⟩:=(show ∃t,u=tQ b t from r);cases e;rfl
 |ref a=>cases(show u=bY a from r);rfl
 |ty n=>cases(show u=mD n from r);rfl
section
variable {P:aV}{w:bA}{H H':Hp}{h h':MC}{a C dx:MB}{fs BN:List (Str×V)}
def Bi (hok:HOk P w H h)(e:H a=KE (.ins C dx fs)):∃b,ObjM h a dx C b/\(∀f,RelO (fs.lookup f) (b f))/\sJ b (fs.map (·.1))/\fs.length<=1000/\H dx=KE (.own a):=by
 obtain⟨d,z,ne,c,b,n,r,q⟩:=(show ObjOk P w H h a (.ins C dx fs)from hok a _ e);show{b,#v[c,n,ne],r,q,z,d}
end
structure Cls (K:aG)(C:MB):Prop where
 pg:kY K C Str.empty=LZ
 hd:mQ K C=LZ
 po:pW K C=LZ
 sa:dD K (.ref C) "__setattr__"=KE (KE (.builtin "object.__setattr__"))
def Cls.get {K:aG}{C:MB}(c:Cls K C)(f:Str):kY K C f=LZ:=c.pg
def NoAttr (K:aG)(C:MB)(f:Str):Prop:=dD K (.ref C) f=KE LY
def NoAttr.taker {K:aG}{C:MB}{f:Str}(n:NoAttr K C f):qV K C f=KE LY:=by
 unfold qV;rw[show dD K (.ref C) f=KE LY from n];rfl
structure Sy (K:aG)(C:MB)(m:Str)(f:MB):Prop where
 at_:dD K (.ref C) m=KE (KE (.ref f))
 fn:iV K (.ref f)=LZ
 kp:fK K (.ref f)=LZ
section
variable {X:Cx}{f':List (MB×Obj)}{σ:St}{H:Hp}{s:aH}{a C dx:MB}{fs:List (Str×V)}{f:Str}{v:V}{A:bV}{E:aE->aH->Prop}
def Sz (I:Inv X f' σ H s)(e:H a=KE (.ins C dx fs))(c:Cls X.K C)(n:NoAttr X.K C f)(l:fs.lookup f=KE v)
  (h:∀u s',Inv X f' σ H s'->RelV v u->Q u s'):aL (aX X.prog X.w) A (getAttr (.ref a) f b) Q E s:=by
 obtain⟨g,O,r,_,_,_⟩:=Bi I.hok e;obtain⟨u,i,d⟩:=RelO.some_of (v:=v) (o:=g f) (by rw[<-l];show r f);show aec I.kIn O (c.get f) c.hd n i (Vq d) (h u _ (I.tok _) d)
def S0 (I:Inv X f' σ H s)(e:H a=KE (.ins C dx fs))(c:Cls X.K C)(k:Sy X.K C m g)(l:fs.lookup m=LY)
  (h:Q (.ref g,[.ref a]) s):aL (aX X.prog X.w) A (pI (.ref a) m pl) Q E s:=by
 obtain⟨b,O,r,_,_,_⟩:=Bi I.hok e;have d:b m=LY:=RelO.none_of (by rw[<-l];show r m);show Y9 I.kIn O (c.get m) k.at_ k.fn d h
def S2 (I:Inv X f' σ H s)(e:H a=KE (.ins C dx fs))(c:Cls X.K C)(n:NoAttr X.K C f)(L:fs.length < 1000)(m:RelV y u)
  (h:∀s',Inv X f' σ (upd H a (.ins C dx (j6 f y fs))) s'->Q Unit.unit s'):aL (aX X.prog X.w) A (setAttr (.ref a) f u) Q E s:=by
 obtain⟨i,O,r,j,_,l⟩:=Bi I.hok e;have hz:(fs.map (·.1)).length<=sizeLine:=(by rw[aC,iE];lia);show aed I.kIn O c.sa c.po n.taker c.hd j hz λh' d p=>h _ ?_;have hd:∃o,h'.get? dx=KE o:=let ⟨o,_,_,D,_⟩:=d.ns;#v[o,D];show I.write (x:=a) (e:=dx) (by rw[e];show gZ) (.inr l) (λb q G z=>(p.2 b G).trans z) hd ?_;show{by rw[bc O.ne];show l,?_,O.ne,d.obj,_,d.ns,λg=>?_,λg J=>?_}
 ·have:=Ci f y fs;lia
 ·change RelO ((j6 f y fs).lookup g) (if g=f then KE u else i g)
  rw[Cg];by_cases q:g=f
  ·rw[MF q,MF q];show m
  ·rw[MG q,MG q];show r g
 ·by_cases q:g=f
  ·rw[q];show(zw f y fs).1
  ·show(zw f y fs).2 g (j g λz=>J ?_);change(if g=f then KE u else i g)=LY
   rw[MG q];show z
def Inv.made (I:Inv X f' σ H s):Inv X f' σ (upd (upd H ‹s› (.own (‹s›+1))) (‹s›+1) (.ins C ‹s› []))
  { s with heap:=(s.heap.push fW).push (iF C ‹s›) }:=by
 have c:(s.heap.push fW).get? ‹s›=KE fW:=aT s.heap rfl;have d:((s.heap.push fW).push (iF C ‹s›)).get? (‹s›+1)=KE (iF C ‹s›):=by
  have:=aT (s.heap.push fW) (o:=iF C ‹s›) rfl
  rwa [eQ]at this
 have g:(s.heap.push fW).Ns ‹s› (λ_=>LY):={fW,#[],_,c,rfl,(λe h=>MJ h ∅),λ_=>rfl};have i:=I.laid (a:=‹s›) (o:=.own (‹s›+1)) (h':=s.heap.push fW) (t':=s.toks) (λb u q=>aF _ q) (aJ _) {_,c};show i.laid (a:=‹s›+1) (o:=.ins C ‹s› []) (t':=s.toks) (λb u q=>aF _ q) (Nat.le_of_eq (eQ _ _)) ?_;have ne:‹s›≠‹s›+1:=bJ (fF _);show{by rw[bc ne,bp],cP _,ne,d,λ_=>LY,(Heap.Ns1.of_empty g).at λo q=>aF _ q,λ_=>gZ,λy j=>MJ rfl j}
def aee (c:hU e f env (eval e env)=eval e env)
  (h:aL (aX prog w) A (eval e env) (λo b=>aL (aX prog w) A (getAttr o f LZ) Q E b) E s):aL (aX prog w) A (eval (.Attribute e f d) env) Q E s:=
 Attribute_any_ h (by rw[arm_eval_Attribute,c])
end
def tFld (K:aG)(c:TE)(f:Str):TE:=λd H Q=>c d H λx b=>∃a C e fs v,x=.ref a/\b a=KE (.ins C e fs)/\Cls K C/\NoAttr K C f/\fs.lookup f=KE v/\Q v b
def sFld (K:aG)(e g:TE)(f:Str):TS:=λD b H=>g b H λy h=>e b h λx c=>∃a C d fs,x=.ref a/\c a=KE (.ins C d fs)/\Cls K C/\NoAttr K C f/\fs.length < 1000/\
 D.nx b (upd c a (.ins C d (j6 f y fs)))
section
variable {X:Cx}{o e value:MD}{f:Str}{pos wR zS:Pos}{ta tv:TE}
def aik (b:PE X e ta)(d:hU e f X.env (eval e X.env)=eval e X.env):PE X (.Attribute e f pos) (tFld X.K ta f):=by
 intro g s i H Q I h;show aee d (thn (b g s i H _ I h) λu z j=>?_);obtain⟨x,m,p,r,a,C,A,fs,v,ex,w,c,n,l,q⟩:=j;subst ex;obtain rfl:u=bY a:=r;show Sz p w c n l λD E I2 y=>#v[v,m,I2,y,q]
def ail (i:PE X o ta)(j:PE X value tv)(hs:kA value (KE (.Attribute o f wR)) pos.line X.env=pure MA):PS X (.Assign [.Attribute o f wR] value pos) (sFld X.K ta tv f):=by
 intro g s b H D I h;show plainObj_wpAny_Assign_Attribute (thn (j g s b H _ I h) λu m d=>?_) hs;obtain⟨y,p,r,w,q⟩:=d;show thn (i g m b p _ r q) λz L d=>?_;obtain⟨x,N,I2,A,a,C,O,fs,ex,E,c,n,l,G⟩:=d;subst ex;obtain rfl:z=bY a:=A;show S2 I2 E c n l w λQ J=>{b,_,J,G}
end
section
variable {X:Cx}{f':List (MB×Obj)}{σ:St}{H:Hp}{s:aH}{A:bV}{E:aE->aH->Prop}{Q:aE->aH->Prop}{c:aE}{b:Bool}
inductive qb (K:aG)(H:Hp):V->aE->Prop where
 |non:qb K H .non (.type "NoneType")
 |bl (x:Bool):qb K H (.bl x) (.type "bool")
 |int (i:Int):qb K H (.int i) (.type "int")
 |str (x:Str):qb K H (.str x) (.type "str")
 |flt (x:UInt64):qb K H (.flt x) (.type "float")
 |lst {a:MB}{xs:List V}(e:H a=KE (.lst xs)):qb K H (.ref a) (.type "list")
 |frz {a:MB}{o:Obj}{xs:List V}(e:H a=KE (.frz o (.lst xs))):qb K H (.ref a) (.type "list")
 |tup {a:MB}{xs:List V}(e:H a=KE (.tup xs)):qb K H (.ref a) (.type "tuple")
 |dK {a:MB}{kvs:List (Key×V)}(e:H a=KE (.dK kvs)):qb K H (.ref a) (.type "dict")
 |dT {a:MB}{kvs:List (List Key×V)}(e:H a=KE (.dT kvs)):qb K H (.ref a) (.type "dict")
 |ins {a C dx:MB}{fs:List (Str×V)}(e:H a=KE (.ins C dx fs)) (cl:Cls K C) (ha:dD K (.ref C) "__class__"=KE (KE (.builtin "object.__class__")))
   (hn:mR K (.builtin "object.__class__") "__get__"=KE (KE (.builtin "getset_descriptor.__get__"))) (JY:PySem.W.takesIn K (.builtin "object.__class__")=KE LZ)
   (hm:PySem.W.mroIn K C (.type "object")=KE LZ):qb K H (.ref a) (.ref C)
def Vr {x:V}{u t:aE}(I:Inv X f' σ H s)(d:RelV x u)(ty:qb X.K H x t)(e:bO X.K t c=KE b)(h:∀l,Q (.bool b) { s with toks:=l }) :
  aL (aX X.prog X.w) A (call (.builtin "isinstance") [u,c]) Q E s:=by
 cases ty with
 |non=>cases(show u=eB from d);show eR PySem.W.kitx_none I.kIn gZ e (λz=>nomatch z) h
 |bl y=>cases(show u=qI y from d);show eR PySem.W.kitx_bool I.kIn gZ e (λz=>nomatch z) h
 |int i=>obtain⟨t,q⟩:=(show ∃t,u=jM i t from d);cases q;show eR PySem.W.kitx_int I.kIn gZ e (λz=>nomatch z) h
 |str y=>obtain⟨t,q⟩:=(show ∃t,u=qT y t from d);cases q;show eR PySem.W.kitx_str I.kIn gZ e (λz=>nomatch z) h
 |flt y=>obtain⟨t,q⟩:=(show ∃t,u=tQ y t from d);cases q;show eR PySem.W.kitx_float I.kIn gZ e (λz=>nomatch z) h
 |@lst a xs f=>
  cases(show u=bY a from d);obtain⟨_,_,n,_,g⟩:=(show ObjOk X.prog X.w H s.heap a (.lst xs)from I.hok a _ f);show eR pX I.kIn {_,g,rfl} e (λz=>nomatch z) h
 |@frz a m xs f=>
  cases(show u=bY a from d);obtain⟨_,_,_,n,_,g⟩:=(show ObjOk X.prog X.w H s.heap a (.frz m (.lst xs))from I.hok a _ f);show eR pX I.kIn {_,g,rfl} e (λz=>nomatch z) h
 |@tup a xs f=>
  cases(show u=bY a from d);obtain⟨_,_,_,p⟩:=(show ObjOk X.prog X.w H s.heap a (.tup xs)from I.hok a _ f);obtain⟨o,g,j,_⟩:=p;show eR PySem.W.kitx_tuple I.kIn #v[o,g,j] e (λz=>nomatch z) h
 |@dK a kvs f=>
  cases(show u=bY a from d);obtain⟨_,_,vs,_,p⟩:=(show ObjOk X.prog X.w H s.heap a (.dK kvs)from I.hok a _ f);obtain⟨o,r,ep,g,j,_⟩:=p;show eR PySem.W.kitx_dict I.kIn #v[o,g,j.1] e (λz=>nomatch z) h
 |@dT a kvs f=>
  cases(show u=bY a from d);obtain⟨_,_,xs,_,o,r,ep,g,j,_⟩:=(show ObjOk X.prog X.w H s.heap a (.dT kvs)from I.hok a _ f);show eR PySem.W.kitx_dict I.kIn #v[o,g,j.1] e (λz=>nomatch z) h
 |@ins a C T fs f cl D G L N=>
  cases(show u=bY a from d);obtain⟨U,O,_⟩:=Bi I.hok f;obtain⟨Y,J,_⟩:=O.look;show eR (PySem.W.kitx_own (cl.get _) cl.hd D G L N) I.kIn J e (λz=>nomatch z) h
end
structure Room (k:Nat)(A:bV):Prop where
 hd:A.handled=LY
 dp:A.depth+3 * k+5 < recursionLimit
 un:A.units+16 * k+200 < dJ
def Room.mono {j k:Nat}{A:bV}(r:Room k A)(h:j<=k):Room j A:=⟨r.hd,by have:=r.dp;lia,by have:=r.un;lia⟩
theorem Room.deeper {k:Nat}{A:bV}(r:Room (k+1) A)(env:Env):Room k (A.deeper env):=
 ⟨r.hd,by have:=r.dp;change A.depth+1+3 * k+5 < _;lia,by have:=r.un;change A.units+3+16 * k+200 < _;lia⟩
def S3 {A:bV}:(A.under (.builtin "type.__call__" {.ref C::us,a})).depth=A.depth+1:=by
 first | rfl | simp[sO,Code.weight,Code.isCreation,Code.isGuard,Code.isCaller,Code.frames,sP,guardIds]
def S4 {A:bV}:(A.under (.builtin "type.__call__" {.ref C::us,a})).units=A.units+1:=by
 first | rfl | simp[sO,Code.cUnits,Code.frames,sP]
def Room.make {k:Nat}{A:bV}(r:Room (k+1) A)(C:MB)(us:List aE)(a:List (Str×aE)):Room k (A.under (.builtin "type.__call__" {.ref C::us,a})):=
 ⟨r.hd,by have:=r.dp;rw[S3];lia,by have:=r.un;rw[S4];lia⟩
theorem Room.depth {k:Nat}{A:bV}(r:Room k A):A.depth < recursionLimit:=by have:=r.dp;lia
theorem Room.units {k:Nat}{A:bV}(r:Room k A):A.units+64 < dJ:=by have:=r.un;lia
def tNil:TA:=λ_ H Q=>Q [] H
def tCons (b:TE)(tr:TA):TA:=λa H Q=>b a H λx c=>tr a c λxs d=>Q (x::xs) d
section
variable {X:Cx}{e:MD}{es:List MD}{te:TE}{t:TA}{pos:Pos}
def Kl:PA X [] tNil:=λ_ _ _ _ H Q I h=>mS {[],H,I,.nil,h}
def xn (d:PE X e te)(f:PA X es t)(hs:aN (e::es) X.env=(MA,eval e X.env)::aN es X.env:=by rfl):PA X (e::es) (tCons te t):=by
 intro pos b s c H Q I h;rw[hs];change aL _ _ (tK ((MA,eval e X.env)::dP pos (aN es X.env))) _ _ s;show lQ (thn (d b s c H _ I h) λu g a=>?_);obtain⟨x,i,j,l,m⟩:=a;show thn (f pos b g c i _ j m) λus q a=>by obtain⟨xs,n,I2,o,p⟩:=a;show{x::xs,n,I2,.cons l o,p}
def tTup (t:TA):TE:=λb H Q=>t b H λxs a=>xs.length<=sizeLine/\∀p,a p=LY->Q (.ref p) (upd a p (.tup xs))
def tLst (t:TA):TE:=λb H Q=>t b H λxs a=>xs.length<=sizeLine/\∀p,a p=LY->Q (.ref p) (upd a p (.lst xs))
def aim (h:PA X es t):PE X (.Tuple es l pos) (tTup t):=by
 intro f s g H Q I i;show wpAny_Tuple_spliced (thn (h pos f s g H _ I i) λus a ⟨xs,c,d,r,z,q⟩=>{by rw[<-r.length];show z,?_});have j:c ‹a›=LY:=d.hok.fresh (aJ _);show{.ref ‹a›,upd c ‹a› (.tup xs),d.laid (t':=a.toks) (λb u e=>aF _ e) (aJ _) ?_,rfl,q _ j};show{z,us,r,{_,aT _ rfl,rfl,_,rfl}}
def ain (h:PA X es t):PE X (.List es pos) (tLst t):=by
 intro f s g H Q I i;show wpAny_List_spliced (thn (h pos f s g H _ I i) λus a ⟨xs,c,d,r,z,q⟩=>{by rw[<-r.length];show z,?_});have j:c ‹a›=LY:=d.hok.fresh (aJ _);show{.ref ‹a›,upd c ‹a› (.lst xs),d.laid (t':=a.toks) (λb u e=>aF _ e) (aJ _) ?_,rfl,q _ j};show{z,us,0,r,aT _ rfl}
end
abbrev Sp:=List V->Hp->VK->XK->Prop
abbrev CXT:=List Env->Hp->aH->XK->aE->aH->Prop
structure Env0 (P:aV)(w:bA)(K:aG)(mg:Str->Option aE)(base:MC)(A:bV)(outer:List Env)(s:aH)(H:Hp):Prop where
 frames:A.frames=KE outer
 mod:Mod K mg base
 bs:∀b o,base.get? b=KE o->s.heap.get? b=KE o/\H b=LY
 bsz:base.objs.size<=‹s›
 funs:s.heap.FunFrames base outer
 frf:∀b∈frs outer,H b=LY
 hok:HOk P w H s.heap
 bare:nO s.gens
def CE (outer:List Env)(P:aV)(w:bA)(H:Hp)(s:aH)(Q:VK)(u:aE)(s':aH):Prop:=
 ∃v H',s'.os=s.os/\nO s'.gens/\Un (frs outer) [] H H' s.heap s'.heap/\HOk P w H' s'.heap/\RelV v u/\Q v H'
def CR (CX:CXT)(outer:List Env)(P:aV)(w:bA)(H:Hp)(s:aH)(Q:VK)(E:XK)(r:Result)(s':aH):Prop:=
 match r with
 | .ok (.ret u)=>CE outer P w H s Q u s'
 | .ok _=>False
 | .error e=>CX outer H s E e s'
structure i5 (P:aV)(w:bA)(K:aG)(mg:Str->Option aE)(base:MC)(CX:CXT)(k:Nat)(f:MB)(fd:gO)(ps:List Str)(sp:Sp):Prop where
 len:∀vs H Q E,sp vs H Q E->vs.length=ps.length
 run:∀A outer s H args us vs Q E,Room k A->Env0 P w K mg base A outer s H->qJ s fd args (ps.zip us)->Vals vs us->sp vs H Q E->
  lH (aX P w) A (.call (.ref f) args) (CR CX outer P w H s Q E) s
def Env0.make {P:aV}{w:bA}{K:aG}{mg:Str->Option aE}{base:MC}{A:bV}{outer:List Env}{s:aH}{H:Hp}(e:Env0 P w K mg base A outer s H)(C:MB)(us:List aE)(a:List (Str×aE)) :
  Env0 P w K mg base (A.under (.builtin "type.__call__" {.ref C::us,a})) outer s H:=⟨by first | show e.frames | (simpa[sO,Code.envs,sP,pushEnvs]using e.frames),e.mod,e.bs,e.bsz,e.funs,e.frf,e.hok,e.bare⟩
section
variable {X:Cx}{f':List (MB×Obj)}{σ:St}{H:Hp}{s s':aH}
def Inv.env0 (I:Inv X f' σ H s):Env0 X.prog X.w X.K X.mg X.base X.A X.stack s H:=
 {I.ok.frames,I.ok.mod,I.bs,bK I.ok.bsz I.sz,I.stack,I.stkFree,I.hok,I.bare}
def Inv.after (I:Inv X f' σ H s)(h:CE X.stack X.prog X.w H s Q u s'):EP X f' σ Q u s':=by
 obtain⟨v,H',os,bare,un,hok,r,q⟩:=h;obtain⟨a,g,d,t,c⟩:=s';obtain rfl:c=s.os:=os;show{v,H',I.call (h':=a) (g':=g) (d':=d) (t':=t) (ch:=[]) un hok bare (λb z=>MJ z ∅),r,q}
end
def acm (sp:Sp)(a:List V)(E:XK)(t:TA):TE:=λb H Q=>t b H λvs c=>sp (vs++a) c Q E
def tMeth (C:MB)(m:Str)(sp:Sp)(d:List V)(E:XK)(e:TE)(t:TA):TE:=λb H Q=>e b H λx c=>∃a f fs,x=.ref a/\c a=KE (.ins C f fs)/\fs.lookup m=LY/\
 t b c λvs g=>sp (x::(vs++d)) g Q E
def tMake (C:MB)(sp:Sp)(c:List V)(E:XK)(t:TA):TE:=λd H Q=>t d H λvs b=>∀x a,b x=LY->b a=LY->a≠x->
 sp (.ref x::(vs++c)) (upd (upd b a (.own x)) x (.ins C a [])) (λv e=>v=.non/\Q (.ref x) e) E
def Binds (K:aG)(fd:gO)(ps:List Str)(ds:List aE):Prop:=
 ∀s us,K.In s.heap->(us++ds).length=ps.length->qJ s fd {us,[]} (ps.zip (us++ds))
def Binds.all {K:aG}{fd:gO}{ps:List Str}(h:∀us:List aE,us.length=ps.length->oX fd {us,[]}=pure (ps.zip us)):Binds K fd ps []:=λs us _ a=>by
 rw[bX]at a ⊢;show .of_eq (h us a)
def uh (CX:CXT)(X:Cx)(E:XK):Prop:=∀a b H s e s',Inv X a b H s->CX X.stack H s E e s'->X.xe e s'
section
variable {X:Cx}{CX:CXT}{k:Nat}{f C:MB}{fd:gO}{ps:List Str}{sp:Sp}{zL:List V}{ds:List aE}{E:XK}{x m:Str}{p pos vX:Pos}{e o:MD}{es:List MD}{ta:TE}{t:TA}
def Km (F:i5 X.prog X.w X.K X.mg X.base CX k f fd ps sp)(g:Room k X.A)(i:Binds X.K fd ps ds)(hd:Vals zL ds)(j:uh CX X E)
  (I:Inv X b c H s) (r:Vals vs us) (h:sp (vs++zL) H Q E):aL (aX X.prog X.w) X.A (call (.ref f) us) (EP X b c Q) X.xe s:=by
 have d:Vals (vs++zL) (us++ds):=r.append hd;have l:(us++ds).length=ps.length:=(by rw[<-d.length];show F.len _ _ _ _ h);show uD (lR (F.run X.A X.stack s H {us,[]} (us++ds) (vs++zL) Q E g I.env0 (i s us I.kIn l) d h) λr s' a=>?_);cases r with
 |error e=>show j b c H s e s' I a
 |ok n=>
  cases n with
  |ret u=>show I.after a
  |next=>show gY a
  |brk=>show gY a
  |cont=>show gY a
def Bj (F:i5 X.prog X.w X.K X.mg X.base CX k f fd ps sp)(b:Room k X.A)(c:Gl X x)(d:X.mg x=KE (.ref f))(hk:fK X.K (.ref f)=LZ)(g:Binds X.K fd ps ds)(hd:Vals zL ds)(i:uh CX X E)
  (j:PA X (e::es) t) (l:(x == ("__debug__":Str))=MA:=by decide) (n:aN (e::es) X.env=(MA,eval e X.env)::aN es X.env:=by rfl) (u:(dP pos (aN es X.env)).any (·.1)=MA:=by rfl) :
  PE X (.Call (.Name x p) (e::es) [] pos) (acm sp zL E t):=by
 intro y s z H Q I h;show iA (Bf I c d ?_ l);show lS (h₀:=X.base) I.ok.mod.kin hk (thn (j pos y s z H _ I h) λus G D=>?_) n u;obtain⟨vs,J,a,r,q⟩:=D;show{a.kIn,?_};show Km F b g hd i a r q
def aef (y:PE X o ta)(c:Cls X.K C)(d:Sy X.K C m f)(F:i5 X.prog X.w X.K X.mg X.base CX k f fd ps sp)(z:Room k X.A)(D:Binds X.K fd ps ds)(hd:Vals zL ds)(G:uh CX X E)(J:PA X (e::es) t)
  (L:aN (e::es) X.env=(MA,eval e X.env)::aN es X.env:=by rfl) (N:(dP pos (aN es X.env)).any (·.1)=MA:=by rfl)
  (O:eval (.Call (.Attribute o m vX) (e::es) [] pos) X.env=(do
    let g <-eval o X.env
    oV vX.atName
    let (f,first) <-jZ [g] (pI g m pl)
    tW pos f first (dP pos (aN (e::es) X.env)) (nI pos (kN [] X.env))):=by rfl) :
  PE X (.Call (.Attribute o m vX) (e::es) [] pos) (tMeth C m sp zL E ta t):=by
 intro i s j H Q I h;show PySem.W.methodCall_KW (pl:=pl) (thn (y i s j H _ I h) λu T b=>?_) O;obtain⟨x,U,n,Y,a,dx,fs,ex,ea,l,q⟩:=b;subst ex;obtain rfl:u=bY a:=Y;show S0 n ea c d l ?_;show lS (first:=[.ref a]) (h₀:=X.base) I.ok.mod.kin d.kp (thn (J pos i T j U _ n q) λus s2 b=>?_) L N
 obtain⟨vs,H2,I2,r,q2⟩:=b;show{I2.kIn,?_};show Km (us:=.ref a::us) (vs:=.ref a::vs) F z D hd G I2 (.cons rfl r) q2
structure Mk (K:aG)(C f:MB):Prop where
 makes:nX K C=LZ
 init:dD K (.ref C) "__init__"=KE (KE (.ref f))
 fn:iV K (.ref f)=LZ
 kp:fK K (.ref C)=LZ
def Zb (M:Mk X.K C f)(F:i5 X.prog X.w X.K X.mg X.base CX k f fd ps sp)(j:Room (k+1) X.A)(l:Binds X.K fd ps ds)(hd:Vals zL ds)
  (n:uh CX X E) (I:Inv X c d H s) (r:Vals vs us)
  (h:∀x b,H x=LY->H b=LY->b≠x->sp (.ref x::(vs++zL)) (upd (upd H b (.own x)) x (.ins C b [])) (λv q=>v=.non/\Q (.ref x) q) E) :
  aL (aX X.prog X.w) X.A (call (.ref C) us) (EP X c d Q) X.xe s:=by
 have g:=h (‹s›+1) ‹s› (I.hok.fresh (rH _)) (I.hok.fresh (aJ _)) (bJ (fF _));have I2:=Inv.made (C:=C) I;have i:Vals (V.ref (‹s›+1)::(vs++zL)) (bY (‹s›+1)::(us++ds)):=.cons rfl (r.append hd);have y:(bY (‹s›+1)::us++ds).length=ps.length:=by
  have e:=i.length;rw[F.len _ _ _ _ g]at e;show e.symm
 show uD (Za (f:=f) I.kIn M.makes M.init (beq_iff_eq.mp M.fn) (lR (F.run _ X.stack _ _ {bY (‹s›+1)::us,[]} (bY (‹s›+1)::(us++ds)) _ _ E (j.make C us []) (I2.env0.make C us []) (l _ (bY (‹s›+1)::us) I2.kIn y) i g) λr s' a=>?_));cases r with
 |error e=>show n c d _ _ e s' I2 a
 |ok z=>
  cases z with
  |ret u=>
   obtain⟨v,H',D,G,J,L⟩:=I2.after a;subst J;show{G,{V.ref (‹s›+1),H',D,rfl,L}}
  |next=>show gY a
  |brk=>show gY a
  |cont=>show gY a
def aeg (M:Mk X.K C f)(F:i5 X.prog X.w X.K X.mg X.base CX k f fd ps sp)(b:Room (k+1) X.A)(c:Gl X x)(d:X.mg x=KE (.ref C))(g:Binds X.K fd ps ds)(hd:Vals zL ds)(i:uh CX X E)
  (j:PA X (e::es) t) (l:(x == ("__debug__":Str))=MA:=by decide) (n:aN (e::es) X.env=(MA,eval e X.env)::aN es X.env:=by rfl) (u:(dP pos (aN es X.env)).any (·.1)=MA:=by rfl) :
  PE X (.Call (.Name x p) (e::es) [] pos) (tMake C sp zL E t):=by
 intro y s z H Q I h;show iA (Bf I c d ?_ l);show lS (h₀:=X.base) I.ok.mod.kin M.kp (thn (j pos y s z H _ I h) λus G D=>?_) n u;obtain⟨vs,J,a,r,q⟩:=D;show{a.kIn,?_};show Zb M F b g hd i a r q
end
structure fq (N P:List Str)(sc:mE):Prop where
 kind:sc.kind=.function
 co:sc.isCoroutine=MA
 gen:sc.isGenerator=MA
 nd:N.Nodup
 pre:N.take P.length=P
 par:∀x∈P,sc.names.lookup x=KE .local\/sc.names.lookup x=KE .cell
 nofree:∀y∈sc.names,y.2≠.free
theorem Hj {kindOf:Str->Option qL}{x:Str}:∀{binds:List (Str×aE)}{m:Str->Option aE},(∀v,(x,v) ∉ binds)->rT kindOf binds m x=m x
 | [],_,_=>rfl
 | (n,v)::r,m,h=>by
  unfold rT;rw[Hj λw hw=>h w (aP _ hw)]
  split
  ·have:x≠n:=(by rintro rfl;show h v aQ);simp[this]
  ·rfl
theorem Hk {kindOf:Str->Option qL}{x:Str}:∀{binds:List (Str×aE)}{m:Str->Option aE},(∀v,(x,v) ∉ binds)->rV kindOf binds m x=m x
 | [],_,_=>rfl
 | (n,v)::r,m,h=>by
  unfold rV;rw[Hk λw hw=>h w (aP _ hw)]
  split
  ·rfl
  ·have:x≠n:=(by rintro rfl;show h v aQ);simp[this]
theorem Hl {kindOf:Str->Option qL}{x:Str}{v:aE}:∀{P:List Str}{vs:List aE}{i:Nat}{m:Str->Option aE},P.Nodup->P[i]?=KE x->vs[i]?=KE v->kindOf x=KE .local->
  rT kindOf (P.zip vs) m x=KE v
 | [],_,_,_,_,h,_,_=>by simp at h
 |_::_,[],_,_,_,_,h,_=>by simp at h
 |p::P,w::vs,0,m,nd,a,b,hk=>by
  simp at a b;subst a;subst b;change rT kindOf ((p,w)::P.zip vs) m p=_;unfold rT;rw[Hj λv c=>(gB.mp nd).1 (qW c).1,MF hk];simp
 |p::P,w::vs,i+1,m,nd,a,b,hk=>by
  change rT kindOf ((p,w)::P.zip vs) m x=_;unfold rT;show Hl (i:=i) (gB.mp nd).2 (by simpa using a) (by simpa using b) hk
theorem Hm {kindOf:Str->Option qL}{x:Str}{v:aE}:∀{P:List Str}{vs:List aE}{i:Nat}{m:Str->Option aE},P.Nodup->P[i]?=KE x->vs[i]?=KE v->kindOf x≠KE .local->
  rV kindOf (P.zip vs) m x=KE v
 | [],_,_,_,_,h,_,_=>by simp at h
 |_::_,[],_,_,_,_,h,_=>by simp at h
 |p::P,w::vs,0,m,nd,a,b,hk=>by
  simp at a b;subst a;subst b;change rV kindOf ((p,w)::P.zip vs) m p=_;unfold rV;rw[Hk λv c=>(gB.mp nd).1 (qW c).1,MG hk];simp
 |p::P,w::vs,i+1,m,nd,a,b,hk=>by
  change rV kindOf ((p,w)::P.zip vs) m x=_;unfold rV;show Hm (i:=i) (gB.mp nd).2 (by simpa using a) (by simpa using b) hk
def start (N:List Str)(vs:List V):St:=vs.map KE++aY (N.length - vs.length) LY
def Cy (CX:CXT)(P:aV)(w:bA)(K:aG)(mg:Str->Option aE)(base:MC)(N:List Str)(vD:Str)(scope:mE)(f:MB)(cd:aE)(A:bV)(outer:List Env)(s:aH)(H:Hp)(E:XK):Cx where
 prog:=P
 w:=w
 K:=K
 mg:=mg
 base:=base
 A:=A.deeper (nY vD scope ‹s› f cd)
 N:=N
 s₀:=s
 H₀:=H
 env:=nY vD scope ‹s› f cd
 outer:=outer
 stack:=nY vD scope ‹s› f cd::outer
 ex:=[]
 calm:=LZ
 fn:=λ_=>LZ
 pn:=[]
 xe:=λe s'=>aL (aX P w) (A.deeper (nY vD scope ‹s› f cd)) (leaving (nY vD scope ‹s› f cd) e) (λ_ FN=>CX outer H s E e FN) (λe' FN=>CX outer H s E e' FN) s'
def Kn {a:mE}{n:Nat}{x:Str}(h:a.names.lookup x=KE .cell):∃c,(cellsFrom n a.names []).lookup x=KE c:=by
 have q:=PySem.W.cellsFrom_some a.names n [] (.inl h);show lT.mp q
def Vs {CX:CXT}{P:aV}{w:bA}{K:aG}{mg:Str->Option aE}{base:MC}{N ps:List Str}{l:Str}{d:mE}{f:MB}{cd:aE}{A:bV}{outer:List Env}{s C:aH}{H:Hp}{E:XK}{us:List aE}{vs:List V}
  (S:fq N ps d) (hd:A.handled=LY) (e0:Env0 P w K mg base A outer s H) (L:vs.length=ps.length) (r:Vals vs us)
  (x:InCallC s ‹s› (rT (nY l d ‹s› f cd).kindOf (ps.zip us) λ_=>LY) (cellsFrom (‹s›+1) d.names []) (rV (nY l d ‹s› f cd).kindOf (ps.zip us) λ_=>LY) C) :
  Inv (Cy CX P w K mg base N l d f cd A outer s H E) [] (start N vs) H C:=by
 have O:ps.length<=N.length:=(by have:=ML tR S.pre;rw[bN]at this;lia);obtain⟨m,Q,rfl,hk⟩:=x.done;have o:∀b:MB,b ∉ (Cy CX P w K mg base N l d f cd A outer s H E).ex:=λb z=>MJ (show b∈([]:List MB)from z) ∅;show⟨{e0.mod,S.kind,rfl,rfl,aJ _,λy z c m g=>?_,λy hy=>?_,λy c _ h=>?_,λ_=>hd,Around.frames_deeper e0.frames,.inr #v[rfl,rfl],λb z=>MJ z (o b),e0.bs,e0.bsz,λb _ _=>o b,λb z=>MJ z (o b),e0.funs,e0.frf},
   rfl,e0.bare,Un.kept hk,{_,x.toInCall.ns,λi y v m g T=>?_},λy c h=>{_,x.cell y c h},e0.hok.fresh (aJ _),λy c h=>?_,λp j=>MJ (show p∈([]:List (MB×Obj))from j) ∅,e0.hok.kept hk,?_⟩
 ·show name_of_addr x.apart (jV m) (jV g)
 ·have hy:d.names.lookup y=KE .cell\/d.names.lookup y=KE .free:=hy;rcases hy with hy | hy
  ·show Kn hy
  ·show MJ rfl (S.nofree _ (jV hy))
 ·show gR (x.above y c (jV h))
 ·have hi:i < vs.length:=by
   unfold start at g;by_cases hi:i < vs.length
   ·show hi
   ·rw[cK (by simpa using hi)]at g;rw[dS]at g
    split at g<;>cases g
  have I:vs[i]?=KE v:=by
   unfold start at g;rw[bS (by simpa using hi),aK]at g;cases e:vs[i]? with
   |none=>rw[e]at g;cases g
   |some a=>rw[e]at g;cases g;rfl
  obtain⟨u,D,J⟩:=r.get I;have j:ps[i]?=KE y:=by
   rw[<-S.pre,lU ()];show m
  have G:ps.Nodup:=(by rw[<-S.pre];show S.nd.sublist (List.take_sublist _ _));show{u,J,?_};rcases S.par y (aR j)with k | k
  ·show .inl {k,Hl G j D k}
  ·obtain⟨c,e⟩:=Kn (n:=‹s›+1) k;show .inr {.inl k,c,e,?_};have q:=x.cell y c e;rw[Hm G j D (by change d.names.lookup y≠_;rw[k];decide)]at q;show q
 ·show e0.hok.fresh (gR (x.above y c (jV h)))
 ·unfold start;change _=N.length;rw[aI,aC,dC];lia
def fn_of {CX:CXT}{P:aV}{w:bA}{K:aG}{mg:Str->Option aE}{base:MC}{k:Nat}{f:MB}{name g:Str}{c:Arguments}{body:List ME}{a:mE}{p kV z C h ct T:aE}{D U:Option MB}
  {Y:Array (Option aE)}{N ps:List Str}{sp:Sp}(lk:K.lookup f=KE {T,U,.func (fS name g c body a p kV z C D h ct),Y}) (yZ:mF K h g=LZ) (S:fq N ps a)
  (len:∀vs H Q E,sp vs H Q E->vs.length=ps.length)
  (BQ:∀(A:bV)(outer:List Env) (s:aH) (H:Hp) (vs:List V) (Q:VK) (E:XK),Room k (A.deeper (nY g a ‹s› f h))->sp vs H Q E->∃t,PSs (Cy CX P w K mg base N g a f h A outer s H E) body t/\t { nx:=λ_ H'=>Q .non H',rt:=Q } (start N vs) H) :
  i5 P w K mg base CX (k+1) f (fS name g c body a p kV z C D h ct) ps sp:=by
 show{len,λA outer s H args us vs Q E j e0 hb r G=>?_};have hl:=len _ _ _ _ G;have KX:K.In s.heap:=e0.mod.kin.keeps λb o e=>(e0.bs b o e).1;have l:s.heap.NoLimit:=e0.mod.nolimit.keeps λb o e=>(e0.bs b o e).1;have i:∀y∈ps.zip us,a.names.lookup y.1=KE .local\/(a.names.lookup y.1=KE .cell/\((cellsFrom (‹s›+1) a.names []).lookup y.1).isSome=LZ):=λ⟨n,v⟩ hy=>by
  rcases S.par n (qW hy).1 with q | q
  ·show .inl q
  ·show .inr {q,PySem.W.cellsFrom_some _ _ _ (.inl q)}
 show codeAny_call_function j.depth (KX _ _ lk) rfl S.co S.gen rfl (PySem.W.codeRec_of KX yZ) (hb _ _ _ _ ?_);show wpAny_newFunctionEnv_cells S.kind i λenv he L x=>?_;subst he;show{l.keeps x.toInCall.keep,codeAny_func ?_};obtain⟨t,ht,hq⟩:=BQ A outer s H vs Q E (j.deeper _) G;have I:Inv (Cy CX P w K mg base N g a f h A outer s H E) [] (start N vs) H L:=Vs S j.hd e0 hl r x;show iR (ht [] L (start N vs) H _ I hq) (λfl s' hs=>?_) λe s' hs=>hs;have O:∀{d:St}{H':Hp}{v:V}{u:aE},Inv (Cy CX P w K mg base N g a f h A outer s H E) [] d H' s'->RelV v u->Q v H'->CE outer P w H s Q u s':=
  λ{d H' v u} J m q=>#v[v,H',J.os,J.bare,J.base,J.hok,m,q]
 cases fl with
 |ret u=>
  obtain⟨v,d,H',J,m,q⟩:=hs;show O J m q
 |next=>
  obtain⟨d,H',J,q⟩:=hs;show O (v:=V.non) (u:=eB) J rfl q
 |brk=>
  obtain⟨_,_,_,q⟩:=hs;show gY q
 |cont=>
  obtain⟨_,_,_,q⟩:=hs;show gY q
section
variable {X:Cx}{x:Str}{p pos:Pos}{e:MD}{es:List MD}{t:TA}{id T:String}{r:List V->Hp->VK->Prop}
def tCB (r:List V->Hp->VK->Prop)(t:TA):TE:=λa H Q=>t a H λvs b=>r vs b Q
def Kp (c:j9 X (.builtin id) r)(d:Gl X x)(f:X.mg x=LY)(g:dW x=KE (.builtin id))(i:PA X (e::es) t)(j:x≠"__name__":=by decide)(l:(x == ("__debug__":Str))=MA:=by decide)
  (m:aN (e::es) X.env=(MA,eval e X.env)::aN es X.env:=by rfl) (n:(dP pos (aN es X.env)).any (·.1)=MA:=by rfl):PE X (.Call (.Name x p) (e::es) [] pos) (tCB r t):=by
 intro a s b H Q I h;show iA (kh I d f g ?_ j l);show kC (thn (i pos a s b H _ I h) λus o q=>by obtain⟨vs,u,w,y,z⟩:=q;show c a o b u vs us Q w y z) m n
def Vt (c:j9 X (.type T) r)(d:Gl X x)(f:X.mg x=LY)(g:dW x=KE (.type T))(i:PA X (e::es) t)(j:x≠"__name__":=by decide)(l:(x == ("__debug__":Str))=MA:=by decide)
  (m:aN (e::es) X.env=(MA,eval e X.env)::aN es X.env:=by rfl) (n:(dP pos (aN es X.env)).any (·.1)=MA:=by rfl):PE X (.Call (.Name x p) (e::es) [] pos) (tCB r t):=by
 intro a s b H Q I h;show iA (kh I d f g ?_ j l);show eW (thn (i pos a s b H _ I h) λus o q=>by obtain⟨vs,u,w,y,z⟩:=q;show c a o b u vs us Q w y z) m n
end
end L2
namespace HT
open PySem PyProof.Rows
def lexLt:List Int->List Int->Bool
 | [],[]=>MA
 | [],_::_=>LZ
 |_::_,[]=>MA
 |x::xs,y::ys=>if x=y then lexLt xs ys else decide (x < y)
def lexLt_cons (x y:Int)(xs ys:List Int):lexLt (x::xs) (y::ys)=if x=y then lexLt xs ys else decide (x < y):=rfl
section
variable {prog:aV}{w:bA}{A:bV}{E:aE->aH->Prop}{s:aH}
def cat_tup {t b:MB}{vs ws:List aE}{Q:aE->aH->Prop}(o:tJ s.heap t vs.toArray)(p:tJ s.heap b ws.toArray)(d:vs≠[])
  (q:ws=[]->Q (.ref t) s) (r:ws≠[]->Q (.ref ‹s›) { s with heap:=s.heap.push { cls:=.type "tuple",data:=.seq (vs++ws).toArray } })
  (hsz:vs.length+ws.length<=sizeLine):aL (aX prog w) A (eA .Add (.ref t) (.ref b)) Q E s:=by
 obtain⟨⟨cls,dd,data,f⟩,a,g,n,hd⟩:=id o;obtain⟨⟨h,i,data2,j⟩,c,l,m,KB⟩:=id p;simp only at g hd l KB;subst g hd l KB;have e:vs.toArray++ws.toArray=(vs++ws).toArray:=∅;by_cases hw:ws=[]
 ·show sQ {_,a,rfl} {_,c,rfl} qM sA mW mM (lV _ _)
   (tuple_addW1 t b vs.toArray ws.toArray n m dd i f j (by simpa using d) (by simp[hw])) {a,c,q hw}
 ·show sQ {_,a,rfl} {_,c,rfl} qM sA mW mM (lV _ _)
   (tuple_addW2 t b vs.toArray ws.toArray n m dd i f j (by simpa using d) (by simpa using hw) (by rw[aM,aM];show hsz)) {a,c,?_}
  rw[e];show r hw
def sIx (n d:Nat):Option Int->Nat
 |none=>d
 |some v=>if v < 0 then (v+(n:Int)).toNat else min v.toNat n
def sIx_none (n d:Nat):sIx n d LY=d:=rfl
def sIx_nat (n d k:Nat):sIx n d (KE (k:Int))=min k n:=by
 change(if (k:Int) < 0 then ((k:Int)+(n:Int)).toNat else min (k:Int).toNat n)=min k n
 rw[MG (),bZ]
def aio (n d:Nat)(hd:d<=n)(o:Option Int):sIx n d o<=n:=by
 cases o with
 |none=>show hd
 |some v=>
  change(if v < 0 then (v+(n:Int)).toNat else min v.toNat n)<=n
  by_cases a:v < 0
  ·rw[MF a];lia
  ·rw[MG a];show qN _ _
def P9 (v:Int)(n d:Nat):(if v < 0 then max (v+(n:Int)) 0 else min v (n:Int))=((sIx n d (KE v):Nat):Int):=by
 change(if v < 0 then max (v+(n:Int)) 0 else min v (n:Int))=(((if v < 0 then (v+(n:Int)).toNat else min v.toNat n):Nat):Int)
 by_cases a:v < 0
 ·simp only[MF a];lia
 ·simp only[MG a];lia
def S5 (lo hi:Option Int)(n:Nat):gD lo hi 1 (n:Int)=(((sIx n 0 lo:Nat):Int),((sIx n n hi:Nat):Int)):=by
 have a:¬((1:Int) < 0):=();unfold gD;simp only[a,if_false];show Prod.ext ?_ ?_
 ·cases lo with
  |none=>rfl
  |some v=>show P9 v n 0
 ·cases hi with
  |none=>rfl
  |some v=>show P9 v n n
def S6 (i j:Nat):eM (i:Int) (j:Int) 1=j - i:=by
 unfold eM;have a:(1:Int) > 0:=();simp only[a,if_true,sR]
 split<;>lia
def D7 {v:aE}{o:Option Int}{Q:Option Int->aH->Prop}(p:nZ v o)(h:Q o s):aL (aX prog w) A (Builtin.Slice.slicePartIndex v) Q E s:=by
 cases p with
 |none=>show oY h
 |int i t=>show slicePart_int h
def uk {lo hi:Option Int}{n:Nat}{Q:Int×Int×Nat->aH->Prop}(hs:s.heap.IsSliceOf e c d .none)(pl:nZ c lo)(f:nZ d hi)
  (h:Q (((sIx n 0 lo:Nat):Int),1,sIx n n hi - sIx n 0 lo) s):aL (aX prog w) A (jE (.ref e) (pure (n:Int))) Q E s:=by
 obtain⟨os,a,g,b⟩:=id hs;unfold jE Builtin.Slice.sliceFields;show aA (aA (dE a b (x:=c) rfl (aA (dE a b (x:=d) rfl (aA (dE a b (x:=.none) rfl (wpAny_pure ?_)))))));show aA (oY ?_);change aL _ _ (if ((1:Int) == 0)=LZ then _ else _) _ _ s
 rw[MG (by decide)];show aA (D7 pl (aA (D7 f (aA (wpAny_pure ?_)))));change aL _ _ (match gD lo hi 1 (n:Int)with | (lo,hi)=>pure (lo,(1:Int),eM lo hi 1)) _ _ s
 rw[S5 lo hi n];change aL _ _ (pure (((sIx n 0 lo:Nat):Int),(1:Int),eM ((sIx n 0 lo:Nat):Int) ((sIx n n hi:Nat):Int) 1)) _ _ s;rw[S6];show wpAny_pure h
def Zc (xs:Array aE)(i k:Nat):((bE k).filterMap λ(m:Nat)=>xs[((i:Int)+(m:Int) * 1).toNat]?).toArray=((xs.toList.drop i).take k).toArray:=by
 have e:(λ(m:Nat)=>xs[((i:Int)+(m:Int) * 1).toNat]?)=λm=>xs[i+m]?:=by
  funext m
  have:((i:Int)+(m:Int) * 1).toNat=i+m:=();rw[this]
 rw[e];have:=pick_run xs i k;rw[List.filterMap_map]at this;have a:((λx=>xs[x]?)∘λx=>i+x)=λm=>xs[i+m]?:=rfl;rw[a]at this;rw[this]
def getItem_tuple_cut {t c:MB}{items:Array aE}{d e:aE}{lo hi:Option Int}{Q:aE->aH->Prop}(a:tJ s.heap t items)(hs:s.heap.IsSliceOf c d e .none)(pl:nZ d lo)(f:nZ e hi)
  (hw:¬(sIx items.size 0 lo=0/\sIx items.size items.size hi=items.size))
  (h:Q (.ref ‹s›) { s with heap:=s.heap.push { cls:=.type "tuple",data:=.seq ((items.toList.drop (sIx items.size 0 lo)).take (sIx items.size items.size hi - sIx items.size 0 lo)).toArray } })
  (hsz:items.size<=sizeLine):aL (aX prog w) A (mG (.ref t) (.ref c)) Q E s:=by
 have b:sizeOk (.seq ((items.toList.drop (sIx items.size 0 lo)).take (sIx items.size items.size hi - sIx items.size 0 lo)).toArray):=by
  change((items.toList.drop (sIx items.size 0 lo)).take (sIx items.size items.size hi - sIx items.size 0 lo)).toArray.size<=sizeLine;rw[aM,bN,dF,cQ];lia
 have n:sIx items.size items.size hi<=items.size:=aio _ _ (aJ _) hi;obtain⟨os,g,i,o⟩:=id hs;have j:s.TypeIs (.ref c) "slice":=#v[os,g,i];unfold mG
 try with_reducible show dB ?_
 first | show aA (wpAny_pure ?_) | skip
 show aA (pY a.typeIs (by decide) ?_);show aA (cS (name:=cW "__getitem__") a.typeIs cZ (cN cZ a.typeIs oS ?_ (pJ _ _)));change aL _ _ (jF (.ref t) >>= _) _ _ s;show aA (tupleItemsOf_ a ?_);show aA (lW j ?_);rw[MF (by decide)];show aA (uk hs pl f ?_);have l:¬((((sIx items.size 0 lo:Nat):Int) == 0 && (1:Int) == 1 && (sIx items.size items.size hi - sIx items.size 0 lo) == items.size)=LZ):=by
  intro q;rw[cO,cO]at q;have p:((sIx items.size 0 lo:Nat):Int)=0:=eq_of_beq q.1.1;have r:sIx items.size items.size hi - sIx items.size 0 lo=items.size:=eq_of_beq q.2;show hw {(),()}
 change aL _ _ (if (((sIx items.size 0 lo:Nat):Int) == 0 && (1:Int) == 1 && (sIx items.size items.size hi - sIx items.size 0 lo) == items.size)=LZ then _ else _) _ _ s
 rw[MG l,Zc]
 first
  |show aA (m:=fM _) (cU (wpAny_pure {_,rfl,wpAny_pure h}) b)
  |show aA (m:=fM _) (cU (aA (wpAny_pure (wpAny_pure {_,rfl,wpAny_pure h}))) b)
  |show aA (aA (m:=fM _) (cU (wpAny_pure (wpAny_pure {_,rfl,wpAny_pure h})) b))
  |show aA (aA (m:=fM _) (cU (wpAny_pure {_,rfl,wpAny_pure h}) b))
end
end HT
namespace L2
open PySem PySem.Spec PyProof.Rows
abbrev TO:=St->Hp->(Option Int->Hp->Prop)->Prop
def PO (X:Cx)(e:Option MD)(t:TO):Prop:=
 ∀b s a H Q,Inv X b a H s->t a H Q->
  aL (aX X.prog X.w) X.A (evalPart e X.env) (λu s'=>∃o H',Inv X b a H' s'/\nZ u o/\Q o H') X.xe s
def aeh:TO:=λ_ H Q=>Q LY H
def tPart (t:TE):TO:=λa H Q=>t a H λx b=>∃i,x=.int i/\Q (KE i) b
section
variable {X:Cx}{e:MD}{te:TE}{lo hi:Option MD}{tl th:TO}{pos p2:Pos}
def aei:PO X LY aeh:=by
 intro a s b H Q I h;rw[sC];show wpAny_pure {LY,H,I,.none,h}
def aej (h:PE X e te):PO X (KE e) (tPart te):=by
 intro a s b H Q I hw;rw[evalPart_some];show thn (h a s b H _ I hw) λu l c=>?_;obtain⟨x,d,f,g,j⟩:=c;obtain⟨i,rfl,q⟩:=j;obtain⟨t,rfl⟩:=g;show{KE i,d,f,.int i t,q}
def SlR (X:Cx)(r:V->Option Int->Option Int->Hp->VK->Prop):Prop:=
 ∀a s b H x v c d lo hi f Q,Inv X a b H s->RelV x v->s.heap.IsSliceOf f c d .none->nZ c lo->nZ d hi->r x lo hi H Q->
  ∃T id,typeLookup (.type T) "__getitem__"=pure (KE (.builtin id))/\s.TypeIs v T/\aL (aX X.prog X.w) X.A (mG v (.ref f)) (EP X a b Q) X.xe s
def tSl (r:V->Option Int->Option Int->Hp->VK->Prop)(te:TE)(tl th:TO):TE:=λa H Q=>te a H λx b=>tl a b λl c=>th a c λu d=>r x l u d Q
def Zd (m:SlR X r)(n:PE X e te)(o:PO X lo tl)(p:PO X hi th):PE X (.Subscript e (.Slice lo hi LY p2) pos) (tSl r te tl th):=by
 intro c s d H Q I h;show Subscript_ (thn (n c s d H _ I h) λv y f=>?_);obtain⟨x,z,C,D,E⟩:=f;show wpAny_Slice (thn (o c y d z _ C E) λg G f=>?_);obtain⟨l,J,I2,pl,L⟩:=f;show thn (p c G d J _ I2 L) λi a f=>?_;obtain⟨u,j,N,O,U⟩:=f;rw[sC];show wpAny_pure ?_;have Y:Inv X c d j { a with heap:=a.heap.push { cls:=.type "slice",data:=.fields #[g,i,.none] } }:=N.kept (t':=a.toks) λb ob q=>aF _ q;obtain⟨T,id,hT,ht,hg⟩:=m c { a with heap:=a.heap.push { cls:=.type "slice",data:=.fields #[g,i,.none] } } d j x v g i l u ‹a› Q Y D (Heap.IsSliceOf.new ..) pl O U;change aL (aX X.prog X.w) X.A (sD e (.Slice lo hi LY p2) v (.ref ‹a›)) (EP X c d Q) X.xe { a with heap:=a.heap.push { cls:=.type "slice",data:=.fields #[g,i,.none] } };show tail_any (ops:=[.ref ‹a›,v]) ht hT hg (by with_unfolding_all rfl)
def wm (xs:List V)(lo hi:Option Int):List V:=(xs.drop (HT.sIx xs.length 0 lo)).take (HT.sIx xs.length xs.length hi - HT.sIx xs.length 0 lo)
def Cj (xs:List V)(lo hi:Option Int):(wm xs lo hi).length<=xs.length:=by
 unfold wm;rw[bN,dF];lia
def rSlT (K:aG):V->Option Int->Option Int->Hp->VK->Prop:=λx lo hi H Q=>∃a xs,x=.ref a/\SqT K H a xs/\
 ¬(HT.sIx xs.length 0 lo=0/\HT.sIx xs.length xs.length hi=xs.length)/\∀p,H p=LY->Q (.ref p) (upd H p (.tup (wm xs lo hi)))
def aip:SlR X (rSlT X.K):=by
 intro j s l H x v m n lo hi p Q I f hs pl g h;obtain⟨a,xs,rfl,i,hw,q⟩:=h;cases f;obtain⟨its,r,d,hz⟩:=I.tuple i;have c:its.toArray.size=xs.length:=(by rw[aM];show r.length.symm);show{"tuple",_,cZ.lookup,d.typeIs,?_};show HT.getItem_tuple_cut d hs pl g (by rw[c];show hw) ?_ (by rw[c];show hz);rw[c];show⟨.ref ‹s›,_,I.laid (t':=s.toks) (o:=.tup (wm xs lo hi)) (λb u q=>aF _ q) (aJ _) ?_,rfl,q _ (I.hok.fresh (aJ _))⟩;show{bK (Cj xs lo hi) hz,_,(r.drop (HT.sIx xs.length 0 lo)).take (HT.sIx xs.length xs.length hi - HT.sIx xs.length 0 lo),sS _ _}
def acn (K:aG):R2:=λx y H Q=>∃a b xs ys,x=.ref a/\y=.ref b/\SqT K H a xs/\SqT K H b ys/\xs≠[]/\xs.length+ys.length<=sizeLine/\
 (ys=[]->Q (.ref a) H)/\(ys≠[]->∀p,H p=LY->Q (.ref p) (upd H p (.tup (xs++ys))))
def Vals.nil_iff (r:Vals xs us):us=[]↔xs=[]:=by
 cases r with
 |nil=>simp
 |cons _ _=>simp
def aek:OpR X (eA .Add) (acn X.K):=by
 intro r s A H x y v u Q I f g h;obtain⟨a,b,xs,ys,rfl,rfl,i,j,l,hz,m,n⟩:=h;cases f;cases g;obtain⟨its,d,p,_⟩:=I.tuple i;obtain⟨C,c,p2,_⟩:=I.tuple j;show HT.cat_tup p p2 (λz=>l (d.nil_iff.mp z)) (λz=>{.ref a,H,I,rfl,m (c.nil_iff.mp z)}) (λz=>?_) (by rw[<-d.length,<-c.length];show hz);show⟨.ref ‹s›,_,I.laid (t':=s.toks) (o:=.tup (xs++ys)) (λb D q=>aF _ q) (aJ _) ?_,rfl,n (λw=>z (c.nil_iff.mpr w)) _ (I.hok.fresh (aJ _))⟩;show{by rw[aI];show hz,_,d.append c,sS _ _}
end
def ixN (n:Nat)(i:Int):Option Nat:=if 0<=i then (if i < n then KE i.toNat else LY)else if -(n:Int)<=i then KE (i+n).toNat else LY
def atI {a:Type}(xs:List a)(i:Int):Option a:=(ixN xs.length i).bind λj=>xs[j]?
def Fj (h:ixN n i=KE j):seqIndex? i n=KE j/\j < n/\-(n:Int)<=i/\i < n:=by
 unfold ixN at h;by_cases h0:0<=i
 ·rw[MF h0]at h;by_cases a:i < n
  ·rw[MF a]at h;have e:i.toNat=j:=bU h;show{by rw[tS h0 a,e],(),(),a}
  ·rw[MG a]at h;cases h
 ·rw[MG h0]at h;by_cases a:-(n:Int)<=i
  ·rw[MF a]at h;have e:(i+n).toNat=j:=bU h;show{by rw[seqIndex_neg () a,e],(),a,()}
  ·rw[MG a]at h;cases h
def Fk {a:Type}{xs:List a}{i:Int}{v:a}(h:atI xs i=KE v):∃j,seqIndex? i xs.length=KE j/\xs[j]?=KE v/\j < xs.length/\-(xs.length:Int)<=i/\i < xs.length:=by
 unfold atI at h;cases e:ixN xs.length i with
 |none=>rw[e]at h;cases h
 |some j=>
  rw[e]at h;obtain⟨b,c,d,f⟩:=Fj e;show#v[j,b,h,c,d,f]
def Fl (b:MD):Prop:=∀o i,subscripted b MA o i=operate [o,i] (mG o i)
def IxR (X:Cx)(r:R2):Prop:=
 ∀value slice a s b H x y v u Q,Inv X a b H s->RelV x v->RelV y u->r x y H Q->
  subscripted slice MA v u=operate [v,u] (mG v u)->aL (aX X.prog X.w) X.A (sD value slice v u) (EP X a b Q) X.xe s
def MtR (X:Cx)(id:String)(r:V->List V->Hp->VK->Prop):Prop:=
 ∀a s b H x xs v us Q,Inv X a b H s->RelV x v->Vals xs us->r x xs H Q->
  aL (aX X.prog X.w) X.A (call (.builtin id) (v::us)) (EP X a b Q) X.xe s
section
variable {X:Cx}{a b:MD}{ta tb:TE}{pos:Pos}
def S7 {r:R2}(c:IxR X r)(d:PE X a ta)(e:PE X b tb)(hs:Fl b):PE X (.Subscript a b pos) (tOp r ta tb):=by
 intro f s g H Q I h;show Subscript_ (Y3 d e I h λv u i x y j I2 l m q=>c a b f i g j x y v u Q I2 l m q (hs _ _))
def rIxL (K:aG):R2:=λx y H Q=>∃p xs i v,x=.ref p/\y=.int i/\SqL K H p xs/\atI xs i=KE v/\Q v H
def rIxT (K:aG):R2:=λx y H Q=>∃p xs i v,x=.ref p/\y=.int i/\SqT K H p xs/\atI xs i=KE v/\Q v H
def rIxS:R2:=λx y H Q=>∃z i c,x=.str z/\y=.int i/\z.length<=sizeLine/\atI z.cps.toList i=KE c/\Q (.str #v[#[c]]) H
def Fm:IxR X (rIxL X.K):=by
 intro value slice e s f H x y v u Q I m n h hs;obtain⟨p,xs,i,z,rfl,rfl,o,A,q⟩:=h;cases m;obtain⟨t,rfl⟩:=n;obtain⟨its,r,pl,hz⟩:=I.list o;obtain⟨j,c,C,L,D,E⟩:=Fk A;obtain⟨w,g,G⟩:=r.get C;have J:=r.length;have N:=mf;have l:EP X e f Q w s:=#v[z,H,I,G,q];by_cases h0:0<=i
 ·have d:i.toNat=j:=by
   rw[tS h0 E]at c;show bU c
  show item_listR pl.isList h0 () (by rw[d];simpa using g) l hs
 ·have d:(i+(its.toArray.size:Int)).toNat=j:=by
   rw[seqIndex_neg () D]at c;rw[aM,<-J];show bU c
  show mX (x:=w) pl.isList.typeIs slot_list_getitem.lookup
   (wpAny_getItem_list_neg (Q:=λr s'=>r=w/\EP X e f Q r s') pl.isList () (by rw[aM]<;>lia) () (by rw[d];simpa using g) #v[rfl,l]) hs
def air:IxR X (rIxT X.K):=by
 intro value slice c s d H x y v u Q I e f h hs;obtain⟨p,xs,i,z,rfl,rfl,g,l,q⟩:=h;cases e;obtain⟨t,rfl⟩:=f;obtain⟨its,r,pl,hz⟩:=I.tuple g;obtain⟨j,m,n,E,G,J⟩:=Fk l;obtain⟨w,o,A⟩:=r.get n;have C:=r.length;have L:=mf;have D:EP X c d Q w s:=#v[z,H,I,A,q];show mX (x:=w) pl.typeIs slot_tuple_getitem.lookup
  (getItem_tuple (j:=j) (Q:=λr s'=>r=w/\EP X c d Q r s') pl () () (by rw[aM,<-C];show m) (by simpa using o) #v[rfl,D]) hs
def ais:IxR X rIxS:=by
 intro value slice w s A H x y v u Q I e f h hs;obtain⟨z,i,c,rfl,rfl,hz,g,q⟩:=h;obtain⟨t,rfl⟩:=e;obtain⟨t',rfl⟩:=f;obtain⟨j,d,l,C,m,n⟩:=Fk g;have o:z.cps.toList.length=z.length:=(by simp[Str.length]);rw[o]at d m n;have D:=mf;show tail_any (uE s z t) slot_str_getitem.lookup (getItem_str (c:=c) (by
   have p:decide (i < -(2 ^ 63:Int))=MA:=MH ();have r:decide (i>=2 ^ 63)=MA:=MH ();rw[p,r,Bool.or_false]) (by rw[d];simpa using l) {.str #v[#[c]],H,I.tok _,{_,rfl},q}) hs
def S8 (its:List aE)(n j:Nat)(u:aE):fA (·.setIfInBounds j u) { cls:=.type "list",data:=.seq its.toArray n }={ cls:=.type "list",data:=.seq (its.set j u).toArray n }:=by
 simp[fA]
theorem Inv.lst {c:List (MB×Obj)}{d:St}{H:Hp}{s:aH}{p:MB}{xs:List V}(I:Inv X c d H s)(h:H p=KE (.lst xs)) :
  ∃its n,Vals xs its/\s.heap.get? p=KE { cls:=.type "list",data:=.seq its.toArray n }/\xs.length<=sizeLine:=by
 obtain⟨z,its,n,r,e⟩:=I.hok p _ h;show#v[its,n,r,e,z]
def Inv.lstUpd {s:aH}{xs ys:List V}{its its':List aE}(I:Inv X g i H s)(h:H p=KE (.lst xs))
  (j:s.heap.get? p=KE { cls:=.type "list",data:=.seq its.toArray n }) (c:f { cls:=.type "list",data:=.seq its.toArray n }={ cls:=.type "list",data:=.seq its'.toArray d }) (r:Vals ys its') (hz:ys.length<=sizeLine) (t:Nat) :
  Inv X g i (upd H p (.lst ys)) { s with heap:=s.heap.update p f,toks:=t }:=by
 have e:(s.heap.update p f).get? p=KE { cls:=.type "list",data:=.seq its'.toArray d }:=by
  rw[gF f j (by rw[c]<;>rfl),c]
 show I.write (x:=p) (e:=p) (by rw[h];trivial) (.inl rfl) (λb u l q=>(Heap.get?_update_other _ _ (Ne.symm l)).trans q) {_,e} ?_;show#v[hz,its',d,r,e]
def aco:V->V->V->Hp->(Hp->Prop)->Prop:=λo i v H Q=>∃p xs k j,o=.ref p/\i=.int k/\H p=KE (.lst xs)/\ixN xs.length k=KE j/\Q (upd H p (.lst (xs.set j v)))
def Kq:So X aco:=by
 intro w s x H o i v D iv u Q I y z A h;obtain⟨p,xs,k,j,rfl,rfl,f,C,q⟩:=h;cases y;obtain⟨t,rfl⟩:=z;obtain⟨its,n,r,d,hz⟩:=I.lst f;obtain⟨c,E,g,l⟩:=Fj C;have e:=r.length;have G:=mf;have m:Inv X w x (upd H p (.lst (xs.set j v))) { s with heap:=s.heap.update p (fA (·.setIfInBounds j u)) }:=
  I.lstUpd f d (S8 its n j u) (r.set A j) (by rw[eF];show hz) s.toks
 by_cases h0:0<=k
 ·have hk:k.toNat=j:=by
   rw[tS h0 l]at c;show bU c
  show PySem.W.ki_setAt d h0 () (by rw[aM,<-e];show l) (by rw[hk];show{_,m,q})
 ·have hk:(k+(its.toArray.size:Int)).toNat=j:=by
   rw[seqIndex_neg () g]at c;rw[aM,<-e];show bU c
  show PySem.W.ki_setBack d () (by rw[aM,<-e];show g) () (by rw[hk];show{_,m,q})
def Kr (lo hi:Option Int)(n:Nat):(lI lo hi LY n).1=((HT.sIx n 0 lo:Nat):Int)/\(lI lo hi LY n).2.1=((HT.sIx n n hi:Nat):Int)/\(lI lo hi LY n).2.2=1:=by
 show{?_,?_,rfl}
 ·cases lo with
  |none=>simp[lI,HT.sIx]
  |some i=>
   simp only[lI,HT.sIx,Option.getD_none,show(1:Int) > 0 by decide,if_true];by_cases h:i < 0
   ·simp only[h,if_true]<;>lia
   ·simp only[h,if_false]<;>lia
 ·cases hi with
  |none=>simp[lI,HT.sIx]
  |some i=>
   simp only[lI,HT.sIx,Option.getD_none,show(1:Int) > 0 by decide,if_true];by_cases h:i < 0
   ·simp only[h,if_true]<;>lia
   ·simp only[h,if_false]<;>lia
def Im (its:List aE)(lo hi:Option Int):slicePick its.toArray lo hi LY=((its.drop (HT.sIx its.length 0 lo)).take (HT.sIx its.length its.length hi - HT.sIx its.length 0 lo)).toArray:=by
 obtain⟨c,d,e⟩:=Kr lo hi its.toArray.size;unfold slicePick;rw[c,d,e];simp only[sliceRange_one,pick_run,aM]<;>rfl
def rSlL (K:aG):V->Option Int->Option Int->Hp->VK->Prop:=λx lo hi H Q=>∃a xs,x=.ref a/\SqL K H a xs/\∀p,H p=LY->Q (.ref p) (upd H p (.lst (wm xs lo hi)))
def Ra:SlR X (rSlL X.K):=by
 intro i s j H x v l m lo hi n Q I d hs pl e h;obtain⟨a,xs,rfl,f,q⟩:=h;cases d;obtain⟨its,r,c,hz⟩:=I.list f;have g:=r.length;show{"list",_,slot_list_getitem.lookup,c.isList.typeIs,?_};show wpAny_getItem_list_slice c.isList hs pl e .none ∅ ?_ (by rw[aM]<;>lia);rw[Im,<-g];show⟨.ref ‹s›,_,I.laid (t':=s.toks) (o:=.lst (wm xs lo hi)) (λb p q=>aF _ q) (aJ _) ?_,rfl,q _ (I.hok.fresh (aJ _))⟩;show{bK (Cj xs lo hi) hz,_,0,(r.drop (HT.sIx xs.length 0 lo)).take (HT.sIx xs.length xs.length hi - HT.sIx xs.length 0 lo),aT _ rfl}
def n9:V->Bool
 | .non=>LZ
 | .bl _=>LZ
 | .int _=>LZ
 | .str _=>LZ
 |_=>MA
def eqV:V->V->Bool
 | .non,.non=>LZ
 | .bl a,.bl b=>a == b
 | .bl a,.int b=>(if a then 1 else 0) == b
 | .int a,.bl b=>a == (if b then 1 else 0)
 | .int a,.int b=>a == b
 | .str a,.str b=>a == b
 |_,_=>MA
def Vu {A:bV}{s:aH}{y x:V}{u v:aE}(d:RelV y u)(c:RelV x v)(f:n9 y=LZ)(e:n9 x=LZ):uF A s u v (eqV y x):=by
 cases y with
 |non=>
  cases d;cases x with
  |non=>cases c;show SeqAt.EqAt.same _
  |bl b=>cases c;show SeqAt.EqAt.none_bool b
  |int b=>obtain⟨t,rfl⟩:=c;show SeqAt.EqAt.none_int b t
  |str b=>obtain⟨t,rfl⟩:=c;show SeqAt.EqAt.none_str b t
  |_=>show MJ (show MA=LZ from e) aO
 |bl a=>
  cases d;cases x with
  |non=>cases c;show SeqAt.EqAt.bool_none a
  |bl b=>cases c;show SeqAt.EqAt.bool_bool a b
  |int b=>obtain⟨t,rfl⟩:=c;show SeqAt.EqAt.bool_int a b t
  |str b=>obtain⟨t,rfl⟩:=c;show SeqAt.EqAt.bool_str a b t
  |_=>show MJ (show MA=LZ from e) aO
 |int a=>
  obtain⟨t',rfl⟩:=d;cases x with
  |non=>cases c;show SeqAt.EqAt.int_none a t'
  |bl b=>cases c;show SeqAt.EqAt.int_bool a t' b
  |int b=>obtain⟨t,rfl⟩:=c;show SeqAt.EqAt.int_int a t' b t
  |str b=>obtain⟨t,rfl⟩:=c;show SeqAt.EqAt.int_str a t' b t
  |_=>show MJ (show MA=LZ from e) aO
 |str a=>
  obtain⟨t',rfl⟩:=d;cases x with
  |non=>cases c;show SeqAt.EqAt.str_none a t'
  |bl b=>cases c;show SeqAt.EqAt.str_bool a t' b
  |int b=>obtain⟨t,rfl⟩:=c;show SeqAt.EqAt.str_int a t' b t
  |str b=>obtain⟨t,rfl⟩:=c;show SeqAt.EqAt.str_str a t' b t
  |_=>show MJ (show MA=LZ from e) aO
 |_=>show MJ (show MA=LZ from f) aO
def eqU (x:V)(u:aE):Bool:=match u with
 | .none=>eqV .non x
 | .bool b=>eqV (.bl b) x
 | .int i _=>eqV (.int i) x
 | .str z _=>eqV (.str z) x
 |_=>MA
def Vv {x y:V}{u:aE}(r:RelV y u)(f:n9 y=LZ):eqU x u=eqV y x:=by
 cases y with
 |non=>cases r;rfl
 |bl b=>cases r;rfl
 |int i=>obtain⟨t,rfl⟩:=r;rfl
 |str z=>obtain⟨t,rfl⟩:=r;rfl
 |_=>show MJ (show MA=LZ from f) aO
theorem Ks {A:bV}{s:aH}{x:V}{v:aE}(c:RelV x v)(d:n9 x=LZ):∀{xs:List V}{us:List aE},Vals xs us->xs.all n9=LZ->∀u∈us,uF A s u v (eqU x u)
 |_,_,.nil,_=>λu hu=>by cases hu
 |y::xs,u::us,.cons r t,f=>λe hu=>by
  rw[sE,cO]at f;rcases aW.mp hu with rfl | hu
  ·rw[Vv r f.1];show Vu r c f.1 d
  ·show Ks c d t f.2 e hu
def um:j9 X (.builtin "len") (λxs H Q=>∃p ys,xs=[.ref p]/\(SqL X.K H p ys\/SqT X.K H p ys)/\Q (.int ys.length) H):=by
 intro f s g H xs us Q I r h;obtain⟨p,ys,rfl,hq,q⟩:=h;obtain⟨u,rfl,e⟩:=k8 r;cases e;have i:=mf;rcases hq with hq | hq
 ·obtain⟨its,c,pl,hz⟩:=I.list hq;have d:=c.length;show Calls.call_len_list pl.isList (by simp only[aM]<;>lia) {.int ys.length,H,I.tok _,{s.toks+1,by rw[aM,d]},q}
 ·obtain⟨its,c,pl,hz⟩:=I.tuple hq;have d:=c.length;show len_tuple pl (by simp only[aM]<;>lia) {.int ys.length,H,I.tok _,{s.toks+1,by rw[aM,d]},q}
def Kt:j9 X (.builtin "len") (λxs H Q=>∃z,xs=[.str z]/\z.length<=sizeLine/\Q (.int z.length) H):=by
 intro c s d H xs us Q I r h;obtain⟨z,rfl,hz,q⟩:=h;obtain⟨u,rfl,t,rfl⟩:=k8 r;have e:=mf;show len_str () {.int z.length,H,I.tok _,{_,rfl},q}
def zx:j9 X (.type "list") (λxs H Q=>∃p ys,xs=[.ref p]/\(SqL X.K H p ys\/SqT X.K H p ys)/\∀l,H l=LY->Q (.ref l) (upd H l (.lst ys))):=by
 intro m s x H xs us Q I r h;obtain⟨p,ys,rfl,hq,q⟩:=h;obtain⟨u,rfl,y⟩:=k8 r;cases y;have i:∀its,Vals ys its->ys.length<=sizeLine->∀h' c,(∀b j,s.heap.get? b=KE j->h'.get? b=KE j)->
   h'.get? ‹s›=KE { cls:=.type "list",dict:=LY,data:=.seq its.toArray c,slots:=#[] }->EP X m x Q (.ref ‹s›) { s with heap:=h' }:=λits d hz h' c kp e=>
  {.ref ‹s›,_,I.laid (t':=s.toks) kp (aJ _) (show ObjOk X.prog X.w _ h' _ (.lst ys)from#v[hz,its,c,d,e]),rfl,q _ (I.hok.fresh (aJ _))}
 rcases hq with hq | hq
 ·obtain⟨its,d,pl,hz⟩:=I.list hq;have z:=d.length;obtain⟨o,f,g,n,hd⟩:=pl.isList;show call_list_seq p (.inl rfl) f g hd (λh' c kp e=>i its d hz h' c kp e) (by simp only[aM]<;>lia)
 ·obtain⟨its,d,pl,hz⟩:=I.tuple hq;have z:=d.length;obtain⟨o,f,g,n,hd⟩:=pl;show call_list_seq p (.inr rfl) f g hd (λh' c kp e=>i its d hz h' c kp e) (by simp only[aM]<;>lia)
def zi:j9 X (.type "tuple") (λxs H Q=>∃p ys,xs=[.ref p]/\((SqL X.K H p ys/\∀l,H l=LY->Q (.ref l) (upd H l (.tup ys)))\/(SqT X.K H p ys/\Q (.ref p) H))):=by
 intro f s g H xs us Q I r h;obtain⟨p,ys,rfl,h⟩:=h;obtain⟨u,rfl,j⟩:=k8 r;cases j;rcases h with⟨c,q⟩ | ⟨c,q⟩
 ·obtain⟨its,d,pl,hz⟩:=I.list c;have m:=d.length;show call_tuple_list pl.isList (λh' kp=>?_) (by simp only[aM]<;>lia);have i:Inv X f g H { s with heap:=h' }:=I.kept (t':=s.toks) kp;have I2:Inv X f g (upd H h'.objs.size (.tup ys)) { s with heap:=h'.push { cls:=.type "tuple",data:=.seq its.toArray } }:=
   i.laid (t':=s.toks) (λb o e=>aF _ e) (aJ _) (show ObjOk X.prog X.w _ _ _ (.tup ys)from{hz,its,d,sS _ _})
  show{.ref h'.objs.size,_,I2,rfl,q _ (i.hok.fresh (aJ _))}
 ·obtain⟨its,d,pl,hz⟩:=I.tuple c;show call_tuple_same pl {.ref p,H,I,rfl,q}
def tyV (K:aG)(T:String)(x:V)(H:Hp):Prop:=match x with
 | .str _=>T="str"
 | .int _=>T="int"
 | .ref p=>(T="list"/\∃xs,SqL K H p xs)\/(T="tuple"/\∃o,K.lookup p=KE o/\o.cls=.type "tuple"/\o.dict=LY)\/
   (T="dict"/\((∃kvs,H p=KE (.dK kvs))\/∃kvs,H p=KE (.dT kvs)))\/(T="set"/\∃S n,H p=KE (.set S n))
 |_=>False
def Vw {g:List (MB×Obj)}{h:St}{H:Hp}{s:aH}{T:String}{x:V}{v:aE}(I:Inv X g h H s)(r:RelV x v)(ty:tyV X.K T x H) :
  s.TypeIs v T/\∀a,v=.ref a->∃f,s.heap.get? a=KE f/\f.dict=LY:=by
 cases x with
 |str z=>
  obtain⟨t,rfl⟩:=r;cases(show T="str" from ty);show{uE s z t,λ_ e=>nomatch e}
 |int i=>
  obtain⟨t,rfl⟩:=r;cases(show T="int" from ty);show{rW s i t,λ_ e=>nomatch e}
 |ref p=>
  cases r;rcases ty with⟨rfl,xs,j⟩ | ⟨rfl,o,hk,l,hd⟩ | ⟨rfl,hk⟩ | ⟨rfl,S,n,hk⟩
  ·obtain⟨its,_,pl,_⟩:=I.list j;show{pl.isList.typeIs,λa e=>?_};cases e;obtain⟨o,n,e,c,hd,_⟩:=pl;show#v[o,e,hd]
  ·show{{o,I.kIn p o hk,l},λa e=>?_};cases e;show{o,I.kIn _ o hk,hd}
  ·have z:∃o,s.heap.get? p=KE o/\o.ExactDict:=by
    rcases hk with⟨kvs,hk⟩ | ⟨kvs,hk⟩
    ·obtain⟨_,_,_,_,o,_,_,e,ex,_⟩:=I.hok p _ hk;show#v[o,e,ex]
    ·obtain⟨_,_,_,_,o,_,_,e,ex,_⟩:=I.hok p _ hk;show#v[o,e,ex]
   obtain⟨o,e,ex⟩:=z;show{#v[o,e,ex.1],λa d=>?_};cases d;show#v[o,e,ex.2.1]
  ·obtain⟨o,_,_,_,e,ex,_⟩:=I.hok p _ hk;show{#v[o,e,ex.1],λa d=>?_};cases d;show#v[o,e,ex.2.1]
 |_=>show gY ty
def tBM0 (K:aG)(T:String)(r:V->List V->Hp->VK->Prop)(to:TE):TE:=λd H Q=>to d H λx c=>tyV K T x c/\r x [] c Q
def tBM (K:aG)(T:String)(r:V->List V->Hp->VK->Prop)(to:TE)(t:TA):TE:=λc H Q=>to c H λx d=>tyV K T x d/\t c d λxs e=>r x xs e Q
variable {o e:MD}{es:List MD}{to:TE}{t:TA}{name:Str}{vX vR:Pos}{T id:String}{r:V->List V->Hp->VK->Prop}
def Vx (i:oA T)(slot:Slot T name id)(j:sT (.builtin id)=pure (.type "method_descriptor"))(l:MtR X id r)(m:PE X o to)
  (n:hU o name X.env (eval o X.env)=eval o X.env:=by rfl) (p:(vX.endLine == vR.line)=LZ:=by rfl):PE X (.Call (.Attribute o name vX) [] [] vR) (tBM0 X.K T r to):=by
 intro c s d H Q I h;show wpAny_Call_method0_late n p (thn (m c s d H _ I h) λv q u=>?_);obtain⟨x,w,f,g,ty,y⟩:=u;obtain⟨z,A⟩:=Vw f g ty;show{T,id,i,slot,j,z,A,Calls.callWith_builtin rfl (PySem.evalArgs_none (l c q d w x [] v [] Q f g .nil y))}
def S9 (l:oA T)(slot:Slot T name id)(m:sT (.builtin id)=pure (.type "method_descriptor"))(n:MtR X id r)(p:PE X o to)(q:PA X (e::es) t)
  (u:hU o name X.env (eval o X.env)=eval o X.env:=by rfl)
  (w:((dP vR (aN (e::es) X.env)).all (λx=>!x.1) && (nI vR (kN [] X.env)).all (λx=>x.1.isSome) && decide ((e::es).length+([]:List nP).length+(if ([]:List nP).isEmpty then 0 else 1) < 30))=LZ:=by rfl)
  (y:(vX.endLine == vR.line)=LZ:=by rfl) (hs:aN (e::es) X.env=(MA,eval e X.env)::aN es X.env:=by rfl) (z:(dP vR (aN es X.env)).any (·.1)=MA:=by rfl) :
  PE X (.Call (.Attribute o name vX) (e::es) [] vR) (tBM X.K T r to t):=by
 intro c s d H Q I h;show wpAny_Call_method_late u w y rfl (thn (p c s d H _ I h) λv A f=>?_);obtain⟨x,C,g,i,ty,D⟩:=f;obtain⟨E,G⟩:=Vw g i ty;show{T,id,l,slot,m,E,G,?_};have j:=q vR c A d C _ g D;rw[hs]at j ⊢;show Calls.callWith_builtin (by change(MA || (dP vR (aN es X.env)).any (·.1))=MA;rw[z]<;>rfl) (Calls.evalArgs_plain ?_);show thn j λus J f=>by obtain⟨vs,L,I2,N,O⟩:=f;show n c J d L x vs v us Q I2 i N O
end
def MtM (X:Cx)(id:String)(r:V->List V->Hp->VK->Prop):Prop:=
 ∀a s b H x xs v us Q,Inv X a b H s->RelV x v->Vals xs us->r x xs H Q->
  aL (aX X.prog X.w) X.A (call (.builtin id) (v::us)) (EP X a b Q) X.xe s
theorem Vals.one:∀{x:V}{us:List aE},Vals [x] us->∃u,us=[u]/\RelV x u
 |_,_,.cons r .nil=>{_,rfl,r}
theorem Vals.zero:∀{us:List aE},Vals [] us->us=[]
 |_,.nil=>rfl
theorem Vals.dropLast {xs:List V}{us:List aE}(h:Vals xs us):Vals xs.dropLast us.dropLast:=by
 induction h with
 |nil=>show .nil
 |cons r t a=>
  cases t with
  |nil=>show .nil
  |cons q t'=>show .cons r a
theorem Vals.eraseIdx:∀{xs:List V}{us:List aE}(i:Nat),Vals xs us->Vals (xs.eraseIdx i) (us.eraseIdx i)
 |_,_,_,.nil=>.nil
 |_,_,0,.cons _ t=>t
 |_,_,i+1,.cons r t=>.cons r (Vals.eraseIdx i t)
theorem Vals.reverse {xs:List V}{us:List aE}(h:Vals xs us):Vals xs.reverse us.reverse:=by
 induction h with
 |nil=>show .nil
 |cons r t a=>rw[iK,iK];show Vals.append a (.cons r .nil)
theorem Vals.rep (h:Vals xs us):∀k:Nat,Vals (aY k xs).flatten (aY k us).flatten
 |0=>.nil
 |k+1=>by
  rw[fH,fH,iM,iM];show Vals.append h (Vals.rep h k)
def Ta {c:Type}(l:List c):l.eraseIdx (l.length - 1)=l.dropLast:=by
 induction l with
 |nil=>rfl
 |cons a r d=>
  cases r with
  |nil=>rfl
  |cons b r=>
   have e:(a::b::r).length - 1=((b::r).length - 1)+1:=by
    have f:(a::b::r).length=r.length+2:=rfl;have g:(b::r).length=r.length+1:=rfl;lia
   rw[e,gN,d]
   all_goals rfl
theorem Hn {a:Type}:∀(l:List a)(i:Nat),(l.eraseIdx i).length<=l.length
 | [],_=>aJ _
 |_::_,0=>rH _
 |_::r,i+1=>Nat.succ_le_succ (Hn r i)
theorem Ho (its:List aE):∀k a,
  uG (λb c=>b++c) a.toArray (aY k its.toArray)=(a++(aY k its).flatten).toArray
 |0,a=>by simp
 |k+1,a=>by
  have e:a.toArray++its.toArray=(a++its).toArray:=∅;have d:(a++its)++(aY k its).flatten=a++(aY (k+1) its).flatten:=by
   rw[fH,iM,dY]
  rw[<-d,<-Ho its k (a++its),<-e,fH,oB]
section
variable {X:Cx}{f':List (MB×Obj)}{σ:St}{H:Hp}{s:aH}{l b:MB}{xs ys zs:List V}
def Inv.lset {its its':List aE}{n:Nat}{f:Array aE->Array aE}{t':Nat}(I:Inv X f' σ H s)(a:H l=KE (.lst xs))
  (e:s.heap.get? l=KE { cls:=.type "list",data:=.seq its.toArray n }) (c:f its.toArray=its'.toArray) (d:Vals ys its') (hz:ys.length<=sizeLine) :
  Inv X f' σ (upd H l (.lst ys)) { s with heap:=s.heap.update l (fA f),toks:=t' }:=by
 have q:=PySem.IsL.update e f;rw[c]at q;show I.write (x:=l) (e:=l) (by rw[a];show trivial) (.inl rfl) (λi u g h=>(Heap.get?_update_other s.heap (fA f) (Ne.symm g)).trans h) {_,q} ?_;show{hz,its',_,d,q}
def Inv.lnew {its:List aE}{t':Nat}(I:Inv X f' σ H s)(a:Vals ys its)(hz:ys.length<=sizeLine) :
  Inv X f' σ (upd H ‹s› (.lst ys)) { s with heap:=s.heap.push { cls:=.type "list",data:=.seq its.toArray },toks:=t' }:=
 I.laid (λ_ _ q=>aF _ q) (aJ _) {hz,its,0,a,aT _ rfl}
theorem Inv.fresh (I:Inv X f' σ H s):H ‹s›=LY:=I.hok.fresh (aJ _)
def Inv.lstM (I:Inv X f' σ H s)(a:H l=KE (.lst xs)):xs.length<=sizeLine/\∃(its:List aE)(n:Nat),Vals xs its/\xs.length=its.length/\s.heap.get? l=KE { cls:=.type "list",data:=.seq its.toArray n }:=by
 obtain⟨z,its,n,r,e⟩:=I.hok l _ a;show#v[z,its,n,r,r.length,e]
def Cz {n:Nat}(h:n<=sizeLine):gG n=MA:=by
 unfold gG;show MH ()
end
section
variable {X:Cx}
def ael:V->List V->Hp->VK->Prop:=λx vs H Q=>∃l xs y,x=.ref l/\vs=[y]/\H l=KE (.lst xs)/\xs.length < sizeLine/\Q .non (upd H l (.lst (xs++[y])))
def zy:MtM X "list.append" ael:=by
 intro f s g H x vs v us Q I b c h;obtain⟨l,xs,y,rfl,rfl,a,hz,q⟩:=h;cases b;obtain⟨u,rfl,d⟩:=c.one;obtain⟨z,its,n,r,i,e⟩:=I.lstM a;show jK F.slot_list_append {_,e,rfl} F.entry_list_append (F.args_list_append_2 _ _) (PySem.list_append l its.toArray n u (by rw[aM];lia)) {e,?_};show{.non,_,I.lset (its':=its++[u]) a e ∅ (r.append (.cons d .nil)) ?_,rfl,q};rw[aI,cT];lia
def aem:V->List V->Hp->VK->Prop:=λx vs H Q=>∃l b xs a,x=.ref l/\vs=[.ref b]/\H l=KE (.lst xs)/\H b=KE (.lst a)/\xs.length+a.length<=sizeLine/\Q .non (upd H l (.lst (xs++a)))
def Vy:MtM X "list.extend" aem:=by
 intro w s y H x vs v us Q I d f h;obtain⟨l,b,xs,A,rfl,rfl,c,g,hz,q⟩:=h;cases d;obtain⟨u,rfl,i⟩:=f.one;cases i;obtain⟨z,its,n,r,C,e⟩:=I.lstM c;obtain⟨D,a,j,m,E,o⟩:=I.lstM g;have hsz:its.toArray.size+a.toArray.size<=sizeLine:=(by rw[aM,aM];lia);have p:¬(!its.toArray.isEmpty && gG (its.toArray.size+a.toArray.size))=LZ:=by
  rw[Cz hsz,mH];show aO
 show jK F.slot_list_extend {_,e,rfl} F.entry_list_extend (F.args_list_extend_2 _ _)
  (AutoSeq1.list_extend_list_list_0 l its.toArray n b a.toArray j p (by rw[aM];lia) ()) {e,o,?_}
 show{.non,_,I.lset (its':=its++a) c e ∅ (r.append m) ?_,rfl,q};rw[aI];lia
def rPop:V->List V->Hp->VK->Prop:=λx vs H Q=>∃l xs y,x=.ref l/\vs=[]/\H l=KE (.lst xs)/\xs[xs.length - 1]?=KE y/\Q y (upd H l (.lst xs.dropLast))
def ait:MtM X "list.pop" rPop:=by
 intro o s p H x vs v us Q I b c h;obtain⟨l,xs,y,rfl,rfl,a,d,q⟩:=h;cases b;have f:=c.zero;subst f;obtain⟨z,its,n,r,g,e⟩:=I.lstM a;obtain⟨u,i,j⟩:=r.get d;have m:its.toArray[its.toArray.size - 1]?=KE u:=by
  change its.toArray[its.length - 1]?=KE u;rw[<-bP,<-g];show i
 show jK F.slot_list_pop {_,e,rfl} F.entry_list_pop (F.args_list_pop_1 _) (MeetsSeq.list_pop_last l its.toArray n u m (by rw[aM];lia)) {e,?_};show{y,_,I.lset (its':=its.dropLast) a e ?_ r.dropLast ?_,j,q}
 ·change its.toArray.eraseIdxIfInBounds (its.toArray.size - 1)=its.dropLast.toArray;rw[aM,List.eraseIdxIfInBounds_toArray,Ta]
 ·rw[List.length_dropLast];lia
def aiu:V->List V->Hp->VK->Prop:=λx vs H Q=>∃l xs i k y,x=.ref l/\vs=[.int i]/\H l=KE (.lst xs)/\-(2 ^ 63)<=i/\i < 2 ^ 63/\seqIndex? i xs.length=KE k/\xs[k]?=KE y/\Q y (upd H l (.lst (xs.eraseIdx k)))
def Ze:MtM X "list.pop" aiu:=by
 intro p s A H x vs v us Q I b c h;obtain⟨l,xs,i,k,y,rfl,rfl,a,d,f,hk,g,q⟩:=h;cases b;obtain⟨u,rfl,j⟩:=c.one;obtain⟨t,rfl⟩:=j;obtain⟨z,its,n,r,m,e⟩:=I.lstM a;obtain⟨w,hw,o⟩:=r.get g;show jK F.slot_list_pop {_,e,rfl} F.entry_list_pop (F.args_list_pop_2 _ _)
  (MeetsSeq.list_pop_at l its.toArray n i t k w (fitsIndex_both d f) (by rw[aM,<-m];show hk) (by rw[<-bP];show hw) (by rw[aM];lia)) {e,?_}
 show{y,_,I.lset (its':=its.eraseIdx k) a e ?_ (r.eraseIdx k) ?_,o,q}
 ·change its.toArray.eraseIdxIfInBounds k=(its.eraseIdx k).toArray;rw[List.eraseIdxIfInBounds_toArray]
 ·have:=Hn xs k;lia
def aiv:V->List V->Hp->VK->Prop:=λx vs H Q=>∃l xs,x=.ref l/\vs=[]/\H l=KE (.lst xs)/\Q .non (upd H l (.lst []))
def Zf:MtM X "list.clear" aiv:=by
 intro f s g H x vs v us Q I b c h;obtain⟨l,xs,rfl,rfl,a,q⟩:=h;cases b;have d:=c.zero;subst d;obtain⟨z,its,n,r,i,e⟩:=I.lstM a;show jK F.slot_list_clear {_,e,rfl} F.entry_list_clear (F.args_list_clear_1 _) (AutoSeq1.list_clear_list_0 l its.toArray n (by rw[aM];lia)) {e,?_};show{.non,_,I.lset (its':=[]) (ys:=[]) a e rfl .nil (cP _),rfl,q}
def rCat:R2:=λx y H Q=>∃l b xs a,x=.ref l/\y=.ref b/\H l=KE (.lst xs)/\H b=KE (.lst a)/\xs.length+a.length<=sizeLine/\∀p,H p=LY->Q (.ref p) (upd H p (.lst (xs++a)))
def aiw:OpR X (eA .Add) rCat:=by
 intro o s p H x y v u Q I c d h;obtain⟨l,b,xs,w,rfl,rfl,f,g,hz,q⟩:=h;cases c;cases d;obtain⟨z,its,n,r,A,e⟩:=I.lstM f;obtain⟨C,a,D,i,E,j⟩:=I.lstM g;show PySem.P.add_list e j ?_ (by rw[aM,aM];lia);have m:its.toArray++a.toArray=(its++a).toArray:=∅;rw[m];show{.ref _,_,I.lnew (t':=s.toks) (r.append i) (by rw[aI];lia),rfl,q _ I.fresh}
def rRep:R2:=λx y H Q=>∃l k xs,x=.ref l/\y=.int k/\H l=KE (.lst xs)/\-(2 ^ 63)<=k/\k < 2 ^ 63/\xs.length * k.toNat<=sizeLine/\
 ∀p,H p=LY->Q (.ref p) (upd H p (.lst (aY k.toNat xs).flatten))
def aen (xs:List b)(k:Nat):(aY k xs).flatten.length=k * xs.length:=by
 induction k with
 |zero=>simp
 |succ k a=>rw[fH,iM,aI,a,Nat.succ_mul,oC]
def aix:OpR X (eA .Mult) rRep:=by
 intro G s J H x y v u Q I g i h;obtain⟨l,k,xs,rfl,rfl,j,o,p,hz,q⟩:=h;cases g;obtain⟨t,rfl⟩:=i;obtain⟨z,its,n,r,w,e⟩:=I.lstM j;have A:its.toArray.size * k.toNat<=sizeLine:=(by rw[aM,<-w];show hz);have b:¬its.toArray.size * k.toNat > (2 ^ 63 - 1) / 8:=by
  have:(sizeLine:Nat)<=(2 ^ 63 - 1) / 8:=(by decide);lia
 have C:¬(!Builtin.List.listFitsIndex k)=LZ:=by
  rw[fitsIndex_both o p];show aO
 have D:¬gG (its.toArray.size * k.toNat)=LZ:=by
  rw[Cz A];show aO
 have c:uG (λd f=>d++f) #[] (aY (if its.toArray.isEmpty=LZ then 0 else k.toNat) its.toArray)=(aY k.toNat its).flatten.toArray:=by
  have E:∀m:Nat,uG (λd f=>d++f) #[] (aY m its.toArray)=(aY m its).flatten.toArray:=λm=>by
   have:=Ho its m [];rw[bM]at this;show this
  rw[E];cases its with
  |nil=>simp
  |cons a L=>rw[MG ∅]
 show wpAny_binaryOp_repeat_ref (T:="list") (U:="int") (by decide) {_,e,rfl} (λs'=>rW s' k t) noFill_list_mul F.fills_int_mul F.slot_int_rmul repeat_list F.slot_int_index.lookup
  (jK F.slot_int_rmul (rW s k t) F.entry_int_rmul (F.args_int_rmul_2 _ _) (int___rmul___int_list k t l its.toArray n) {e,rfl,{_,e,rfl},jK F.slot_list_mul {_,e,rfl} F.entry_list_mul (F.args_list_mul_2 _ _) (AutoListH.list___mul___list_int_3 l its.toArray n k t C b D) {e,?_}})
 rw[c];show{.ref _,_,I.lnew (t':=s.toks) (r.rep k.toNat) (by rw[aen,lX];show hz),rfl,q _ I.fresh}
end
end L2
namespace Att
open PySem PySem.W PySem.Calls PyProof.Rows
def D8:∀ns vs,WellAll P h vs (ns.map WData.int)->tM vs ns:=by
 intro ns
 induction ns with
 |nil=>
  intro vs w;rw[iH]at w;cases w;show .nil
 |cons n ns c=>
  intro vs w;rw[bB]at w;cases w with
  |cons a b=>
   cases a;show .cons _ _ (c _ b)
def Vz {l:mY}(i:l.most=KE n){h:MC}
  (f:l.row.toRowW.claim.pre args=LZ) (j:WellAll P h m args) :
  ∃a vs ns,m=[bY a]/\args=[WData.list (ns.map WData.int)]/\h.get? a=KE { cls:=.type "list",data:=.seq vs.toArray }/\tM vs ns/\ns.length<=n:=by
 have e:WShape.hasAll [] args [.list .int]=LZ:=(pre_splitW f).1;have g:l.pre.holds [] { args:=args }=LZ:=(pre_splitW f).2;obtain⟨d,r,rfl,o,p⟩:=hasAllW_cons e;obtain rfl:=hasAllW_nil p;obtain⟨xs,rfl,s⟩:=hasW_list o;obtain⟨ns,rfl⟩:=items_int s;have u:ns.length<=n:=by
  unfold OpenLaw.pre at g;have b:(WTm.not (.lt (.lit (.int (n:Int))) (.len (.arg 0)))).holds [] { args:=[.list (ns.map .int)] }=LZ:=by
   have b:=(holds_andW g).1;rw[i]at b;show b
  have c:=condW_of b (w_not (w_lt w_lit (w_len_list (w_arg rfl))));rw[aC]at c;show nJ λq=>?_;have w:(n:Int) < ((ns.length:Nat):Int):=by lia
  first
   | (rw[MI w]at c;show MJ c (by decide))
   | (simp at c;lia)
 cases j with
 |cons x y=>
  cases y;cases x with
  |list z A=>show{_,_,ns,rfl,rfl,z,D8 ns _ A,u}
def V0 (l:mY)(args:List WData):l.row.toRowW.claim.post args (.bool LZ) args=LZ:=
 postW_of (r:=l.row.toRowW) (X:=(LZ == LZ))
  (show WShape.has [] (.bool LZ) .bool=LZ by first | rfl | decide | simp[WShape.has,WShape.arms,WShape.armsAll])
  (show(WTm.eq .res (.lit (.bool LZ))).value [] { args:=args,res:=KE (.bool LZ),after:=args }=KE (.bool (LZ == LZ))from w_eq_bool (w_res rfl) w_lit) rfl
def attach_call {l:mY}{d:DefRec}
  (j:l.most=KE n) (m:d.params.defaults=[])
  (call:∀(w:bA)(s₀ b:aH) (mg c:Str->Option aE) (fa:MB) (o:Obj) (e cd g:aE) (a:MB) (vs:List aE) (ns:List Int),Ground q p [] s w s₀ mg c b.heap->u w b.heap->b.heap.get? fa=KE o->o.data=.func (docDef d.name d.params d.body d.scope e cd g)->b.heap.CodeRec cd d.name->mg d.name=KE (.ref fa)->b.heap.get? a=KE { cls:=.type "list",data:=.seq vs.toArray }->tM vs ns->ns.length<=n->b.gens=#[]->lH (aX l.prog w) oZ (.call (.ref fa) {[.ref a],[]}) (λr s'=>r=.ok (.ret (.bool LZ))/\OldK b.heap s'.heap/\s'.os=b.os/\nO s'.gens) b) :
  WalkO q p s u l.row.toRowW d [] (λf vs=>uH f vs):=by
 intro w s₀ b mg c G Y fa o e cd g x kV y hd z h A C args CT as D i E H I;obtain rfl:x=.none:=Dflts.none h m;obtain rfl:kV=.none:=Dflts.noKw h;obtain⟨a,vs,ns,rfl,rfl,J,L,N⟩:=Vz j D H;show enter_call (lR (call w s₀ b mg c fa o e cd g a vs ns G Y y (fd_plain hd) z A J L N C) λr s' O=>?_);obtain⟨rfl,Q,T,U⟩:=O;show{.inl {.bool LZ,.bool LZ,[],rfl,λ_=>rfl,.bool LZ,V0 l _,λ_=>{jI,λ_ hm=>(nomatch hm)}},Q,T,U}
section
variable {prog:aV}{w:bA}{A:bV}{E:aE->aH->Prop}{s:aH}{K:Frag}
def ledger (h:MC)(L d:MB):List (MB×Obj):=(bE h.objs.size).filterMap λa=>if a=L\/a=d then LY else (h.get? a).map λo=>(a,o)
end
end Att
namespace L2
open PySem PySem.Spec PyProof.Rows
theorem Hq:∀{vs ns},tM vs ns->Vals (ns.map V.int) vs
 |_,_,.nil=>.nil
 |_,_,.cons n t h=>.cons #v[t,rfl] (Hq h)
def Zg (H:Hp):Prop:=∀b,H b=LY\/∃o xs,H b=KE (.frz o (.lst xs))
def Zh {P:aV}{w:bA}{K:aG}{mg D:Str->Option aE}{CX:CXT}{k:Nat}{fa a:MB}{fd:gO}{x:Str}{sp:Sp}{c:aH}{vs:List aE}{ns:List Int}
  (KX:K.In c.heap) (I:c.heap.Ns bG mg) (f:c.heap.Ns uA D) (E:∀x:Str,x≠"__name__"->D x=dW x) (i:c.heap.NoLimit) (hg:c.gens=#[])
  (A:c.heap.get? a=KE { cls:=.type "list",data:=.seq vs.toArray }) (hi:tM vs ns) (J:ns.length<=sizeLine) (hr:Room k oZ)
  (F:∀base:MC,K.In base->base.Ns bG mg->i5 P w K mg base CX k fa fd [x] sp) (g:∀(s:aH)(u:aE),qJ s fd {[u],[]} [(x,u)])
  (DP:∀H:Hp,Zg H->SqL K H a (ns.map V.int)->sp [.ref a] H (λv _=>v=.bl LZ) λ_ _ _=>False)
  (IB:∀H e s',CX [] H c (λ_ _ _=>False) e s'->False) :
  lH (aX P w) oZ (.call (.ref fa) {[.ref a],[]}) (λr s'=>r=.ok (.ret (.bool LZ))/\OldK c.heap s'.heap/\s'.os=c.os/\nO s'.gens) c:=by
 have L:=Hq hi;have j:=hi.length;have N:∀H:Hp,Zg H->SqL K H a (ns.map V.int)->HOk P w H c.heap->(∀b,H b≠LY->b=a)->(H a≠LY->K.lookup a=LY)->
   lH (aX P w) oZ (.call (.ref fa) {[.ref a],[]}) (λr s'=>r=.ok (.ret (.bool LZ))/\OldK c.heap s'.heap/\s'.os=c.os/\nO s'.gens) c:=by
  intro H O hS hok Q hK;have T:∀{b:MB}{o:Obj},c.heap.get? b=KE o->H b=LY->(ya c.heap H).get? b=KE o:=λe n=>Yx e n;have FO:∀{b:MB}{o:Obj}{l:Array DictEntry}{ep:Nat},c.heap.get? b=KE o->o.data=.dict l ep->H b=LY:=λ{b o l ep} e d=>by
   cases q:H b with
   |none=>rfl
   |some u=>
    have G:b=a:=Q b (by rw[q];simp);subst G;rw[A]at e;cases e;have d':uX vs.toArray _=Data.dict l ep:=d;cases d'
  have C:∀{b:MB}{m:Str->Option aE},c.heap.Ns b m->(ya c.heap H).Ns b m:=λ{b m} uU=>(by obtain⟨o,l,ep,e,d,r⟩:=uU;show{o,l,ep,T e (FO e d),d,r});have U:K.In (ya c.heap H):=λb o e=>T (KX b o e) (by
    cases q:H b with
    |none=>rfl
    |some u=>
      have G:b=a:=Q b (by rw[q];simp);subst G;rw[hK (by rw[q];simp)]at e;cases e)
  have hM:Mod K mg (ya c.heap H):=⟨U,C I,{D,C f,E},let ⟨mc,h1,h2⟩:=i;{mc,C h1,h2}⟩;have e0:Env0 P w K mg (ya c.heap H) oZ [] c H:={rfl,hM,λb o e=>ado e,Nat.le_of_eq (Ve _ _),trivial,λb f=>MJ (show b∈([]:List MB)from f) ∅,hok,.of_eq hg};show lR ((F _ U (C I)).run oZ [] c H {[.ref a],[]} [.ref a] [.ref a] _ _ hr e0 (g c (.ref a)) (.cons rfl .nil) (DP H O hS)) λr s' h=>?_;cases r with
  |error e=>show(IB H e s' h).elim
  |ok fl=>
   cases fl with
   |next=>show gY h
   |brk=>show gY h
   |cont=>show gY h
   |ret u=>
    obtain⟨v,H',os,bare,un,p,r',q⟩:=h;have q':v=.bl LZ:=q;subst q';obtain rfl:u=qI LZ:=r';show{rfl,OldK.of_keep λb o e=>?_,os,bare};cases q:H b with
    |none=>show un.keep b o e q (by intro z;show MJ (show b∈([]:List MB)from z) ∅) ∅
    |some u=>
     rcases O b with z | ⟨ob,xs,z⟩
     ·rw[q]at z;cases z
     ·have z2:=un.frzs b ob _ z;obtain⟨Y,_⟩:=hok b _ z;obtain⟨e2,_⟩:=p b _ z2;rw[e]at Y;cases Y;show e2
 cases hk:K.lookup a with
 |some o=>
  have e:=KX a o hk;rw[A]at e;cases e;show N (λ_=>LY) (λ_=>.inl rfl) (.inr {_,vs.toArray,_,hk,rfl,rfl,rfl,by rw[aM,j];show J,by simpa using L}) (λb u z=>by have y:(LY:Option HO)=KE u:=z;cases y) (λb z=>MJ rfl z) λz=>MJ rfl z
 |none=>
  show N (λb=>if b=a then KE (.frz { cls:=.type "list",data:=.seq vs.toArray } (.lst (ns.map V.int)))else LY) (λb=>?_) (.inl (.inr ⟨{ cls:=.type "list",data:=.seq vs.toArray },MF rfl⟩)) (λb u z=>?_) (λb z=>?_) λ_=>hk
  ·by_cases f:b=a
   ·show .inr {_,_,MF f}
   ·show .inl (MG f)
  ·by_cases f:b=a
   ·have y:=(MF f).symm.trans z;cases y;subst f;show{A,by rw[aC];show J,vs,_,L,A}
   ·have y:=(MG f).symm.trans z;cases y
  ·by_cases f:b=a
   ·show f
   ·show MJ (MG f) z
abbrev KOf {K:aG}{h:MC}(_:K.In h):aG:=K
def walk_of {l:mY}{n k:Nat}{q:aV}{m:List Str}{p:(Str->Option aE)->MC->Prop}{i:bA->MC->Prop}{d:DefRec}{K:Params->aG}{CX:bA->CXT}{sp:bA->Sp}{x:Str}
  (r:l.most=KE n) (y:n<=sizeLine) (z:d.params.defaults=[]) (A:Room k oZ)
  (C:∀(w:bA)(h:MC),i w h->(K w.params).In h)
  (F:∀(w:bA)(mg:Str->Option aE) (fa:MB) (h:MC),(K w.params).In h->h.Ns bG mg->mg d.name=KE (.ref fa)->∃fd:gO,(∀(s:aH)(u:aE),qJ s fd {[u],[]} [(x,u)])/\∀base:MC,(K w.params).In base->base.Ns bG mg->i5 l.prog w (K w.params) mg base (CX w) k fa fd [x] (sp w))
  (D:∀(w:bA)(H:Hp) (a:MB) (ns:List Int),ns.length<=n->Zg H->SqL (K w.params) H a (ns.map V.int)->sp w [.ref a] H (λv _=>v=.bl LZ) λ_ _ _=>False)
  (E:∀(w:bA)(H:Hp) (s:aH) (e:aE) (s':aH),CX w [] H s (λ_ _ _=>False) e s'->False) :
  PySem.W.WalkO q m p i l.row.toRowW d [] (λf vs=>uH f vs):=by
 show Att.attach_call r z λw s₀ c mg mb fa o pm cd yP a vs ns G Y ho hd yZ I J L j N=>?_;have KX:=C w _ Y;obtain⟨fd,O,Q⟩:=F w mg fa _ KX G.T.g I;show Zh KX G.T.g G.T.b G.T.builtins G.T.nolimit N J L (bK j y) A Q O (λH U hS=>D w H a ns j U hS) λH e s'=>E w H c e s'
end L2
namespace L2
open PySem PySem.Spec PyProof.Rows
def j4 (s:ME)(j:Nat):ME:=match s with
 | .ClassDef _ _ _ body _ _ _ _ _ _ _=>body.getD j (.Pass {0,0,0,0})
 |_=>.Pass {0,0,0,0}
def jj (s:ME):Arguments:=match s with
 | .FunctionDef _ a _ _ _ _ _ _ _ _=>a
 |_=>{ posonlyargs:=[],args:=[],vararg:=LY,kwonlyargs:=[],kw_defaults:=[],kwarg:=LY,defaults:=[] }
def iu (s:ME):List ME:=match s with
 | .FunctionDef _ _ b _ _ _ _ _ _ _=>b
 |_=>[]
def b7 (s:ME):mE:=match s with
 | .FunctionDef _ _ _ _ _ _ a _ _ _=>a
 |_=>{ kind:=.function,names:=[],isGenerator:=MA,isCoroutine:=MA }
abbrev CX0:CXT:=λ_ _ _ _ _ _=>False
abbrev E0:XK:=λ_ _ _=>False
def yc:uh CX0 X E0:=λ_ _ _ _ _ _ _ h=>h.elim
structure Fun (K:aG)(x vD:Str)(st:ME)(f:MB)(fd:gO):Prop where
 ex:∃oc od kV yP pm an uZ ct CQ,
  fd=fS x vD (jj st) (iu st) (b7 st) .none kV yP pm an uZ ct/\K.lookup f=KE {oc,od,.func fd,CQ}/\mF K uZ vD=LZ
 kp:fK K (.ref f)=LZ
section
variable {P:aV}{w:bA}{K:aG}{mg:Str->Option aE}{base:MC}
def Fun.ok {x b:Str}{st:ME}{f:MB}{fd:gO}{N ps:List Str}{k:Nat}{sp:Sp}(F:Fun K x b st f fd)(S:fq N ps (b7 st))(len:∀vs H Q E,sp vs H Q E->vs.length=ps.length)
  (c:∀(a:aE)(A:bV) (outer:List Env) (s:aH) (H:Hp) (vs:List V) (Q:VK) (E:XK),Room k (A.deeper (nY b (b7 st) ‹s› f a))->sp vs H Q E->∃t,PSs (Cy CX0 P w K mg base N b (b7 st) f a A outer s H E).nox (iu st) t/\t { nx:=λ_ H'=>Q .non H',rt:=Q } (start N vs) H):i5 P w K mg base CX0 (k+1) f fd ps sp:=by
 obtain⟨i,j,kV,l,m,n,a,ct,o,rfl,lk,d⟩:=F.ex;show fn_of lk d S len λA outer s H vs Q E e g=>?_;obtain⟨t,h,q⟩:=c a A outer s H vs Q E e g;show#v[t,h.nox,q]
def Fun.binds {x e:Str}{st:ME}{f:MB}{fd:gO}{ps:List Str}(F:Fun K x e st f fd)
  (h:∀(kV a b:aE)(c:Option MB) (d ct:aE) (us:List aE),us.length=ps.length->oX (fS x e (jj st) (iu st) (b7 st) .none kV a b c d ct) {us,[]}=pure (ps.zip us)):Binds K fd ps []:=by
 obtain⟨g,i,kV,a,b,c,d,ct,j,rfl,lk,l⟩:=F.ex;show .all (h kV a b c d ct)
def aiy {x a:Str}{st:ME}{f:MB}{h:aE}{i d:Option MB}{j:Array (Option aE)}{kV e g b ct:aE}(l:K.lookup f=KE {h,i,.func (fS x a (jj st) (iu st) (b7 st) .none kV e g d b ct),j})
  (c:mF K b a=LZ) (k:fK K (.ref f)=LZ):Fun K x a st f (fS x a (jj st) (iu st) (b7 st) .none kV e g d b ct):={#v[h,i,kV,e,g,d,b,ct,j,rfl,l,c],k}
end
section
variable {X:Cx}
def pv (i:Nat){x:Str}{a:Pos}(b:X.N[i]?=KE x:=by rfl)(c:Vis X.env.scope x:=by first | show aS rfl | show fQ (aS rfl) | show fQ (fQ rfl))(hd:(x == ("__debug__":Str))=MA:=by decide)
  (d:(x == ("__classdict__":Str))=MA:=by decide):PE X (.Name x a) (Sn i):=ug b c hd d
end
def Same (H H':Hp):Prop:=∀b o,H b=KE o->H' b=KE o
end L2
set_option maxHeartbeats 4000000
namespace L2
open PySem PySem.Spec PyProof.Rows
section
variable {prog:aV}{w:bA}{A:bV}{R:Result->aH->Prop}{s:aH}
theorem V1 (J:Nat->aH->Prop)
  (C:∀n s,J n s->aL (aX prog w) A (gU it) (λr a=>match r with
    |none=>R (.ok .next) a
    |some v=>aL (aX prog w) A (nW b it v) (λ_ g=>aL (aX prog w) A (lO b env v) (λ_ i=>
        aL (aX prog w) A (forIn j LZ λc r=>if r=LZ then do let ok <-sL c env (eval c env);pure (oE ok)else pure (oE r)) (λok d=>
          if ok=LZ then aL (aX prog w) A (eval l env) (λy o=>aL (aX prog w) A (call (.builtin "list.append") [p,y]) (λ_ q=>∃m,m < n/\J m q) (λ_ _=>False) o) (λ_ _=>False) d
          else ∃m,m < n/\J m d) (λ_ _=>False) i) (λ_ _=>False) g) (λ_ _=>False) a) (λ_ _=>False) s)
  (n:Nat) (h:J n s):lH (aX prog w) A (.compLoop (.ListComp l [{b,iter,j,0}] D e) 0 it p env) R s:=by
 show codeAny_loop rfl J (λn s E=>?_) n h;change aL _ A ((compTurn (.ListComp l [{b,iter,j,0}] D e) 0 it p env).onRaise (λx=>do noteFrame x env;theTreesLotGoes x)) _ _ s
 show wpAny_noted ?_;rw[compTurn_list];show aA (pO (aA (iR (C n s E) (λr a u=>?_) λ_ _ f=>f.elim)));cases r with
 |none=>show wpAny_pure u
 |some v=>
  show aA (iR u (λ_ g G=>?_) λ_ _ f=>f.elim);show aA (iR G (λ_ i H=>aA (iR H (λok d z=>?_) λ_ _ f=>f.elim)) λ_ _ f=>f.elim);cases ok with
  |false=>show wpAny_pure #v[rfl,z]
  |true=>
   show aA (aA (iR z (λy o I=>aA (iR I (λ_ q L=>wpAny_pure (wpAny_pure #v[rfl,L])) λ_ _ f=>f.elim)) λ_ _ f=>f.elim))
end
def cxC (X:Cx)(N:List Str)(sc:mE)(cl:List (Str×MB))(C:MB)(s:aH)(H:Hp)(fp:List MB):Cx where
 prog:=X.prog
 w:=X.w
 K:=X.K
 mg:=X.mg
 base:=X.base
 A:=X.A
 N:=N
 s₀:=s
 H₀:=H
 env:=compEnvC sc cl C X.env
 outer:=X.stack
 stack:=X.stack
 ex:=fp
 fn:=λ_=>MA
 calm:=X.calm
 pn:=[]
 xe:=λ_ _=>False
def pick (a:St)(fr:List Nat):St:=fr.map λi=>(a[i]?).getD LY
structure og (X:Cx)(ns ys:List Str)(fr:List Nat)(sc:mE)(cl:List (Str×MB)):Prop where
 clos:uI sc X.env=pure cl
 kind:sc.kind=.function
 nocell:∀y∈sc.names,y.2≠.cell
 locs:∀y∈sc.names,y.2=.local->sc.names.lookup y.1=KE .local
 sub:∀p∈cl,X.env.cells.lookup p.1=KE p.2
 has:∀y,((lJ sc X.env).names.lookup y=KE .cell\/(lJ sc X.env).names.lookup y=KE .free)->∃c,cl.lookup y=KE c
 len:fr.length=ys.length
 outs:∀(j:Nat)(y:Str),ys[j]?=KE y->∃i:Nat,fr[j]?=KE i/\X.N[i]?=KE y/\(X.env.kindOf y=KE .cell\/X.env.kindOf y=KE .free)/\
  ((lJ sc X.env).names.lookup y=KE .cell\/(lJ sc X.env).names.lookup y=KE .free)
theorem fu {a:Type}:∀{l:List (Str×a)}{x:Str}{c:a},l.lookup x=KE c->(x,c)∈l
 | [],_,_,h=>by cases h
 | (y,d)::r,x,c,h=>by
  rw[qO]at h;cases q:x == y with
  |true=>
   rw[q]at h;have b:x=y:=eq_of_beq q;have e:d=c:=bU h;rw[b,e];show aQ
  |false=>
   rw[q]at h;show aP _ (fu h)
def PTs (X:Cx)(d:List MD)(t:TT):Prop:=
 ∀b s a H Q,Inv X b a H s->t a H Q->
  aL (aX X.prog X.w) X.A (forIn d LZ λc r=>if r=LZ then do let ok <-sL c X.env (eval c X.env);pure (oE ok)else pure (oE r)) (TP X b a Q) X.xe s
def tYes:TT:=λ_ H Q=>Q LZ H
def aeo:PTs X [] tYes:=λ_ _ _ H _ I h=>wpAny_tests_nil #v[H,I,h]
def aep (h:PT X c t):PTs X [c] t:=λa s b H Q I q=>wpAny_tests_one (h a s b H Q I q)
def Tc (k:Nat)(fr:List Nat)(g:TG)(tt:TT)(te:TE)(c:St)(D:MB)(ys:List V)(N:List V->Hp->Prop)(x:V)(H:Hp):Prop:=
 g x (aY k LY++pick c fr) H λa h=>(∃d,a=d++pick c fr/\d.length=k)/\tt a h λb e=>if b=LZ then te a e λy f=>f D=KE (.lst ys)/\N (ys++[y]) (upd f D (.lst (ys++[y])))else N ys e
def Comps (k:Nat)(fr:List Nat)(g:TG)(tt:TT)(te:TE)(e:St)(Q:VK)(J:It)(H:Hp)(D:MB):Prop:=∃W:Nat->Nat->List V->Hp->Prop,(∃m,W 0 m [] (upd H D (.lst [])))/\
 ∀i m ys a,W i m ys a->a D=KE (.lst ys)/\((J.stop i a/\Q (.ref D) a)\/(J.go i a/\ys.length < sizeLine/\∃N:List V->Hp->Prop,(∀b H',N b H'->∃c,c < m/\W (i+1) c b H')/\∀x d,J.yld i a x d->Tc k fr g tt te e D ys N x d))
def J7 (k:Nat)(fr:List Nat)(c:TI)(g:TG)(tt:TT)(te:TE):TE:=λa H Q=>c a H λJ b=>∀D,b D=LY->Comps k fr g tt te a Q J b D
section
variable {X:Cx}{f':List (MB×Obj)}{σ:St}{H H':Hp}{s s':aH}{ns ys:List Str}{fr:List Nat}{sc:mE}{cl:List (Str×MB)}{C:MB}{fp:List MB}
def aiz (I:Inv X f' σ H s)(S:og X ns ys fr sc cl)(hf:∀b∈fp,ki X f' H b)(hl:∀b∈fp,b < ‹s›)(hC:‹s›<=C):(cxC X (ns++ys) sc cl C s H fp).Ok where
 mod:=I.ok.mod
 kind:=S.kind
 glob:=I.ok.glob
 blt:=I.ok.blt
 above:=hC
 inj:=λx y c e1 e2=>I.ok.inj x y c (S.sub _ (fu e1)) (S.sub _ (fu e2))
 has:=λx h=>S.has x h
 cab:=λx c h=>nomatch h
 hd:=λh=>I.ok.hd h
 frames:=I.ok.frames
 stk:=.inl rfl
 exf:=λb hb=>{bJ (bQ (hl b hb) hC),λx c e=>(hf b hb).2.2.2.2.1 x c (S.sub _ (fu e))}
 bs:=I.bs
 bsz:=bK I.ok.bsz I.sz
 noex:=λb o e hb=>by
  rcases(hf b hb).2.2.2.1 with z | z
  ·show I.ok.noex b o e z
  ·show MJ (bQ (aU e) (bK I.ok.bsz z)) (fR _)
 exfs:=λb hb hs=>by
  rcases aW.mp (I.stkSub b hs)with z | z
  ·show(hf b hb).2.1 z
  ·show(hf b hb).2.2.1 z
 funs:=I.stack
 frf:=I.stkFree
def Hr {h':MC}(I:Inv X f' σ H s)(S:og X ns ys fr sc cl)(J:∀b∈fp,ki X f' H b)(L:∀b∈fp,b < ‹s›)(h:‹s› < C)
  (k:∀b o,s.heap.get? b=KE o->h'.get? b=KE o) (N:h'.get? ‹s›=KE { cls:=.type "list",data:=.seq ([]:List aE).toArray n }) (O:h'.Ns C m) :
  Inv (cxC X (ns++ys) sc cl C s H fp) [] (aY ns.length LY++pick σ fr) (upd H ‹s› (.lst [])) { s with heap:=h',toks:=t' }:=by
 have Q:H ‹s›=LY:=I.hok.fresh (aJ _);have T:H C=LY:=I.hok.fresh (gR h);have j:∀x c,cl.lookup x=KE c->c < ‹s›:=λx c e=>by
  obtain⟨v,q⟩:=I.cell x c (S.sub _ (fu e));show q.lt
 show{aiz I S J L (gR h),rfl,I.bare,Un.laid k (aJ _) Q,{m,O,λi y v d a e3=>?_},λx c e=>?_,?_,λx c e=>?_,λp U=>(nomatch U),?_,?_}
 ·have d:(ns++ys)[i]?=KE y:=d;by_cases hi:i < ns.length
  ·rw[bS (by simpa using hi),dS,MF hi]at a;cases a
  ·have A:ns.length<=i:=nJ hi;rw[cK A]at d;rw[cK (by simpa using A),dC]at a;obtain⟨f,Y,f2,D,E⟩:=S.outs _ y d;unfold pick at a;rw[aK,Y]at a;have g:(σ[f]?).getD LY=KE v:=bU a;have e4:σ[f]?=KE (KE v):=by
    cases q:σ[f]? with
    |none=>rw[q]at g;cases g
    |some o=>
     rw[q]at g;have e5:o=KE v:=g;rw[e5]
   obtain⟨m0,HI,l⟩:=I.loc;obtain⟨u,r,lk⟩:=l f y v f2 e4 (D.elim (λz=>.inr (.inl z)) λz=>.inr (.inr z));show{u,r,.inr {E,?_}};rcases lk with⟨z,_⟩ | ⟨_,c,ec,hc⟩
   ·rcases D with z' | z'<;>(rw[z]at z';cases z')
   ·obtain⟨c',KF⟩:=S.has y E;have G:=S.sub _ (fu KF);rw[ec]at G;have w:c=c':=bU G;subst w;show{c,KF,hc.keeps k}
 ·obtain⟨v,q⟩:=I.cell x c (S.sub _ (fu e));show{v,q.keeps k}
 ·change upd H ‹s› (.lst []) C=LY;rw[bc (eZ h)];show T
 ·rw[bc (bJ (j x c e))];show I.freeC x c (S.sub _ (fu e))
 ·show I.hok.laid k (aJ _) {cP _,[],n,.nil,N}
 ·change(aY ns.length LY++pick σ fr).length=(ns++ys).length;rw[aI,aI,dC];unfold pick;rw[aC,S.len]
def Ku (I:Inv X f' σ H s)(h:∀b∈fp,ki X f' H b)(i:‹s›<=C)(a:Inv (cxC X (ns++ys) sc cl C s H fp) [] j H' s')(hs:dZ C s'.heap h') :
  Inv X f' σ H' { s' with heap:=h' }:=by
 have U:Un (frs X.stack) fp H H' s.heap s'.heap:=a.base;have ne:∀b o,s.heap.get? b=KE o->b≠C:=λb o e=>bJ (bQ (aU e) i);show I.call' (s':={ s' with heap:=h' }) (ch:=fp) a.os {λb o e n d f=>?_,λb o e n d f=>?_,U.free,λb o e f=>?_,U.tups,U.frzs,U.tbls} (λb u e=>?_) a.bare λb d=>?_
 ·show(hs.2 b (ne b o e)).trans (U.keep b o e n d f)
 ·obtain⟨l,q⟩:=U.slot b o e n d f;show{l,(hs.2 b (ne b o e)).trans q}
 ·obtain⟨m,q⟩:=U.there b o e f;show{m,(hs.2 b (ne b o e)).trans q}
 ·have g:H' C=LY:=a.free;show(a.hok b u e).stay (λc v p q=>(hs.2 c ?_).trans q) (λ_ q=>q) λ_ _ q=>q;intro z;rcases p with z' | z'
  ·rw[<-z',z,g]at e;cases e
  ·rw[z,g]at z';cases z'
 ·obtain⟨A,r,D,w,x,y⟩:=h b d;show#v[w,r,x,y]
end
def aeq (S:og X ns ys fr D cl)(hc:X.calm=LZ)
  (hi:PI X tg iter wi) (hg:∀C s H f,PG (cxC X (ns++ys) D cl C s H f) tg g) (ht:∀C s H f,PTs (cxC X (ns++ys) D cl C s H f) AD tt) (he:∀C s H f,PE (cxC X (ns++ys) D cl C s H f) zT te)
  (hs:∀x,iJ iter X.env x=pure x:=by intro _;rfl):PE X (.ListComp zT [{tg,iter,AD,0}] D pos) (J7 ns.length fr wi g tt te):=by
 intro f' s σ H Q I h;rw[eval_ListComp];show wpAny_comprehension_free (use:=LY) rfl hs S.clos S.kind S.locs (thn (hi f' s σ H _ I h) λv s1 h1=>thn h1 λHC a h2=>?_);obtain⟨it,f,tn,J,L,e,I2,T,AJ,f2,rest⟩:=h2;subst e;obtain⟨W,⟨m0,w0⟩,zF⟩:=rest ‹a› (I2.hok.fresh (aJ _));show cU (wpAny_newFunctionEnv S.nocell (by intro y hy;simp at hy) (λh3 DQ CU=>?_) S.kind);dsimp only at DQ CU ⊢;generalize hG:a.heap.push { cls:=.type "list",dict:=LY,data:=.seq ([]:List aE).toArray }=G at DQ CU ⊢;have zG:G.objs.size=‹a›+1:=(by rw[<-hG,eQ]);have AE:‹a› < G.objs.size:=(by rw[zG];show fF _);have old:∀b o,a.heap.get? b=KE o->h3.get? b=KE o:=λb o e=>
  CU.extBut b o (bJ (gH (aU e) AE)) (aF _ (hG ▸ aF _ e))
 have hD:=CU.extBut _ _ (bJ AE) (aF _ (hG ▸ aT _ rfl));have below:∀b∈f,b < ‹a›:=λb l=>by
  obtain⟨o,eo,_⟩:=T.obj _ _ AJ b l;show aU eo
 have I3:=Hr (ns:=ns) (ys:=ys) (fr:=fr) (t':=a.toks+([]:List (Str×aE)).length) I2 S f2 below AE old hD DQ;have zH:∀{H':Hp},(∀b∈f,H' b=LY)->∀b∈f,ki (cxC X (ns++ys) D cl G.objs.size a L f) [] H' b:=λhn b l=>
  {hn b l,bJ (gH (below b l) AE),I3.ok.exfs b l,.inl l,λx c e=>(I3.ok.exf b l).2 x c e,λp hp=>nomatch hp}
 have DO:tn 0 h3:=T.keep _ _ _ AJ λb _ o e=>old b o e;have FB:∀b∈f,upd L ‹a› (.lst []) b=LY:=λb l=>by
  rw[bc (bJ (below b l))];show(f2 b l).1
 have BU:∀s3:aH,s3={ a with heap:=h3,toks:=a.toks+([]:List (Str×aE)).length }->
   lH (aX X.prog X.w) X.A (.compLoop (.ListComp zT [{tg,iter,AD,0}] D pos) 0 (.ref it) (.ref ‹a›) (compEnvC D cl G.objs.size X.env))
    (compPost (aX X.prog X.w) X.A X.xe LY (EP X f' σ Q) (.ref ‹a›) G.objs.size) s3:=by
  intro s3 uW;subst uW;show V1 (λn s'=>∃i O H',Inv (cxC X (ns++ys) D cl G.objs.size a L f) [] (aY ns.length LY++pick σ fr) H' s'/\tn i s'.heap/\(∀b∈f,H' b=LY)/\W i n O H') ?_ m0 {0,[],_,I3,DO,FB,w0};intro n s5 uW;obtain⟨i,O,H5,I5,CP,EC,w5⟩:=uW;obtain⟨d5,IC⟩:=zF i n O H5 w5;rcases IC with⟨stop,q⟩ | ⟨go,hz,N,hN,step⟩
  ·show thn (T.done (cxC X (ns++ys) D cl G.objs.size a L f) rfl rfl rfl hc i [] s5 _ H5 _ I5 (zH EC) CP stop) λr s6 z=>?_;obtain⟨hr,I6⟩:=z;subst hr;obtain⟨m6,ID,_⟩:=I6.loc;show{m6,ID,λh7 hs7=>{.ref ‹a›,H5,Ku I2 f2 (gR AE) I6 hs7,rfl,q}}
  ·show thn (T.item (cxC X (ns++ys) D cl G.objs.size a L f) rfl rfl rfl hc i [] s5 _ H5 _ I5 (zH EC) CP go) λr s6 z=>?_;obtain⟨u,hr,h6⟩:=z;subst hr;show thn h6 λ_ s7 z=>?_;obtain⟨x,H7,I7,r7,y7,EG,IE⟩:=z;have IF:=I7.pinned (zH IE) (T.obj _ _ EG);show thn (hg _ _ _ _ _ s7 _ H7 x u _ IF r7 (step x H7 y7)) λ_ s8 z=>?_;obtain⟨E,H8,I8,⟨ts,eσ,EH⟩,q8⟩:=z;have again:∀{U:Hp}{Y:aH}{EI:List V}{m':Nat},m' < n->Inv (cxC X (ns++ys) D cl G.objs.size a L f) ([]++xm f s7.heap) E U Y->W (i+1) m' EI U->
     ∃m,m < n/\∃i O H',Inv (cxC X (ns++ys) D cl G.objs.size a L f) [] (aY ns.length LY++pick σ fr) H' Y/\tn i Y.heap/\(∀b∈f,H' b=LY)/\W i m O H':=λ{U Y EI m'} hm I9 w9=>by
    show{m',hm,i+1,EI,U,I9.unpinned.weak ?_ ?_,T.keep _ _ _ EG λb l o e=>(I9.pin (b,o) (bW _ (bW _ (kz l e)))).1,λb l=>?_,w9}
    ·rw[eσ,aI,aI,dC,EH]
    ·intro j v e;rw[eσ];by_cases hj:j < ns.length
     ·rw[bS (by simpa using hj),dS,MF hj]at e;cases e
     ·have BO:ns.length<=j:=nJ hj;rw[cK (by simpa using BO),dC]at e;rw[cK (by rw[EH];show BO),EH];show e
    ·obtain⟨o,e,d⟩:=T.obj _ _ EG b l;show(I9.pin (b,o) (bW _ (bW _ (kz l e)))).2.1
   show thn (ht _ _ _ _ _ s8 E H8 _ I8 q8) λok Y z=>?_;obtain⟨U,I9,q9⟩:=z;cases ok with
   |false=>
    rw[MG aO]at q9 ⊢;obtain⟨m',hm,w9⟩:=hN _ _ q9;show again hm I9 w9
   |true=>
    rw[MF rfl]at q9 ⊢;show thn (he _ _ _ _ _ Y E U _ I9 q9) λyv HJ z=>?_;obtain⟨y,IG,IH,FT,II,IJ⟩:=z;show thn (zy _ HJ E IG (.ref ‹a›) [y] (.ref ‹a›) [yv] (λ_ FU=>N (O++[y]) FU) IH rfl (.cons FT .nil) {_,O,y,rfl,rfl,II,hz,IJ}) λ_ s11 z=>?_;obtain⟨_,FU,IK,_,IL⟩:=z;obtain⟨m',hm,IM⟩:=hN _ _ IL;show again hm IK IM
 show codeAny_compStart_list (BU _ rfl) (T.self X.A 0 _ _ _ DO (BU _ rfl))
section
variable {X:Cx}{f':List (MB×Obj)}{σ:St}{H:Hp}{s:aH}{h':MC}
def Inv.track (I:Inv X f' σ H s)(f:ki X f' H a)(h:X.s₀.heap.objs.size<=a)(new:ObjOk X.prog X.w (upd H a o) s.heap a o):Inv X f' σ (upd H a o) s:=by
 obtain⟨i,j,D,E,l,m⟩:=f;have old:∀b u,H b=KE u->upd H a o b=KE u:=λb u e=>by
  rw[bc (cf e i)];show e
 show{I.ok,I.os,I.bare,{I.base.keep,I.base.slot,λb d e n r=>?_,I.base.there,λb xs e=>old _ _ (I.base.tups b xs e),λb d u e=>old _ _ (I.base.frzs b d u e),λb ps e=>?_},I.loc,I.cell,?_,λx c e=>?_,λp g=>?_,λb u e=>?_,I.len}
 ·rw[bc (bJ (bQ (aU e) h))];show I.base.free b d e n r
 ·obtain⟨more,q⟩:=I.base.tbls b ps e;show{more,old _ _ q}
 ·rw[bc (Ne.symm j)];show I.free
 ·rw[bc (l x c e)];show I.freeC x c e
 ·obtain⟨y,A,C⟩:=I.pin p g;show{y,?_,C};rw[bc (m p g)];show A
 ·by_cases q:b=a
  ·subst q;rw[bp]at e;cases e;show new
  ·rw[bc q]at e;show(I.hok b u e).stay (λ_ _ _ z=>z) (λc z=>old _ _ z) λc xs z=>old _ _ z
def Inv.turnedAll {t':Nat}{ch:List MB}(I:Inv X f' σ H s)(d:∀b∈ch,ki X f' H b)(k:∀b o,b ∉ ch->s.heap.get? b=KE o->h'.get? b=KE o):Inv X f' σ H { s with heap:=h',toks:=t' }:=by
 have f:∀b u,H b=KE u->b ∉ ch:=λb u e z=>by
  rw[(d b z).1]at e;cases e
 show I.step (g':=s.gens) (d':=s.drawn) (ch:=ch) (λb g=>?_) (λb o _ _ a e _=>k b o a e) (λb o _ _ a e _=>{o.slots,k b o a e}) (λ_ _ _ _ n=>n) (λb o a e=>{o,k b o a e})
  (λ_ _ e=>e) (λ_ _ _ e=>e) (λb ps e=>{#[],by rw[e];simp}) (λm h=>?_) (λb u e=>?_) I.bare
 ·obtain⟨y,i,A,j,l,p⟩:=d b g;show#v[j,i,l,p]
 ·obtain⟨o,w,ep,x,r⟩:=h;show{o,w,ep,k _ o (λz=>(d _ z).2.1 rfl) x,r}
 ·show(I.hok b u e).stay (λc v a q=>k c v ?_ q) (λ_ q=>q) λ_ _ q=>q;rcases a with z | z
  ·rw[z];show f b u e
  ·show f c _ z
end
section
variable {X:Cx}
def V2 (K:aG):R2:=λx y H Q=>∃a b ys,x=.ref a/\y=.ref b/\SqT K H a []/\SqT K H b ys/\Q (.ref b) H
def Zi:OpR X (eA .Add) (V2 X.K):=by
 intro E s G H x y v u Q I j l h;obtain⟨a,b,ys,rfl,rfl,m,n,q⟩:=h;cases j;cases l;obtain⟨its,o,p,_⟩:=I.tuple m;obtain⟨r,J,w,_⟩:=I.tuple n;cases o;obtain⟨⟨L,z,N,l1⟩,c,d,A,e⟩:=id p;obtain⟨⟨O,C,T,l2⟩,f,g,D,i⟩:=id w;simp only at d e g i;subst d e g i;show sQ {_,c,rfl} {_,f,rfl} qM sA mW mM (lV _ _)
  (tuple_addW0 a b #[] r.toArray A D z C l1 l2 rfl) {c,f,{.ref b,H,I,rfl,q}}
def Zj:OpR X (eA .Add) (λx y H Q=>acn X.K x y H Q\/V2 X.K x y H Q):=aek.or Zi
def rSlS:V->Option Int->Option Int->Hp->VK->Prop:=λx lo hi H Q=>∃z,x=.str z/\z.length<=sizeLine/\Q (.str (gQ z lo hi)) H
def aja:SlR X rSlS:=by
 intro g s m H x v p r lo hi w Q I n hs pl e h;obtain⟨z,rfl,hz,q⟩:=h;obtain⟨t,rfl⟩:=n;obtain⟨o,a,b,hd⟩:=hs;show{"str",_,F.slot_str_getitem.lookup,uE _ _ _,?_};have c:∀t' k,EP X g m Q (.str (gQ z lo hi) t') { s with toks:=k }:=λt' k=>{.str (gQ z lo hi),H,I.tok k,#v[t',rfl],q};cases pl with
 |none=>
  cases e with
  |none=>show jY (l:=LY) (u:=LY) (st:=LY) #v[o,a,b,hd] rfl (oF {bK (qP z _ _) hz,c})
  |int j d=>show jY (l:=LY) (u:=KE (j,d)) (st:=LY) #v[o,a,b,hd] rfl (oF {bK (qP z _ _) hz,c})
 |int i f=>
  cases e with
  |none=>show jY (l:=KE (i,f)) (u:=LY) (st:=LY) #v[o,a,b,hd] rfl (oF {bK (qP z _ _) hz,c})
  |int j d=>show jY (l:=KE (i,f)) (u:=KE (j,d)) (st:=LY) #v[o,a,b,hd] rfl (oF {bK (qP z _ _) hz,c})
end
end L2
namespace L2
open PySem PySem.Spec PyProof.Rows
inductive Da where
 |flat (v:V)
 |tup (xs:List Da)
 |lst (xs:List Da)
mutual
inductive Td (K:aG)(H:Hp):V->Da->Prop where
 |flat {v:V}:n9 v=LZ->Td K H v (.flat v)
 |tup {a:MB}{xs:List V}{ds:List Da}:SqT K H a xs->Holds K H xs ds->Td K H (.ref a) (.tup ds)
 |lst {a:MB}{xs:List V}{ds:List Da}:SqL K H a xs->Holds K H xs ds->Td K H (.ref a) (.lst ds)
inductive Holds (K:aG)(H:Hp):List V->List Da->Prop where
 |nil:Holds K H [] []
 |cons {x:V}{xs:List V}{d:Da}{ds:List Da}:Td K H x d->Holds K H xs ds->Holds K H (x::xs) (d::ds)
end
mutual
def Da.dep:Da->Nat
 | .flat _=>0
 | .tup xs=>depL xs+1
 | .lst xs=>depL xs+1
def depL:List Da->Nat
 | []=>0
 |d::r=>max d.dep (depL r)
end
section
variable {K:aG}{H H':Hp}
def SqT.same (h:SqT K H a xs)(e:Same H H'):SqT K H' a xs:=by
 rcases h with(h | ⟨o,h⟩) | h
 ·show .inl (.inl (e _ _ h))
 ·show .inl (.inr {o,e _ _ h})
 ·show .inr h
end
section
variable {X:Cx}
inductive TyQ (K:aG)(H:Hp):V->aE->Prop where
 |of {x:V}{t:aE}:qb K H x t->TyQ K H x t
 |sqt {a:MB}{xs:List V}:SqT K H a xs->TyQ K H (.ref a) (.type "tuple")
 |sql {a:MB}{xs:List V}:SqL K H a xs->TyQ K H (.ref a) (.type "list")
def rIsq (K:aG):List V->Hp->VK->Prop:=λxs H Q=>∃x t n b,xs=[x,.ty n]/\TyQ K H x t/\bO K t (.type n)=KE b/\Q (.bl b) H
def Zk:j9 X (.builtin "isinstance") (rIsq X.K):=by
 intro l s m H xs us Q I r h;obtain⟨x,t,n,b,rfl,ty,e,q⟩:=h;obtain⟨u,c,rfl,d,rc⟩:=J5 r;cases(show c=mD n from rc);have f:∀g,EP X l m Q (.bool b) { s with toks:=g }:=λg=>{.bl b,H,I.tok g,rfl,q};cases ty with
 |of ty=>show Vr I d ty e f
 |@sqt a xs h=>
  cases(show u=bY a from d);obtain⟨its,_,⟨o,i,j,_⟩,_⟩:=I.tuple h;show eR PySem.W.kitx_tuple I.kIn #v[o,i,j] e (λz=>nomatch z) f
 |@sql a xs h=>
  cases(show u=bY a from d);obtain⟨its,_,pl,_⟩:=I.list h;obtain⟨o,i,j,_⟩:=pl.isList;show eR pX I.kIn #v[o,i,j] e (λz=>nomatch z) f
end
mutual
def Da.fix:Da->Bool
 | .flat _=>LZ
 | .tup xs=>fixL xs
 | .lst _=>MA
def fixL:List Da->Bool
 | []=>LZ
 |d::r=>d.fix && fixL r
end
def Tups (H H':Hp):Prop:=(∀b xs,H b=KE (.tup xs)->H' b=KE (.tup xs))/\∀b o u,H b=KE (.frz o u)->H' b=KE (.frz o u)
def Tups.of (e:Same H H'):Tups H H':={λ_ _ h=>e _ _ h,λ_ _ _ h=>e _ _ h}
section
variable {K:aG}{H H':Hp}
def SqT.tups (h:SqT K H a xs)(e:Tups H H'):SqT K H' a xs:=by
 rcases h with(h | ⟨o,h⟩) | h
 ·show .inl (.inl (e.1 _ _ h))
 ·show .inl (.inr {o,e.2 _ _ _ h})
 ·show .inr h
end
open Sem (wp)
section
variable {prog:aV}{w:bA}{A:bV}{E:aE->aH->Prop}{s:aH}
def drawT (hi:s.heap.IsTupleIter it t k)(c:s.heap.IsTuple t its)(d:its[k]?=KE y)
  (e:∀h',h'.IsTupleIter it t (k+1)->dZ it s.heap h'->Q y { s with heap:=h' }):aL (aX prog w) A (dM (.ref it)) Q E s:=by
 obtain⟨i,b,f,a⟩:=id hi;obtain⟨j,g,_,l,h⟩:=c;unfold dM;show aA (cS (name:=cW "__next__") hi.typeIs F.slot_tuple_iterator_next (cN F.slot_tuple_iterator_next hi.typeIs F.entry_tuple_iterator_next ?_ (F.args_tuple_iterator_next_1 _)));change aL _ _ (oG (.ref it) 0 >>= _) _ _ s;show aA (dE b a (x:=.ref t) rfl ?_);change aL _ _ (if (bY t == eB)=LZ then _ else _) _ _ s
 rw[MG (show ¬((bY t == eB)=LZ)from aO)];change aL _ _ (oG (.ref it) 1 >>= _) _ _ s;show aA (dE b a (x:=.int k 0) rfl ?_);change aL _ _ (seqItems? (.ref t) >>= _) _ _ s;show aA (fN g h ?_);simp only[bZ,d];show aA (jO b a ∅ (wpAny_pure {y,rfl,wpAny_pure (e _ ?_ (eI ..))}));show{_,gF _ b (kS (fB a _)),(mT ..).trans f,by rw[fB a];simp[iU]}
def V3 (d:A.handled=LY)(hi:s.heap.IsTupleIter it t k)(f:s.heap.IsTuple t its)(g:its[k]?=LY)
  (h:∀h' e,kO it s.heap h'->(∃o,h'.get? e=KE o/\o.cls=.type "StopIteration")->E (.ref e) { s with heap:=h' }):aL (aX prog w) A (dM (.ref it)) Q E s:=by
 obtain⟨l,b,n,c⟩:=id hi;obtain⟨p,i,_,q,j⟩:=f;unfold dM;show aA (cS (name:=cW "__next__") hi.typeIs F.slot_tuple_iterator_next (cN F.slot_tuple_iterator_next hi.typeIs F.entry_tuple_iterator_next ?_ (F.args_tuple_iterator_next_1 _)));change aL _ _ (oG (.ref it) 0 >>= _) _ _ s;show aA (dE b c (x:=.ref t) rfl ?_);change aL _ _ (if (bY t == eB)=LZ then _ else _) _ _ s
 rw[MG (show ¬((bY t == eB)=LZ)from aO)];change aL _ _ (oG (.ref it) 1 >>= _) _ _ s;show aA (dE b c (x:=.int k 0) rfl ?_);change aL _ _ (seqItems? (.ref t) >>= _) _ _ s;show aA (fN i j ?_);simp only[bZ,g];show aA (mI (aA (jO b c ∅ ?_)));change aL _ _ (uJ (.type "StopIteration") [] >>= _) _ _ _;show aA ?_;simp only[uJ,tX];show aA (cU ?_ (by size_fits));show aA (m:=kU _ _) (rJ (a:=eB) (by first | rfl | (simp only[kU];rfl)) ?_)
 show cU ?_ (by size_fits);simp only[raiseNew];show aA (sF ?_)
 first | rw[show A.in1.handled=LY from d] | rw[d]
 show aA (wpAny_pure (tT ?_));show h _ _ (((eI ..).extBut.push _).push _) {_,aT _ rfl,rfl}
end
open Sem (wp)
section
variable {prog:aV}{w:bA}{A:bV}{E:aE->aH->Prop}
theorem acp (ne:l≠it):∀n k s Q,s.heap.IsListIter it l k->s.heap.IsList l its->k+n<=its.size->
  (∀h',h'.IsListIter it l (k+n)->dZ it s.heap h'->Q ((its.toList.drop k).take n) { s with heap:=h' })->aL (aX prog w) A (draw (.ref it) n) Q E s
 |0,k,s,Q,hi,_,_,q=>by
  change aL _ _ (pure []) Q E s;show wpAny_pure (by simpa using q s.heap hi (pZ ..))
 |n+1,k,s,Q,hi,a,le,q=>by
  have lt:k < its.size:=();change aL _ _ (gU (.ref it) >>= _) Q E s;show aA (wpAny_pyNext_list_item hi a (x:=its[k]) (by simp[lt]) λh c b=>?_);show aA (dB (acp ne n (k+1) _ _ c (a.extBut b.extBut ne) () λd f g=>wpAny_pure ?_));have e:its.toList.drop k=its[k]::its.toList.drop (k+1):=(by simp[fG,lt]);have z:=q d (by rw[show k+(n+1)=k+1+n by lia];show f) (b.trans g);rw[e,List.take_succ_cons]at z;show z
def aer (f:A.handled=LY)(a:s.heap.IsList l its)
  (q:∀h',kO ‹s› s.heap h'->Q its.toList { s with heap:=h' }):aL (aX prog w) A (unpackItems (.ref l) its.size LY) Q E s:=by
 have ne:l≠‹s›:=(by obtain⟨o,g,_⟩:=a;show bJ (aU g));unfold unpackItems;show aA ?_
 ·unfold notIterableAtAll;show aA (jA a.typeIs slot_list_iter.lookup ?_);show wpAny_pure ?_;simp only[bL,if_false];show aA (dB (dX a ?_));show aA (dB (acp ne its.size 0 _ _ {_,aT _ rfl,rfl,rfl} (jQ a _) () λh i c=>?_));have e:List.take its.size (List.drop 0 its.toList)=its.toList:=by
   rw[rM];show gW ∅
  rw[e];rw[MG ∅];have j:h.IsList l its:=(jQ a _).extBut c.extBut ne;show aA (dB (wpAny_pyNext_list_end f i j ∅ λm n=>?_));simp only[Option.isSome_none,bL,if_false];show wpAny_pure (q m λb o d z=>n b o d (c.extBut b o d (aF _ z)))
end
section
variable {X:Cx}{pos:Pos}
def gLst (K:aG)(n:Nat)(t:TGs):TG:=λv b H Q=>∃a xs,v=.ref a/\SqL K H a xs/\xs.length=n/\t xs b H Q
def ajb (i:X.calm=LZ)(h:PGs X c t)
  (j:(jJ c X.env).length=n:=by rfl) (l:(jJ c X.env).findIdx? (·.1)=LY:=by rfl):PG X (.Tuple c k pos) (gLst X.K n t):=by
 intro d s f H v u Q I r hw;obtain⟨a,xs,rfl,m,p,hw⟩:=hw;cases r;obtain⟨its,g,q,hz⟩:=I.list m;have hsz:its.toArray.size=n:=(by rw[aM,<-g.length,p]);rw[arm_assign_Tuple];show aA (pO ?_);unfold unpack;rw[j,l,<-hsz];show aA (dB (aer (I.ok.hd i) q.isList λh' w=>?_));have x:Inv X d f H { s with heap:=h' }:=I.kept (t':=s.toks) λb o e=>w b o (bJ (aU e)) e;show h d _ f H xs _ Q x (by simpa using g) hw
theorem Hs {val:Nat->Int}{n:Nat}(h:∀j,j < n->-1000000<=val j/\val j<=1000000):∀j,j<=n->-(1000000 * (j:Int))<=qQ val j/\qQ val j<=1000000 * (j:Int)
 |0,_=>{by change _<=(0:Int);lia,by change(0:Int)<=_;lia}
 |j+1,a=>by
  have z:=Hs h j ();have y:=h j ();change _<=qQ val j+val j/\qQ val j+val j<=_;lia
def rAllB (K:aG):List V->Hp->VK->Prop:=λxs H Q=>∃(a:MB)(bs:List Bool),xs=[.ref a]/\SqL K H a (bs.map V.bl)/\Q (.bl (bs.all id)) H
def V4 (D:X.calm=LZ):j9 X (.builtin "all") (rAllB X.K):=by
 intro j s E H xs us Q I r h;obtain⟨a,bs,rfl,G,q⟩:=h;obtain⟨u,rfl,f⟩:=k8 r;cases f;obtain⟨its,l,pl,hz⟩:=I.list G;have g:=pl.isList;have lt:a < ‹s›:=(by obtain⟨o,J,_⟩:=g;show aU J);have L:Inv X j E H { s with heap:=s.heap.push { cls:=.type "list_iterator",data:=.fields #[.ref a,.int 0 0] } }:=I.kept (t':=s.toks) λb o e=>aF _ e;have c:ki X j H ‹s›:=I.fpOk (aJ _) (I.hok.fresh (aJ _));have len:its.length=bs.length:=(by rw[<-l.length,aC]);have tr:TruthOf X.prog X.w X.A.in1 (λi v=>its.toArray[i]?=KE v) (λi=>bs.getD i LZ):=λi v s' N E' e O=>by
  have m:its[i]?=KE v:=(by simpa using e);have hi:i < bs.length:=(by rw[<-len];show(bH.mp m).1);obtain⟨u,n,f⟩:=l.get (i:=i) (x:=.bl bs[i]) (by rw[aK,aB hi];rfl);rw[m]at n;cases n;cases(show v=qI bs[i]from f);show kQ ?_;have z:bs.getD i LZ=bs[i]:=(by rw[cF,aB hi];rfl);have p:N (bs.getD i LZ) s':=O;rw[z]at p;show p
 show call_all_walk (dX g {‹s›,[‹s›,a],[‹s›],its.toArray.size,_,_,λi=>bs.getD i LZ,rfl,uK (show X.A.in1.handled=LY from I.ok.hd D) ‹s› a (bJ lt) its.toArray,{{_,aT _ rfl,rfl,rfl},jQ g _},tr,λh' T U=>?_});have Y:(bE its.toArray.size).all (λi=>bs.getD i LZ)=bs.all id:=by
  rw[aM,len,kB,List.all_eq_true,List.all_eq_true];constructor
  ·intro z b d;obtain⟨i,hi,rfl⟩:=List.mem_iff_getElem.mp d;have y:=z i (dI.mpr hi);rw[cF,aB hi]at y;show y
  ·intro z i hi;have C:=dI.mp hi;rw[cF,aB C];show z _ (jR C)
 rw[Y];show{.bl _,H,L.turnedAll (t':=T) (ch:=[‹s›]) (λb d=>?_) (λb o d e=>U b o d e),rfl,q};cases bC.mp d;show#v[c.1,c.2.1,c.2.2.1,c.2.2.2.1,c.2.2.2.2.1,c.2.2.2.2.2]
end
end L2
namespace HT
open PySem PyProof.Rows
section
variable {prog:aV}{w:bA}{A:bV}{E:aE->aH->Prop}{s:aH}
def C0 {n:Nat}{Q:Int×Int×Nat->aH->Prop}(hs:s.heap.IsSliceOf d .none .none (.int (-1) t))
  (h:Q ((n:Int) - 1,-1,n) s):aL (aX prog w) A (jE (.ref d) (pure (n:Int))) Q E s:=by
 obtain⟨os,a,g,b⟩:=id hs;unfold jE Builtin.Slice.sliceFields;show aA (aA (dE a b (x:=.none) rfl (aA (dE a b (x:=.none) rfl (aA (dE a b (x:=.int (-1) t) rfl (wpAny_pure ?_)))))));show aA (slicePart_int ?_);change aL _ _ (if ((-1:Int) == 0)=LZ then _ else _) _ _ s
 rw[MG (by decide)];show aA (oY (aA (oY (aA (wpAny_pure ?_)))));change aL _ _ (match gD LY LY (-1) (n:Int)with | (lo,hi)=>pure (lo,(-1:Int),eM lo hi (-1))) _ _ s
 have e:gD LY LY (-1) (n:Int)=((n:Int) - 1,-1):=by
  unfold gD;have c:(-1:Int) < 0:=();simp only[c,if_true]
 rw[e];change aL _ _ (pure ((n:Int) - 1,(-1:Int),eM ((n:Int) - 1) (-1) (-1))) _ _ s;have f:eM ((n:Int) - 1) (-1) (-1)=n:=by
  unfold eM;have c:¬((-1:Int) > 0):=();simp only[c,if_false,Int.neg_neg,sR]
  split<;>lia
 rw[f];show wpAny_pure h
def Zl (xs:List aE):((bE xs.length).filterMap λ(m:Nat)=>xs.toArray[(((xs.length:Nat):Int) - 1+(m:Int) * (-1)).toNat]?)=xs.reverse:=by
 have e:∀(l:List Nat),(∀m∈l,m < xs.length)->(l.filterMap λ(m:Nat)=>xs.toArray[(((xs.length:Nat):Int) - 1+(m:Int) * (-1)).toNat]?)=l.filterMap λm=>xs.reverse[m]?:=by
  intro l
  induction l with
  |nil=>intro _;rfl
  |cons m r b=>
   intro a;have c:m < xs.length:=a m aQ;have q:(((xs.length:Nat):Int) - 1+(m:Int) * (-1)).toNat=xs.length - 1 - m:=();rw[fY,fY,b λk hk=>a k (aP _ hk),q];have z:xs.toArray[xs.length - 1 - m]?=xs.reverse[m]?:=by
    rw[List.getElem?_reverse c];simp
   rw[z]
 rw[e _ λm a=>dI.mp a];have f:∀(ys:List aE)(k:Nat),k<=ys.length->(bE k).filterMap (λm=>ys[m]?)=ys.take k:=by
  intro ys k
  induction k with
  |zero=>intro _;rfl
  |succ k b=>
   intro hk;rw[kD,nQ,b (),cV,aB (by lia:k < ys.length)];simp[aB (by lia:k < ys.length)]
 have g:=f xs.reverse xs.length (by rw[fJ];show aJ _);rw[g,gW (by rw[fJ];show aJ _)]
def getItem_tuple_rev {its:List aE}(a:tJ s.heap p its.toArray)(hs:s.heap.IsSliceOf b .none .none (.int (-1) t))
  (h:Q (.ref ‹s›) { s with heap:=s.heap.push { cls:=.type "tuple",data:=.seq its.reverse.toArray } }) (hz:its.length<=sizeLine):aL (aX prog w) A (mG (.ref p) (.ref b)) Q E s:=by
 have ok:sizeOk (.seq its.reverse.toArray):=by
  change its.reverse.toArray.size<=sizeLine;rw[aM,fJ];show hz
 obtain⟨os,c,d,g⟩:=id hs;have e:s.TypeIs (.ref b) "slice":=#v[os,c,d];unfold mG
 try with_reducible show dB ?_
 first | show aA (wpAny_pure ?_) | skip
 show aA (pY a.typeIs (by decide) ?_);show aA (cS (name:=cW "__getitem__") a.typeIs cZ (cN cZ a.typeIs oS ?_ (pJ _ _)));change aL _ _ (jF (.ref p) >>= _) _ _ s;show aA (tupleItemsOf_ a ?_);show aA (lW e ?_);rw[MF (by decide)];show aA (C0 hs ?_);have no:¬(((((its.toArray.size:Nat):Int) - 1) == 0 && (-1:Int) == 1 && its.toArray.size == its.toArray.size)=LZ):=by
  intro q;rw[cO,cO]at q;show MJ q.1.2 (by decide)
 change aL _ _ (if ((((its.toArray.size:Nat):Int) - 1) == 0 && (-1:Int) == 1 && its.toArray.size == its.toArray.size)=LZ then _ else _) _ _ s
 rw[MG no];have f:((bE its.toArray.size).filterMap λ(m:Nat)=>its.toArray[(((its.toArray.size:Nat):Int) - 1+(m:Int) * (-1)).toNat]?)=its.reverse:=by
  rw[aM];show Zl its
 rw[f]
 first
  |show aA (m:=fM _) (cU (wpAny_pure {_,rfl,wpAny_pure h}) ok)
  |show aA (aA (m:=fM _) (cU (wpAny_pure {_,rfl,wpAny_pure h}) ok))
  |show aA (aA (m:=fM _) (cU (wpAny_pure (wpAny_pure {_,rfl,wpAny_pure h})) ok))
end
end HT
namespace L2
open PySem PySem.Spec PyProof.Rows
section
variable {X:Cx}{e st:MD}{te ts:TE}{pos p2:Pos}
def tRev (K:aG)(te ts:TE):TE:=λc H Q=>te c H λx d=>ts c d λy b=>y=.int (-1)/\∃a xs,x=.ref a/\SqT K b a xs/\∀p,b p=LY->Q (.ref p) (upd b p (.tup xs.reverse))
def aes (m:PE X e te)(hs:PE X st ts):PE X (.Subscript e (.Slice LY LY (KE st) p2) pos) (tRev X.K te ts):=by
 intro d s f H Q I h;show Subscript_ (thn (m d s f H _ I h) λv n g=>?_);obtain⟨x,p,r,u,z⟩:=g;show wpAny_Slice ?_;rw[sC];show wpAny_pure (wpAny_pure ?_);rw[evalPart_some];show thn (hs d n f p _ r z) λvs c g=>?_;obtain⟨y,C,D,E,G⟩:=g;obtain⟨rfl,a,xs,rfl,J,q⟩:=G;obtain⟨t,rfl⟩:=E;cases(show v=bY a from u);have i:Inv X d f C { c with heap:=c.heap.push { cls:=.type "slice",data:=.fields #[.none,.none,.int (-1) t] } }:=D.kept (t':=c.toks) λb L q=>aF _ q;obtain⟨its,j,l,hz⟩:=i.tuple J;have N:its.length<=sizeLine:=(by rw[<-j.length];show hz);change aL (aX X.prog X.w) X.A (sD e (.Slice LY LY (KE st) p2) (.ref a) (.ref ‹c›)) (EP X d f Q) X.xe { c with heap:=c.heap.push { cls:=.type "slice",data:=.fields #[.none,.none,.int (-1) t] } };show tail_any (ops:=[.ref a,.ref ‹c›]) l.typeIs cZ.lookup (HT.getItem_tuple_rev l (Heap.IsSliceOf.new ..) ?_ N) (by with_unfolding_all rfl)
 show{.ref _,_,i.laid (t':=c.toks) (o:=.tup xs.reverse) (λb L q=>aF _ q) (aJ _) ?_,rfl,q _ (i.hok.fresh (aJ _))};show{by rw[fJ];show hz,_,j.reverse,sS _ _}
def aet (l b:MB)(xs ys:Array aE)(n k:Nat)(dd:Option MB)(d:Array (Option aE))(f:¬(!xs.isEmpty && gG (xs.size+ys.size))=LZ)(a:xs.size<=sizeLine)(g:xs.size+ys.size<=sizeLine+1) :
  Meets (iP.«list.extend» {[.ref l,.ref b],[]}) (λ_ R s=>s.heap.get? l=KE { cls:=.type "list",dict:=LY,data:=.seq xs n,slots:=#[] }/\s.heap.get? b=KE { cls:=.type "tuple",dict:=dd,data:=.seq ys k,slots:=d }/\R (.ok (.ret eB)) { s with heap:=s.heap.update l (fA λx=>x++ys),toks:=s.toks }):=
 .of_wp λprog w A R s h=>by
  obtain⟨m,o,p,q,os⟩:=s;obtain⟨c,i,h⟩:=h;have r:=AutoSeq1.idx_int;have u:=AutoSeq1.sub_tuple_tuple;have y:=AutoSeq1.sub_list_list;have z:=AutoSeq1.sub_tuple_list;have C:=AutoSeq1.sub_list_tuple;have j:(xs++ys).size<=sizeLine+1:=by rw[Array.size_append];show g
  wp_walk using(wpAny_updateSeq c rfl (hz:=a) (_hz':=j)),AutoSeq1.wpAny_loadPart' c,AutoSeq1.wpAny_loadPart' i
  show{_,rfl,h}
def rExtT (K:aG):V->List V->Hp->VK->Prop:=λx vs H Q=>∃l b xs a,x=.ref l/\vs=[.ref b]/\H l=KE (.lst xs)/\SqT K H b a/\xs.length+a.length<=sizeLine/\Q .non (upd H l (.lst (xs++a)))
def aeu:MtM X "list.extend" (rExtT X.K):=by
 intro C s D H x vs v us Q I i j h;obtain⟨l,b,xs,E,rfl,rfl,c,m,hz,q⟩:=h;cases i;obtain⟨u,rfl,o⟩:=j.one;cases o;obtain⟨z,its,n,r,G,e⟩:=I.lstM c;obtain⟨a,d,p2,_⟩:=I.tuple m;have J:=d.length;obtain⟨⟨L,p,N,l2⟩,w,f,y,g⟩:=id p2;simp only at f g;subst f g;have hsz:its.toArray.size+a.toArray.size<=sizeLine:=(by rw[aM,aM];lia);have A:¬(!its.toArray.isEmpty && gG (its.toArray.size+a.toArray.size))=LZ:=by
  rw[Cz hsz,mH];show aO
 show jK F.slot_list_extend {_,e,rfl} F.entry_list_extend (F.args_list_extend_2 _ _) (aet l b its.toArray a.toArray n y p l2 A (by rw[aM];lia) ()) {e,w,?_};show{.non,_,I.lset (its':=its++a) c e ∅ (r.append d) ?_,rfl,q};rw[aI];lia
end
def aev {K:aG}{o:Obj}{its:Array aE}(l:K.lookup a=KE o)(c:o.cls=.type "tuple")(d:o.data=.seq its n)(z:its.size<=sizeLine)(r:Vals xs its.toList):SqT K H a xs:=
 .inr #v[o,its,n,l,c,d,z,r]
open Sem (wp)
open Sem (wp)
open AutoSeq1 (wpAny_loadPart')
def cs_of (L:List (Str×qL))(clos:uI sc X.env=pure cl)(kind:sc.kind=.function)(nocell:∀y∈sc.names,y.2≠.cell)(locs:∀y∈sc.names,y.2=.local->sc.names.lookup y.1=KE .local)
  (sub:∀p∈cl,X.env.cells.lookup p.1=KE p.2) (eL:(lJ sc X.env).names=L) (hL:∀p∈L,p.2=.cell\/p.2=.free->∃c,cl.lookup p.1=KE c) (len:fr.length=ys.length)
  (outs:∀(j:Nat)(y:Str),ys[j]?=KE y->∃i:Nat,fr[j]?=KE i/\X.N[i]?=KE y/\(X.env.kindOf y=KE .cell\/X.env.kindOf y=KE .free)/\((lJ sc X.env).names.lookup y=KE .cell\/(lJ sc X.env).names.lookup y=KE .free)):og X ns ys fr sc cl where
 clos:=clos
 kind:=kind
 nocell:=nocell
 locs:=locs
 sub:=sub
 has:=λy h=>by
  rw[eL]at h;rcases h with h | h
  ·show hL _ (fu h) (.inl rfl)
  ·show hL _ (fu h) (.inr rfl)
 len:=len
 outs:=outs
section
variable {X:Cx}
def rBits:V->List V->Hp->VK->Prop:=λx vs H Q=>∃i,x=.int i/\vs=[]/\Q (.int (jW i:Nat)) H
def aew:MtM X "int.bit_length" rBits:=by
 intro d s e H x vs v us Q I a b h;obtain⟨i,rfl,rfl,q⟩:_:=h;obtain⟨t,rfl⟩:_:=a;have c:=b.zero;subst c;show call_gives PySem.F.slot_int_bit_length (rW s i t) PySem.F.entry_int_bit_length (PySem.F.args_int_bit_length_1 _) (AutoIntG2.int_bit_length_int_0 i t) {.int _,H,I.tok _,{_,rfl},q}
def Zm (k:Nat):jW ((2:Int) ^ k)=k+1:=by
 have e:((2:Int) ^ k)=((2 ^ k:Nat):Int):=∅;unfold jW;rw[e,MG (by have:=oH k;simp;omega)];rw[Int.natAbs_natCast,Nat.log2_two_pow]
end
def Itv (K:aG)(a:MB)(n:Nat):It:=
 {λi H=>∃xs x,SqL K H a xs/\xs.length=n/\i < n/\xs[n - 1 - i]?=KE x,λi H x H'=>H'=H/\∀xs,SqL K H a xs->xs[n - 1 - i]?=KE x,λi _=>n<=i}
def Zn {P:aV}{w:bA}{K:aG}{tg:MD}(a it:MB)(n:Nat):yb P w K tg (Itv K a n) [it] it (λi h=>i<=n/\h.IsRevIter it a ((n:Int) - 1 - (i:Int))) where
 mem:=by simp
 obj:=λi h st b hb=>by
  have e:b=it:=(by simpa using hb);subst e;obtain⟨_,o,e,c,d⟩:=st;show{o,e,λv z=>by rw[d]at z;cases z}
 keep:=λi h h' st k=>{st.1,st.2.at λo e=>k it ∅ o e}
 item:=by
  intro X hP hw hK hc i f' s σ H E I hf st hg;subst hP hw hK;obtain⟨xs,x,hq,hl,hi,hx⟩:=hg;obtain⟨its,rv,p,hz⟩:=I.list hq;obtain⟨u,hu,ru⟩:=rv.get hx;obtain⟨f0,f1,f2,f3,f4,f5⟩:=hf it ∅;have e:(n:Int) - 1 - (i:Int)=((n - 1 - i:Nat):Int):=();have AJ:=st.2;rw[e]at AJ;show wpAny_pyNext_rev_item AJ p.isList (x:=u) (by simpa using hu) λh' zB sb=>?_;have e2:((n - 1 - i:Nat):Int) - 1=(n:Int) - 1 - ((i+1:Nat):Int):=();rw[e2]at zB;have I1:Inv X f' σ H { s with heap:=h' }:=I.turned (t':=s.toks) (λb o hb e=>(sb.2 b hb).trans e) f0 f1 f3 f4 f5;obtain⟨o,e,c,d⟩:=id zB;show⟨u,rfl,Bh (s:={ s with heap:=h' }) e c d (by decide) {x,H,I1,ru,{rfl,λys hy=>by rw[I.list_inj hy hq];show hx},#v[hi,zB],λb hb=>(hf b hb).1}⟩
 done:=by
  intro X hP hw hK hc i f' s σ H E I hf st hg;subst hP hw hK;have HK:n<=i:=hg;obtain⟨f0,f1,f2,f3,f4,f5⟩:=hf it ∅;have e:(n:Int) - 1 - (i:Int)=-1:=(by have:=st.1;lia);have AJ:=st.2;rw[e]at AJ;show wpAny_pyNext_rev_end (I.ok.hd hc) AJ λh' eb=>{rfl,I.turned (t':=s.toks) (λb o hb e=>eb b o hb e) f0 f1 f3 f4 f5}
 self:=λ_ _ _ _ _ st h=>wpAny_pyIter_revIter st.2 h
section
variable {X:Cx}
def iRev (K:aG)(c:TA):TI:=λd H R=>c d H λvs b=>∃a xs,vs=[.ref a]/\SqL K b a xs/\R (Itv K a xs.length) b
def ajc {m f:MD}{i:TA}{p d:Pos}(n:Gl X "reversed")(r:X.mg "reversed"=LY)(w:PA X [f] i)(hs:aN [f] X.env=[(MA,eval f X.env)]:=by rfl)
  (j:aN [] X.env=[]:=by rfl):PI X m (.Call (.Name "reversed" p) [f] [] d) (iRev X.K i):=by
 intro x s y H R I h;show Call_ (kh I n r (by kernel_rfl:dW (cW "reversed")=KE (.type "reversed")) (eW (thn (w d x s y H _ I h) λus c ⟨vs,z,g,A,C⟩=>?_) (by rw[hs,j]) (by rw[j];rfl)));obtain⟨a,xs,e,D,q⟩:=C;subst e;obtain⟨u,rfl,E⟩:=k8 A;cases(show u=bY a from E);obtain⟨its,G,J,_⟩:=g.list D;have l1:=G.length;show call_reversed_list (J.isList) ?_;have e:((its.toArray.size:Nat):Int) - 1=((xs.length:Nat):Int) - 1 - ((0:Nat):Int):=(by simp;lia);rw[e];have l:(c.heap.push (revObj a (((xs.length:Nat):Int) - 1 - ((0:Nat):Int)))).IsRevIter ‹c› a (((xs.length:Nat):Int) - 1 - ((0:Nat):Int)):={_,aT _ rfl,rfl,rfl};show wpAny_pyIter_revIter l ?_;show{‹c›,[‹c›],_,_,z,rfl,g.kept (t':=c.toks) λb o e=>aF _ e,Zn a _ xs.length,{cP _,l},λb L=>?_,q};have e:b=‹c›:=(by simpa using L);subst e;show g.fpOk (aJ _) (g.hok.fresh (aJ _))
end
section
variable {X:Cx}{f':List (MB×Obj)}{σ:St}{H:Hp}{s:aH}
theorem D9:∀{x its},Vals (x.map V.int) its->PySem.ItemsAre (cB prog w) x its
 | [],_,r=>by cases r;show .nil
 |n::x,_,r=>by
  cases r with
  |cons h t=>
   obtain⟨a,rfl⟩:=(show ∃t,_=jM n t from h);show .cons (by change fV n (jM n a)=LZ;simp[fV]) (D9 t)
def Inv.key (I:Inv X f' σ H s)(prog:aV)(w:bA)(h:SqT X.K H a (x.map V.int)):cJ (cB prog w) s.heap x a:=by
 obtain⟨its,r,p,_⟩:=I.tuple h;obtain⟨o,b,c,n,d⟩:=p;show{o,its.toArray,n,b,c,d,by simpa using D9 r}
def Inv.eqT (I:Inv X f' σ H s){A:bV}(c:A.units < dJ){x y:List Int}(d:SqT X.K H a (x.map V.int))(e:SqT X.K H b (y.map V.int)):uF A s (.ref a) (.ref b) (decide (x=y)):=
 λprog w _ _ f=>lY c (I.key prog w d) (I.key prog w e) f
def Inv.tup_inj (I:Inv X f' σ H s){x y:List Int}(b:SqT X.K H a (x.map V.int))(c:SqT X.K H a (y.map V.int)):x=y:=
 (I.key X.prog X.w b).inj (I.key X.prog X.w c)
def aex (K:aG):V->List V->Hp->VK->Prop:=λx vs H Q=>∃(a b:MB)(xs:List V) (ls:List (List Int)) (l:List Int),x=.ref a/\vs=[.ref b]/\SqL K H a xs/\Paired (λy m=>∃c,y=.ref c/\SqT K H c (m.map V.int)) xs ls/\
 SqT K H b (l.map V.int)/\l∈ls/\Q (.int (ls.idxOf l:Nat)) H
theorem vy:∀{xs:List a}{ys:List b},Paired F xs ys->∀{i:Nat}{x:a},xs[i]?=KE x->∃y,ys[i]?=KE y/\F x y
 |_,_,.nil,i,x,e=>by simp at e
 |_,_,.cons h _,0,x,e=>by simp at e;subst e;show{_,rfl,h}
 |_,_,.cons _ t,i+1,x,e=>by simpa using vy t (i:=i) (x:=x) (by simpa using e)
theorem Kv [BEq b][LawfulBEq b]:∀{ls:List b}{m:Nat},m < ls.idxOf l->∀(a:m < ls.length),ls[m]≠l
 | [],m,h,a=>MJ a (iI _)
 |x::xs,m,h,a=>by
  rw[List.idxOf_cons]at h;by_cases e:x == l
  ·rw[e]at h;show MJ h (iI _)
  ·have c:(x == l)=MA:=(by simpa using e);rw[c]at h;cases m with
   |zero=>simpa using e
   |succ m=>show Kv (ls:=xs) (m:=m) (by simpa using h) (by simpa using a)
open Classical in
def Zo (hu:X.A.units+8 < dJ):MtM X "list.index" (aex X.K):=by
 intro f' s σ H x vs v us Q I U Y h;obtain⟨a,b,xs,ls,l,rfl,rfl,hx,z,hb,d,q⟩:=h;cases U;obtain⟨u,rfl,ru⟩:=k8 Y;cases(show u=bY b from ru);obtain⟨its,r,p,hz⟩:=I.list hx;obtain⟨⟨cls,dd,data,sl⟩,C,D,n,hd⟩:=p.isList;simp only at D hd;subst D hd;have uY:xs.length=ls.length:=Paired.length z;have KI:=r.length;have hj:ls.idxOf l < ls.length:=eU.mpr d
 let e:aE->Bool:=λy=>decide (∃c,y=.ref c/\SqT X.K H c (l.map V.int))
 have key:∀(m:Nat)(d:m < its.length) (E:m < ls.length),(∃c,its[m]=.ref c/\SqT X.K H c (ls[m].map V.int))/\e its[m]=decide (ls[m]=l):=λm d E=>by
  have G:xs[m]?=KE (xs[m]'()):=aB ();obtain⟨y,J,c,i,f⟩:=vy z G;obtain⟨w,L,N⟩:=r.get G;rw[aB E]at J;rw[aB d]at L;cases J;have j:its[m]=w:=bU L;rw[i]at N;have O:its[m]=.ref c:=j.trans N;show{#v[c,O,f],?_};change decide (∃o,its[m]=.ref o/\SqT X.K H o (l.map V.int))=decide (ls[m]=l);rw[decide_eq_decide,O];constructor
  ·intro uW;obtain⟨o,g,s1⟩:=uW;cases g;show I.tup_inj f s1
  ·intro g;show{c,rfl,by rw[<-g];show f}
 have T:=mf;show jK iN {_,C,rfl} PySem.F.entry_list_index (PySem.F.args_list_index_2 _ _)
  (SeqAt.list_indexAt a its.toArray n dd sl (.ref b) e (ls.idxOf l) (by simp;lia) () ?_ ?_) {C,λy hy=>?_,{.int _,H,I.tok _,{_,rfl},q}}
 ·rw[jL,(key _ () hj).2];simp[iW]
 ·intro m IQ zC;rw[jL,(key m (by simpa using IQ) ()).2];rw[decide_eq_false_iff_not];show λg=>Kv zC () g
 ·obtain⟨m,d,rfl⟩:=Array.mem_iff_getElem.mp hy;have CV:m < its.length:=(by simpa using d);obtain⟨⟨c,i,f⟩,ee⟩:=key m CV ();rw[jL,ee,i];show I.eqT ?_ f hb;change X.A.units+1 < dJ;lia
end
structure Zq (K:aG)(C:MB)(m:Str)(f:MB):Prop where
 ga:mR K (.ref C) "__getattribute__"=KE (KE (.builtin "type.__getattribute__"))
 rd:qX K C (.type "type")=LZ
 fc:qY K (.ref C) (.type "type") m=KE (.val (.ref f))
 kp:fK K (.ref f)=LZ
section
variable {X:Cx}{CX:CXT}{k:Nat}{f C:MB}{fd:gO}{ps:List Str}{sp:Sp}{zL:List V}{ds:List aE}{E:XK}{x m:Str}{p pos ap:Pos}{a:MD}{es:List MD}{t:TA}
def Zr (c:Zq X.K C m f)(F:i5 X.prog X.w X.K X.mg X.base CX k f fd ps sp)(e:Room k X.A)(g:Gl X x)(i:X.mg x=KE (.ref C))(j:Binds X.K fd ps ds)(hd:Vals zL ds)(l:uh CX X E)(n:PA X (a::es) t)
  (o:(x == ("__debug__":Str))=MA:=by decide) (u:aN (a::es) X.env=(MA,eval a X.env)::aN es X.env:=by rfl) (y:(dP pos (aN es X.env)).any (·.1)=MA:=by rfl)
  (z:eval (.Call (.Attribute (.Name x p) m ap) (a::es) [] pos) X.env=(do
    let b <-eval (.Name x p) X.env
    oV ap.atName
    let (f,first) <-jZ [b] (pI b m pl)
    tW pos f first (dP pos (aN (a::es) X.env)) (nI pos (kN [] X.env))):=by rfl) :
  PE X (.Call (.Attribute (.Name x p) m ap) (a::es) [] pos) (acm sp zL E t):=by
 intro D s G H Q I h;show PySem.W.methodCall_KW (pl:=pl) (Bf I g i ?_ o) z;show PySem.W.method_cls I.kIn c.ga (PySem.W.cls_value I.kIn c.rd c.fc rfl ?_);show lS (h₀:=X.base) I.ok.mod.kin c.kp (thn (n pos D _ G H _ (I.tok (s.toks+1)) h) λus L J=>?_) u y;obtain⟨vs,N,d,r,q⟩:=J;show{d.kIn,?_};show Km F e j hd l d r q
end
end L2
namespace PySem
namespace Deep
abbrev I2:=Sum Int (List Int)
section
variable (prog:aV)(w:bA)
def xo (h:MC):I2->aE->Prop
 | .inl i,v=>(cB prog w).is i v=LZ
 | .inr l,v=>∃b,v=.ref b/\cJ (cB prog w) h l b
def m8:I2->Int
 | .inl i=>(cB prog w).hash i
 | .inr l=>sU (cB prog w) l
def z6:I2->Nat
 | .inl _=>1
 | .inr l=>l.length+1
def ItemsR (h:MC):List I2->List aE->Prop
 | [],[]=>True
 |k::ks,v::vs=>xo prog w h k v/\ItemsR h ks vs
 |_,_=>False
def IsDeep (h:MC)(ks:List I2)(a:MB):Prop:=∃o its n,h.get? a=KE o/\o.cls=.type "tuple"/\o.data=.seq its n/\ItemsR prog w h ks its.toList
def C1 (ks:List I2):Int:=reduceHash (gE (ks.map (m8 prog w)))
def yd:List I2->Nat
 | []=>0
 |k::ks=>z6 k+yd ks
end
def V5 (ks:List I2)(k:I2):yd (ks++[k])=yd ks+z6 k:=by
 induction ks with
 |nil=>simp[yd]
 |cons x xs a=>rw[List.cons_append,yd,yd,a,pQ]
section
variable {prog:aV}{w:bA}{A:bV}{E:aE->aH->Prop}{s:aH}
def Zs (a:xo prog w h x v)(d:xo prog w h y v):x=y:=by
 cases x with
 |inl i=>cases y with
  |inl j=>rw[(cB prog w).inj _ _ _ a d]
  |inr l=>
   obtain⟨b,rfl,_⟩:_:=d;show MJ a (by change ¬fV i (.ref b)=LZ;simp[fV])
 |inr l=>cases y with
  |inl j=>
   obtain⟨b,rfl,_⟩:_:=a;show MJ d (by change ¬fV j (.ref b)=LZ;simp[fV])
  |inr m=>
   obtain⟨b,rfl,f⟩:_:=a;obtain⟨c,e,g⟩:_:=d;cases e;rw[f.inj g]
theorem ItemsR.inj:∀{vs x y},ItemsR prog w h x vs->ItemsR prog w h y vs->x=y
 | [],[],[],_,_=>rfl
 | [],[],_::_,_,q=>q.elim
 | [],_::_,_,q,_=>q.elim
 |_::_,[],_,q,_=>q.elim
 |_::_,_::_,[],_,q=>q.elim
 |_::vs,_::xs,_::ys,a,b=>by rw[Zs a.1 b.1,ItemsR.inj (vs:=vs) a.2 b.2]
theorem ItemsR.length:∀{vs x},ItemsR prog w h x vs->x.length=vs.length
 | [],[],_=>rfl
 | [],_::_,q=>q.elim
 |_::_,[],q=>q.elim
 |_::vs,_::xs,a=>by rw[aZ,aZ,ItemsR.length (vs:=vs) a.2]
theorem ItemsR.imp (f:∀l b,cJ (cB prog w) h l b->cJ (cB prog w) h' l b):∀{vs x},ItemsR prog w h x vs->ItemsR prog w h' x vs
 | [],[],_=>trivial
 | [],_::_,q=>q.elim
 |_::_,[],q=>q.elim
 |_::vs,k::xs,a=>⟨by
     cases k with
     |inl i=>show a.1
     |inr l=>obtain⟨b,e,c⟩:_:=a.1;show{b,e,f _ _ c},ItemsR.imp f (vs:=vs) a.2⟩
def IsDeep.typeIs (x:IsDeep prog w s.heap ks a):s.TypeIs (.ref a) "tuple":=by
 obtain⟨o,_,_,e,c,_⟩:_:=x;show#v[o,e,c]
theorem IsDeep.inj (d:IsDeep prog w h x a)(e:IsDeep prog w h y a):x=y:=by
 obtain⟨o,l,m,f,_,g,i⟩:_:=d;obtain⟨n,p,q,b,_,c,j⟩:_:=e;rw[f]at b;cases b;rw[g]at c;cases c;show i.inj j
theorem IsDeep.keeps (x:IsDeep prog w h ks a)(f:h.get? d=KE o)(hd:o.data=.dict j ep)(hs:dZ d h h'):IsDeep prog w h' ks a:=by
 obtain⟨g,its,n,c,i,e,r⟩:_:=x;have ne:a≠d:=λz=>by
  subst z;rw[f]at c;cases c;rw[hd]at e;cases e
 show{g,its,n,(hs.2 a ne).trans c,i,e,r.imp λl b k=>k.keeps f hd hs}
def V6 (h:(cB prog w).is i v=LZ):∃t,v=.int i t:=Value.isInt_shape (k:=i) (v:=v) h
def V7 (k:cJ (cB prog w) h l b):∃its,h.IsTuple b its:=by
 obtain⟨o,its,n,e,c,d,_⟩:_:=k;show#v[its,o,e,c,n,d]
def V8 (a:A.units < dJ)(hk:xo prog w s.heap k v)(h:Q (m8 prog w k) { s with toks:=s.toks+z6 k }):aL (aX prog w) A (pyHash v) Q E s:=by
 cases k with
 |inl i=>show(cB prog w).pyHash hk h
 |inr l=>
  obtain⟨b,rfl,c⟩:_:=hk;show wpAny_pyHash_tuple a c h
def aey (n:A.units+1 < dJ)(f:xo prog w s.heap x u)(g:xo prog w s.heap y v)(h:Q (decide (x=y)) s):aL (aX prog w) A (eqBool u v) Q E s:=by
 cases x with
 |inl i=>cases y with
  |inl j=>
   show(cB prog w).eqBool f g ?_;have e:decide ((Sum.inl i:I2)=Sum.inl j)=decide (i=j):=(by rw[decide_eq_decide];show{λz=>Sum.inl.inj z,λz=>by rw[z]});rw[<-e];show h
  |inr l=>
   obtain⟨b,rfl,a⟩:_:=g;obtain⟨t,rfl⟩:_:=V6 f;have e:decide ((Sum.inl i:I2)=Sum.inr l)=MA:=MH (λz=>nomatch z);rw[e]at h;obtain⟨its,d⟩:_:=V7 a;show SeqAt.EqAt.int_tuple i t d (qA n) prog w E Q h
 |inr l=>cases y with
  |inl j=>
   obtain⟨b,rfl,a⟩:_:=f;obtain⟨t,rfl⟩:_:=V6 g;have e:decide ((Sum.inr l:I2)=Sum.inl j)=MA:=MH (λz=>nomatch z);rw[e]at h;obtain⟨its,d⟩:_:=V7 a;show SeqAt.EqAt.tuple_int j t d (qA n) prog w E Q h
  |inr m=>
   obtain⟨b,rfl,a⟩:_:=f;obtain⟨c,rfl,d⟩:_:=g;show lY (qA n) a d ?_;have e:decide ((Sum.inr l:I2)=Sum.inr m)=decide (l=m):=(by rw[decide_eq_decide];show{λz=>Sum.inr.inj z,λz=>by rw[z]});rw[<-e];show h
def V9 (j:A.units+2 < dJ)(hk:IsDeep prog w s.heap ks a)(h:Q (C1 prog w ks) { s with toks:=s.toks+(yd ks+1) }):aL (aX prog w) A (pyHash (.ref a)) Q E s:=by
 have ty:=hk.typeIs;obtain⟨o,its,n,f,_,g,i⟩:_:=hk;unfold pyHash
 first | unfold pyHashByItsType | skip
 first | show aA (wpAny_cRoomFor_or (.inr ()) ?_) | skip
 show aA (jA ty F.slot_tuple_hash.lookup ?_);change aL _ _ (if (KE (Value.builtin "tuple.__hash__") == KE eB)=LZ then _ else _) Q E s
 rw[MG (by rw[beq_builtin_none];show aO)];show aA (jA ty F.slot_tuple_hash.lookup ?_);change aL _ _ (callSpecialIfBoundUnlessNone? (.ref a) "__hash__" _ >>= _) Q E s;show aA (wpAny_callSpecialIfBoundUnlessNone?_slot ty F.slot_tuple_hash (cN F.slot_tuple_hash ty F.entry_tuple_hash ?_ (F.args_tuple_hash_1 _)));change aL _ _ (jF (.ref a) >>= _) _ _ s;show aA (pK f g ?_);show aA ?_;rw[<-kE];show iQ _ (λrest b s'=>∃pre left,ks=pre++left/\ItemsR prog w s.heap left rest/\b.toList=pre.map (m8 prog w)/\s'={ s with toks:=s.toks+yd pre }) _ ?_ ?_ _ _ {[],ks,rfl,i,rfl,rfl}
 ·rintro x rest b s' ⟨pre,left,rfl,d,e,rfl⟩;cases left with
  |nil=>show d.elim
  |cons k left=>
   show aA (V8 (by change A.units+1 < dJ;omega) d.1 ?_);show wpAny_pure {pre++[k],left,by simp,d.2,by simp[e],by rw[V5,pQ]}
 ·rintro b s' ⟨pre,left,rfl,d,e,rfl⟩;cases left with
  |cons k left=>show d.elim
  |nil=>
   rw[bX]at h;change aL _ _ (retInt (gE b.toList)) _ _ _;rw[e];show wpAny_ret_mkInt ?_;change aL _ _ (if (decide (-(2:Int) ^ 63<=gE (pre.map (m8 prog w))) && decide (gE (pre.map (m8 prog w)) < 2 ^ 63))=LZ then _ else _) Q E _
   unfold C1 reduceHash at h;by_cases c:(decide (-(2:Int) ^ 63<=gE (pre.map (m8 prog w))) && decide (gE (pre.map (m8 prog w)) < 2 ^ 63))=LZ
   ·rw[MF c]at h ⊢;show wpAny_pure (by simpa[pQ]using h)
   ·rw[MG c]at h ⊢;show aA (mI (wpAny_pure (by simpa[pQ]using h)))
def Bk (G:A.units+1 < dJ)(H:IsDeep prog w s.heap x a)(D:IsDeep prog w s.heap y b)(h:P (.done (.ret (.bool (decide (x=y))))) s) :
  aL (aX prog w) A (iP.«tuple.__eq__» {[.ref a,.ref b],[]}) P E s:=by
 have ty:=D.typeIs;obtain⟨o1,m,n1,I,_,J,L⟩:_:=H;obtain⟨o2,n,n2,N,_,O,Q⟩:_:=D;change aL _ _ (uL (.ref b) (.type "tuple") >>= _) _ _ s;show aA (hX ty nR ?_);simp only[hV,bL,if_false];show aA (pK I J ?_);show aA (pK N O ?_);show aA ?_;show iQ _ (λrest r s'=>r.1=LY/\s'=s/\∃g f e d,rest=List.zip e d/\ItemsR prog w s.heap g e/\ItemsR prog w s.heap f d/\(g=f↔x=y)/\(e.length=d.length↔m.size=n.size)) _ ?_ ?_ _ _
  {rfl,rfl,x,y,m.toList,n.toList,rfl,L,Q,uP,by simp}
 ·rintro⟨p,q⟩ rest r s' ⟨o,rfl,g,f,e,d,hz,i,j,hd,l⟩;cases e with
  |nil=>simp at hz
  |cons u e=>
   cases d with
   |nil=>simp at hz
   |cons v d=>
    simp only[pL,List.cons.injEq,Prod.mk.injEq]at hz;obtain⟨⟨rfl,rfl⟩,rfl⟩:_:=hz;cases g with
    |nil=>show i.elim
    |cons T g=>
     cases f with
     |nil=>show j.elim
     |cons U f=>
      show aA (aey G i.1 j.1 ?_);by_cases c:T=U
      ·subst c;rw[MI rfl];simp only[hV,bL,if_false];show wpAny_pure {rfl,rfl,g,f,e,d,rfl,i.2,j.2,by rw[<-hd];simp,by rw[<-l];simp}
      ·rw[MH c];simp only[Bool.not_false,if_true];have Y:decide (x=y)=MA:=MH λz=>c (nD (hd.mpr z)).1;rw[Y]at h;show aA (wpAny_pure (wpAny_pure (wpAny_pure h)))
 ·rintro⟨c1,c2⟩ s' ⟨o,rfl,g,f,e,d,hz,i,j,hd,l⟩;simp only at o;subst o;show wpAny_pure ?_;have wF:(m.size == n.size)=decide (x=y):=by
   have l1:=i.length;have l2:=j.length;cases e with
   |nil=>
    have ex:g=[]:=iO.mp l1;subst ex;cases d with
    |nil=>
     have C:f=[]:=iO.mp l2;subst C;rw[MI (hd.mp rfl),beq_iff_eq];show l.mp rfl
    |cons v d=>
     have ne:¬x=y:=λz=>(by rw[<-hd.mpr z]at l2;simp at l2);rw[MH ne,beq_eq_false_iff_ne];intro z;have:=l.mpr z;simp at this
   |cons u e=>
    cases d with
    |nil=>
     have C:f=[]:=iO.mp l2;subst C;have ne:¬x=y:=λz=>(by rw[hd.mpr z]at l1;simp at l1);rw[MH ne,beq_eq_false_iff_ne];intro z;have:=l.mpr z;simp at this
    |cons v d=>simp at hz
  change P (.done (.ret (.bool (m.size == n.size)))) s';rw[wF];show h
def aez (g:A.units+2 < dJ)(d:IsDeep prog w s.heap x a)(f:IsDeep prog w s.heap y b)(h:Q (decide (x=y)) s):aL (aX prog w) A (eqBool (.ref a) (.ref b)) Q E s:=by
 unfold eqBool
 try with_reducible show dB ?_
 change aL _ _ (if (bY a == bY b)=LZ then _ else _) Q E s
 by_cases c:(bY a == bY b)=LZ
 ·rw[MF c];have e:a=b:=(by have:=eq_of_beq c;injection this);subst e;rw[d.inj f]at h;show aA (mI (wpAny_pure (by simpa using h)))
 ·rw[MG c];show aA (wpAny_richCompare_same_room (op:=.Eq) d.typeIs f.typeIs F.slot_tuple_eq (cN F.slot_tuple_eq d.typeIs F.entry_tuple_eq ?_ (F.args_tuple_eq_2 _ _)) ());show Bk (by change A.units+1+1 < dJ;omega) d f {_,rfl,(λe=>nomatch e),kQ h}
def Wa (hk:cJ (cB prog w) s.heap l b)(h:Q LZ s):aL (aX prog w) A (qZ (n+1) (.ref b)) Q E s:=by
 have ty:=hk.typeIs;obtain⟨o,its,m,c,_,d,e⟩:_:=hk;unfold qZ;show aA (jA ty F.slot_tuple_eq.lookup ?_);change aL _ _ (uL (.ref b) (.type "tuple") >>= _) _ _ s;show aA (hX ty nR ?_);simp only[hV,bL,if_false];show aA (fN c d (aA ?_));change aL _ _ (forIn its _ _) _ _ s;rw[<-kE];show iQ _ (λrest r s'=>r.1=LY/\s'=s/\∀v∈rest,carriedByValue v=LZ) _ ?_ ?_ _ _ #v[rfl,rfl,e.byValue]
 ·rintro v rest r s' ⟨a,rfl,all⟩;rw[eqIsQuiet_byValue _ (all v aQ)];show aA (wpAny_pure ?_);simp only[hV,bL,if_false];show wpAny_pure {rfl,rfl,λu q=>all u (aP _ q)}
 ·rintro⟨f,g⟩ s' ⟨a,rfl,_⟩;simp only at a;subst a;show wpAny_pure h
def Te (hk:IsDeep prog w s.heap ks a)(h:Q LZ s):aL (aX prog w) A (qZ 8 (.ref a)) Q E s:=by
 have ty:=hk.typeIs;obtain⟨o,its,m,e,_,f,g⟩:_:=hk;unfold qZ;show aA (jA ty F.slot_tuple_eq.lookup ?_);change aL _ _ (uL (.ref a) (.type "tuple") >>= _) _ _ s;show aA (hX ty nR ?_);simp only[hV,bL,if_false];show aA (fN e f (aA ?_));change aL _ _ (forIn its _ _) _ _ s;rw[<-kE];show iQ _ (λrest r s'=>r.1=LY/\s'=s/\∃left,ItemsR prog w s.heap left rest) _ ?_ ?_ _ _ #v[rfl,rfl,ks,g]
 ·rintro v rest r s' ⟨d,rfl,left,c⟩;cases left with
  |nil=>show c.elim
  |cons k left=>
   have go:∀{R},R LZ s'->aL (aX prog w) A (qZ 7 v) R E s':=λ{R} q=>by
    cases k with
    |inl i=>
     rw[eqIsQuiet_byValue _ ((cB prog w).byValue _ _ c.1)];show wpAny_pure q
    |inr l=>
     obtain⟨b,rfl,j⟩:_:=c.1;show Wa j q
   show aA (go ?_);simp only[hV,bL,if_false];show wpAny_pure #v[rfl,rfl,left,c.2]
 ·rintro⟨n,p⟩ s' ⟨d,rfl,_⟩;simp only at d;subst d;show wpAny_pure h
end
def ju (prog:aV)(w:bA):HeapKind prog w (List I2) where
 is:=IsDeep prog w
 hash:=C1 prog w
 draws:=λks=>yd ks+1
 room:=λA=>A.units+2 < dJ
 inj:=λhx hy=>hx.inj hy
 keeps:=λx ho hd hs=>x.keeps ho hd hs
 pyHash:=λhu hk h=>V9 hu hk h
 eqBool:=λhu hx hy h=>aez hu hx hy h
 quiet:=λhk h=>Te hk h
end Deep
end PySem
namespace L2
open PySem PySem.Spec PyProof.Rows
section
variable {κ:Type}[DecidableEq κ]
def m9 (kvs:List (κ×V))(k:κ):Option V:=(kvs.find? λa=>decide (a.1=k)).map (·.2)
def oh (kvs:List (κ×V))(k:κ)(v:V):List (κ×V):=
 if (kvs.any λa=>decide (a.1=k))=LZ then kvs.map (λa=>if a.1=k then (a.1,v)else a)else kvs++[(k,v)]
def C2 {p:κ×V}{r:List (κ×V)}{k:κ}(e:p.1=k):m9 (p::r) k=KE p.2:=by simp[m9,dH,e]
def C3 {p:κ×V}{r:List (κ×V)}{k:κ}(e:¬p.1=k):m9 (p::r) k=m9 r k:=by simp[m9,dH,e]
theorem C4 (k:κ):∀kvs:List (κ×V),(kvs.any λa=>decide (a.1=k))=(m9 kvs k).isSome
 | []=>rfl
 |p::r=>by
  rw[jG];by_cases e:p.1=k
  ·simp only[C2 e,MI e,Bool.true_or,Option.isSome_some]
  ·rw[C3 e,MH e,Bool.false_or];show C4 k r
def Ck (kvs:List (κ×V))(k:κ)(v:V):(oh kvs k v).length<=kvs.length+1:=by
 unfold oh
 split
 ·rw[aC];lia
 ·rw[aI,aZ,List.length_nil];lia
def RelO.isSome_eq (r:RelO o u):o.isSome=u.isSome:=by
 cases o with
 |none=>cases u with
  |none=>rfl
  |some _=>show(show False from r).elim
 |some _=>cases u with
  |none=>show(show False from r).elim
  |some _=>rfl
def KV.val {kvs:List (κ×V)}{vs:List (κ×aE)}(r:KV kvs vs)(k:κ):RelO (m9 kvs k) (qK vs k):=by
 unfold KV at r
 induction r with
 |nil=>show gZ
 |@cons p q ps a h t f=>
  obtain⟨d,g⟩:=h;by_cases e:p.1=k
  ·have c:q.1=k:=d.symm.trans e;have b:qK (q::a) k=KE q.2:=(by simp[qK,dH,c]);rw[C2 e,b];show g
  ·have c:¬q.1=k:=λz=>e (d.trans z);have b:qK (q::a) k=qK a k:=(by simp[qK,dH,c]);rw[C3 e,b];show f
theorem KV.any (r:KV kvs vs)(k:κ):(kvs.any λa=>decide (a.1=k))=vs.any λa=>decide (a.1=k):=by
 unfold KV at r
 induction r with
 |nil=>rfl
 |cons h t b=>rw[jG,jG,b,h.1]
def KV.repl (r:KV kvs vs)(k:κ)(c:RelV y u) :
  KV (kvs.map λa=>if a.1=k then (a.1,y)else a) (vs.map λa=>if a.1=k then (a.1,u)else a):=by
 unfold KV at r ⊢
 induction r with
 |nil=>show .nil
 |@cons p q ps g h t d=>
  rw[bB,bB];show .cons ?_ d;obtain⟨b,f⟩:=h;by_cases e:p.1=k
  ·rw[MF e,MF (b.symm.trans e)];show#v[b,c]
  ·rw[MG e,MG (λz=>e (b.trans z))];show#v[b,f]
def KV.put (r:KV kvs vs)(k:κ)(a:RelV y u):KV (oh kvs k y) (stored vs k u):=by
 unfold oh stored;rw[r.any k];by_cases e:(vs.any λb=>decide (b.1=k))=LZ
 ·rw[MF e,MF e];show r.repl k a
 ·rw[MG e,MG e];show Paired.snoc r #v[rfl,a]
theorem KV.length (r:KV kvs vs):kvs.length=vs.length:=Paired.length r
end
def J8 (r:RelV (kV k) u):(g7 P w).is k u=LZ:=by
 cases k with
 |inl i=>obtain⟨t,e⟩:=(show ∃t,u=jM i t from r);subst e;show Og P w i t
 |inr x=>obtain⟨t,e⟩:=(show ∃t,u=qT x t from r);subst e;show Oh P w x t
theorem Ht:∀{ks us},Vals (ks.map kV) us->ItemsAre (g7 P w) ks us
 | [],_,r=>by rw[iH]at r;cases r;show .nil
 |k::ks,_,r=>by
  rw[bB]at r;cases r with
  |cons h t=>show .cons (J8 h) (Ht t)
abbrev KT (H:Hp):List (List Key×V)->List (List Key×MB×aE)->Prop:=Paired λp q=>p.1=q.1/\H q.2.1=KE (.tup (p.1.map kV))/\RelV p.2 q.2.2
def KT.val {kvs:List (List Key×V)}{xs:List (List Key×MB×aE)}(r:KT H kvs xs)(k:List Key):RelO (m9 kvs k) ((kF xs k).map (·.2)):=by
 induction r with
 |nil=>show gZ
 |@cons p q ps a h t f=>
  obtain⟨d,_,g⟩:=h;by_cases e:p.1=k
  ·have c:q.1=k:=d.symm.trans e;have b:kF (q::a) k=KE q.2:=(by simp[kF,dH,c]);rw[C2 e,b];show g
  ·have c:¬q.1=k:=λz=>e (d.trans z);have b:kF (q::a) k=kF a k:=(by simp[kF,dH,c]);rw[C3 e,b];show f
def KT.repl (r:KT H kvs xs)(k:List Key)(d:RelV y u) :
  KT H (kvs.map λb=>if b.1=k then (b.1,y)else b) (xs.map (putAt k u)):=by
 induction r with
 |nil=>show .nil
 |@cons p q ps i h t f=>
  rw[bB,bB];show .cons ?_ f;obtain⟨a,c,g⟩:=h;unfold putAt;by_cases e:p.1=k
  ·rw[MF e,MF (a.symm.trans e)];show#v[a,c,d]
  ·rw[MG e,MG (λz=>e (a.trans z))];show#v[a,c,g]
def KT.put (r:KT H kvs xs)(k:List Key)(c:H b=KE (.tup (k.map kV)))(a:RelV y u) :
  KT H (oh kvs k y) (uQ xs k b u):=by
 have e:(kvs.any λd=>decide (d.1=k))=(kF xs k).isSome:=by
  rw[C4,(r.val k).isSome_eq,gP]
 unfold oh uQ;rw[e];by_cases q:(kF xs k).isSome=LZ
 ·rw[MF q,MF q];show r.repl k a
 ·rw[MG q,MG q];show Paired.snoc r #v[rfl,c,a]
def KT.keeps (r:KT H kvs xs)(a:∀b ys,H b=KE (.tup ys)->H' b=KE (.tup ys)):KT H' kvs xs:=
 Paired.mapP r λ_ _ z=>{z.1,a _ _ z.2.1,z.2.2}
section
variable {P:aV}{w:bA}{H:Hp}{h:MC}{a:MB}
def acq (ok:HOk P w H h)(e:Rd H a u):ObjOk P w H h a u:=e.ok ok
def J9 (ok:HOk P w H h)(e:Rd H a (.dK kvs)):kvs.length<=sizeLine/\(a == fZ)=MA/\∃vs,KV kvs vs/\h.DictOf (g7 P w) a vs:=
 show ObjOk P w H h a (.dK kvs)from acq ok e
def dk_of (ok:HOk P w H h)(e:H a=KE (.dK kvs)):kvs.length<=sizeLine/\(a == fZ)=MA/\∃vs,KV kvs vs/\h.DictOf (g7 P w) a vs:=J9 ok (.inl e)
def Ea (ok:HOk P w H h)(e:H a=KE (.tup (ks.map kV))):(qU (g7 P w)).is h ks a:=by
 obtain⟨_,its,r,o,b,c,n,d⟩:=(show ObjOk P w H h a (.tup (ks.map kV))from ok a _ e);show{o,its.toArray,n,b,c,d,by simpa using Ht r}
def Ka (ok:HOk P w H h)(e:Rd H a (.dT kvs)):kvs.length<=sizeLine/\(a == fZ)=MA/\
  ∃xs,KT H kvs xs/\h.DictOfH (qU (g7 P w)) a xs:=by
 obtain⟨z,y,xs,r,o,c,ep,d,f,g,i,j⟩:=(show ObjOk P w H h a (.dT kvs)from acq ok e);show{z,y,xs,r,o,c,ep,d,f,g,i,λx hx=>?_,j};have all:∀{l m},KT H l m->∀x∈m,(qU (g7 P w)).is h x.1 x.2.1:=by
  intro l m q
  induction q with
  |nil=>intro x hx;show nomatch hx
  |@cons p q ps s b t n=>
   intro x hx;rcases aW.mp hx with e | hx
   ·subst e;show Ea ok (by rw[<-b.1];show b.2.1)
   ·show n x hx
 show all r x hx
def dt_of (ok:HOk P w H h)(e:H a=KE (.dT kvs)):kvs.length<=sizeLine/\(a == fZ)=MA/\
  ∃xs,KT H kvs xs/\h.DictOfH (qU (g7 P w)) a xs:=Ka ok (.inl e)
end
def DGet (H:Hp)(a:MB)(y:V)(r:Option V):Prop:=
 (∃kvs k,Rd H a (.dK kvs)/\y=kV k/\r=m9 kvs k)\/∃kvs k b,Rd H a (.dT kvs)/\y=.ref b/\H b=KE (.tup (k.map kV))/\r=m9 kvs k
def DPut (H:Hp)(a:MB)(y v:V)(H':Hp):Prop:=
 (∃kvs k,H a=KE (.dK kvs)/\y=kV k/\kvs.length < sizeLine/\H'=upd H a (.dK (oh kvs k v)))\/
 ∃kvs k b,H a=KE (.dT kvs)/\y=.ref b/\H b=KE (.tup (k.map kV))/\kvs.length < sizeLine/\H'=upd H a (.dT (oh kvs k v))
theorem DGet.k {H:Hp}{a:MB}{kvs:List (Key×V)}{k:Key}(e:H a=KE (.dK kvs)):DGet H a (kV k) (m9 kvs k):=.inl {kvs,k,.inl e,rfl,rfl}
theorem DPut.k {H:Hp}{a:MB}{kvs:List (Key×V)}{k:Key}{v:V}(e:H a=KE (.dK kvs))(b:kvs.length < sizeLine):DPut H a (kV k) v (upd H a (.dK (oh kvs k v))):=.inl #v[kvs,k,e,rfl,b,rfl]
section
variable {X:Cx}{f':List (MB×Obj)}{σ:St}{H:Hp}{s:aH}{a:MB}{y v:V}{u r:aE}{o:Option V}{A:bV}{E:aE->aH->Prop}
def Inv.big (I:Inv X f' σ H s):fZ < ‹s›:=by
 have h:bG < ‹s›:=(I.mod.glob.keeps I.bk).lt;show gH (by decide) h
def Wb (n:A.units+1 < dJ)(I:Inv X f' σ H s)(g:DGet H a y (KE v))(m:RelV y u)(h:∀c s',Inv X f' σ H s'->RelV v c->Q c s') :
  aL (aX X.prog X.w) A (mG (.ref a) u) Q E s:=by
 rcases g with⟨kvs,k,e,d,l⟩ | ⟨kvs,k,b,e,d,q,l⟩
 ·subst d;obtain⟨z,hd,vs,f,dd⟩:=J9 I.hok e;obtain⟨c,hw,i⟩:=RelO.some_of (v:=v) (o:=qK vs k) (by rw[l];show f.val k);show wpAny_getItem_of (J8 m) dd.mapOf hw (h c _ (I.tok _) i)
 ·subst d;cases(show u=bY b from m);obtain⟨z,hd,xs,f,dd⟩:=Ka I.hok e;obtain⟨c,hw,i⟩:=RelO.some_of (v:=v) (o:=(kF xs k).map (·.2)) (by rw[l];show f.val k);obtain⟨p,x,j⟩:=dN.mp hw;show wpAny_getItem_heap (pM n) (Ea I.hok q) dd x ?_;rw[j];show h c _ (I.tok _) i
def afa (i:A.units+1 < dJ)(I:Inv X f' σ H s)(g:DGet H a y o)(f:RelV y u)(h:∀s',Inv X f' σ H s'->Q (.bool (!o.isSome)) s') :
  aL (aX X.prog X.w) A (eJ .NotIn u (.ref a)) Q E s:=by
 rcases g with⟨kvs,k,e,c,l⟩ | ⟨kvs,k,b,e,c,j,l⟩
 ·subst c;obtain⟨z,hd,vs,d,dd⟩:=J9 I.hok e;show wpAny_notIn_of (J8 f) hd dd.mapOf ?_;rw[<-(d.val k).isSome_eq,<-l];show h _ (I.tok _)
 ·subst c;cases(show u=bY b from f);obtain⟨z,hd,xs,d,dd⟩:=Ka I.hok e;show wpAny_notIn_heap (pM i) (Ea I.hok j) hd dd ?_;have q:=(d.val k).isSome_eq;rw[gP]at q;rw[<-q,<-l];show h _ (I.tok _)
def Rb (I:Inv X f' σ H s)(mu:Mut (H a))(hs:dZ a s.heap h')(d:∃q,h'.get? a=KE q)(new:ObjOk X.prog X.w (upd H a c) h' a c) :
  Inv X f' σ (upd H a c) { s with heap:=h',toks:=t' }:=
 I.write (x:=a) (e:=a) mu (.inl rfl) (λb q f z=>(hs.2 b f).trans z) d new
def ajd (z:kvs.length<=sizeLine)(hd:(a == fZ)=MA)(b:KV kvs vs)(dd:h'.DictOf (g7 P w) a vs) :
  ObjOk P w H' h' a (.dK kvs):=#v[z,hd,vs,b,dd]
def Wc (G:A.units+1 < dJ)(I:Inv X f' σ H s)(g:DPut H a y v H')(p:RelV y u)(x:RelV v r)(h:∀s',Inv X f' σ H' s'->Q Unit.unit s') :
  aL (aX X.prog X.w) A (uO (.ref a) u r) Q E s:=by
 rcases g with⟨kvs,k,e,j,l,m⟩ | ⟨kvs,k,b,e,j,C,l,m⟩
 ·subst j m;obtain⟨z,hd,vs,d,dd⟩:=dk_of I.hok e;have hz:vs.length<=sizeLine:=(by rw[<-d.length];show z);have n:(oh kvs k v).length<=sizeLine:=(by have:=Ck kvs k v;lia);show wpAny_setItem_pairs (hsz:=hz) (J8 p) dd λh' f hs=>h _ ?_;have J:∃q,h'.get? a=KE q:=let ⟨q,_,_,i,_⟩:=f;#v[q,i];show Rb I (by rw[e];show gZ) hs J (ajd n hd (d.put k x) f)
 ·subst j m;cases(show u=bY b from p);obtain⟨z,hd,xs,d,dd⟩:=dt_of I.hok e;have hz:xs.length<=sizeLine:=(by rw[<-Paired.length d];show z);have n:(oh kvs k v).length<=sizeLine:=(by have:=Ck kvs k v;lia);show wpAny_setItem_heap (hsz:=hz) (pM G) (Ea I.hok C) dd λh' f hs=>h _ ?_;obtain⟨q,L,ep,i,N,O,T,_,U⟩:=f;show Rb I (by rw[e];show gZ) hs #v[q,i] {n,hd,_,(d.put k C x).keeps λc ys D=>?_,q,L,ep,i,N,O,T,U};rw[bc (ne_of D e (λz=>nomatch z))];show D
end
def Oi (I:Inv X c d H s)(g:DGet H a y o):s.TypeIs (.ref a) "dict":=by
 rcases g with⟨kvs,k,e,_,_⟩ | ⟨kvs,k,b,e,_,_,_⟩
 ·obtain⟨_,_,vs,_,dd⟩:=J9 I.hok e;show dd.typeIs
 ·obtain⟨_,_,xs,_,dd⟩:=Ka I.hok e;show dd.typeIs
def Zt (h:MC)(a:fZ < h.objs.size):ObjOk P w H (h.push { cls:=.type "dict",data:=.dict #[] }) h.objs.size (.dK []):=
 {cP _,beq_eq_false_iff_ne.mpr (Ne.symm (bJ a)),[],.nil,Heap.DictOf.new h}
def aje:TE:=λ_ H Q=>∀p,H p=LY->Q (.ref p) (upd H p (.dK []))
section
variable {X:Cx}{pos:Pos}
def Zu:PE X (.Dict [] [] pos) aje:=λb s c H Q I h=>
 wpAny_Dict_empty {.ref ‹s›,_,I.laid (a:=‹s›) (o:=.dK []) (t':=s.toks) (λ_ _ q=>aF _ q) (aJ _) (Zt s.heap I.big),rfl,h _ (I.hok.fresh (aJ _))}
end
open PySem.Deep
def KeyAt (K:aG)(H:Hp)(b:MB)(ks:List I2):Prop:=∃xs,SqT K H b xs/\Paired (λv k=>match k with | Sum.inl i=>v=V.int i | Sum.inr l=>∃c,v=.ref c/\SqT K H c (l.map V.int)) xs ks
abbrev DE:=List (List I2×MB×V)
def uq:(List I2×MB×V)->(List I2×MB×aE)->Prop:=λp q=>p.1=q.1/\p.2.1=q.2.1/\RelV p.2.2 q.2.2
def ji (P:aV)(w:bA)(a:MB)(ep:Nat)(kvs:DE):HO:=.ext λh=>∃xs:List (List I2×MB×aE),Paired uq kvs xs/\∃o b,h.get? a=KE o/\o.ExactDict/\o.data=.dict b ep/\b.toList=xs.map (rR (ju P w))/\(xs.map (·.1)).Nodup
structure DictAt (P:aV)(w:bA)(K:aG)(H:Hp)(a:MB)(kvs:DE):Prop where
 at_:∃ep,H a=KE (ji P w a ep kvs)
 keys:∀e∈kvs,KeyAt K H e.2.1 e.1
 len:kvs.length<=sizeLine
 sys:(a == fZ)=MA
def atK (kvs:DE)(k:List I2):Option V:=(kvs.find? λe=>decide (e.1=k)).map (·.2.2)
def mh (kvs:DE)(k:List I2)(b:MB)(v:V):DE:=if (atK kvs k).isSome=LZ then kvs.map (λe=>if e.1=k then (e.1,e.2.1,v)else e)else kvs++[(k,b,v)]
def Fp (r:Paired uq kvs xs)(k:List I2):RelO (atK kvs k) ((kF xs k).map (·.2)):=by
 induction r with
 |nil=>show gZ
 |@cons p q ps a h t g=>
  obtain⟨f,j,i⟩:=h;by_cases e:p.1=k
  ·have b:q.1=k:=f.symm.trans e;have c:atK (p::ps) k=KE p.2.2:=(by simp[atK,e]);have d:kF (q::a) k=KE q.2:=(by simp[kF,b]);rw[c,d];show i
  ·have b:¬q.1=k:=λz=>e (f.trans z);have c:atK (p::ps) k=atK ps k:=(by simp[atK,e]);have d:kF (q::a) k=kF a k:=(by simp[kF,b]);rw[c,d];show g
def Zv (r:Paired uq kvs xs)(k:List I2)(c:RelV y u):Paired uq (kvs.map λe=>if e.1=k then (e.1,e.2.1,y)else e) (xs.map (putAt k u)):=by
 induction r with
 |nil=>show .nil
 |@cons p q ps g h t d=>
  rw[bB,bB];show .cons ?_ d;obtain⟨a,b,f⟩:=h;unfold putAt;by_cases e:p.1=k
  ·rw[MF e,MF (a.symm.trans e)];show#v[a,b,c]
  ·rw[MG e,MG (λz=>e (a.trans z))];show#v[a,b,f]
def Tf (r:Paired uq kvs xs)(k:List I2)(b:MB)(a:RelV y u):Paired uq (mh kvs k b y) (uQ xs k b u):=by
 have e:(atK kvs k).isSome=(kF xs k).isSome:=by
  have:=(Fp r k).isSome_eq
  rwa [gP]at this
 unfold mh uQ;rw[e];by_cases c:(kF xs k).isSome=LZ
 ·rw[MF c,MF c];show Zv r k a
 ·rw[MG c,MG c];show Paired.snoc r #v[rfl,rfl,a]
def Th (kvs:DE)(k:List I2)(b:MB)(v:V):(mh kvs k b v).length<=kvs.length+1:=by
 unfold mh
 split
 ·rw[aC];lia
 ·rw[aI];show aJ _
def Ti (h:e∈mh kvs k b v):(e.1=k/\(e.2.1=b\/∃a∈kvs,a.1=k/\a.2.1=e.2.1))\/e∈kvs:=by
 unfold mh at h
 split at h
 ·obtain⟨x,d,rfl⟩:=dA.mp h;by_cases c:x.1=k
  ·rw[MF c];show .inl {c,.inr #v[x,d,c,rfl]}
  ·rw[MG c];show .inr d
 ·rcases dO.mp h with z | z
  ·show .inr z
  ·rw[bC.mp z];show .inl {rfl,.inl rfl}
section
variable {X:Cx}{f':List (MB×Obj)}{σ:St}{H:Hp}{s:aH}
theorem Eb (I:Inv X f' σ H s)(P:aV)(w:bA):∀{xs ks its},Vals xs its->Paired (λv k=>match k with | Sum.inl i=>v=V.int i | Sum.inr l=>∃c,v=.ref c/\SqT X.K H c (l.map V.int)) xs ks->ItemsR P w s.heap ks its
 |_,_,_,.nil,.nil=>trivial
 |_,_,_,.cons r t,.cons (b:=k) h a=>by
  show{?_,Eb I P w t a};cases k with
  |inl i=>
   have h':_=V.int i:=h;subst h';obtain⟨d,rfl⟩:=(show ∃t,_=jM i t from r);change fV i (.int i d)=LZ;simp[fV]
  |inr l=>
   obtain⟨c,rfl,e⟩:=(show ∃c,_=V.ref c/\SqT X.K H c (l.map V.int)from h);cases r;show{c,rfl,I.key P w e}
def Inv.deep (I:Inv X f' σ H s)(h:KeyAt X.K H b ks):IsDeep X.prog X.w s.heap ks b:=by
 obtain⟨xs,a,c⟩:=h;obtain⟨its,r,p,_⟩:=I.tuple a;obtain⟨o,d,e,n,f⟩:=p;show{o,its.toArray,n,d,e,f,by simpa using Eb I X.prog X.w r c}
def Inv.dict (I:Inv X f' σ H s)(d:DictAt X.prog X.w X.K H a kvs):∃xs,Paired uq kvs xs/\s.heap.DictOfH (ju X.prog X.w) a xs:=by
 obtain⟨ep,b⟩:=d.at_;obtain⟨⟨xs,r,o,c,f,g,i,j,n⟩,_⟩:=(show ObjOk X.prog X.w H s.heap a (ji X.prog X.w a ep kvs)from I.hok a _ b);show{xs,r,o,c,ep,f,g,i,j,λx hx=>?_,n};have all:∀{l m},Paired uq l m->(∀e∈l,KeyAt X.K H e.2.1 e.1)->∀x∈m,IsDeep X.prog X.w s.heap x.1 x.2.1:=by
  intro l m q
  induction q with
  |nil=>intro _ x hx;cases hx
  |@cons p q ps z h t u=>
   intro hk x hx;rcases aW.mp hx with rfl | hx
   ·have:=I.deep (hk p aQ);rw[h.1,h.2.1]at this;show this
   ·show u (λe y=>hk e (aP _ y)) x hx
 show all r d.keys x hx
def Kw (r:Paired uq kvs xs)(dd:h'.DictOfH (ju P w) a xs):∃ep,∀H':Hp,ObjOk P w H' h' a (ji P w a ep kvs):=by
 obtain⟨o,d,ep,c,e,f,g,_,h⟩:=dd;show{ep,λ_=>{#v[xs,r,o,d,c,e,f,g,h],#v[o,c],λp u b k=>?_}};obtain⟨i,j,l,m,n,q⟩:=b;show{i,j,l,m,k _ n,q}
def afb (P:aV)(w:bA)(K:aG):R2:=λx y H Q=>∃b ks a kvs,x=.ref b/\y=.ref a/\KeyAt K H b ks/\DictAt P w K H a kvs/\Q (.bl (!(atK kvs ks).isSome)) H
def We {P:aV}{w:bA}{K:aG}(c:X.prog=P)(hw:X.w=w)(f:X.K=K)(l:X.A.units+8 < dJ):OpR X (eJ .NotIn) (afb P w K):=by
 subst c hw f;intro f' s σ H x y v u Q I g i h;obtain⟨b,ks,a,kvs,rfl,rfl,j,d,q⟩:=h;cases g;cases i;obtain⟨xs,r,dd⟩:=I.dict d;show wpAny_notIn_heap (knd:=ju X.prog X.w) (by change X.A.units+1+2 < dJ;lia) (I.deep j) d.sys dd ?_;have e:=(Fp r ks).isSome_eq;rw[gP]at e;rw[<-e];show{.bl _,H,I.tok _,rfl,q}
def rIxD (P:aV)(w:bA)(K:aG):R2:=λx y H Q=>∃a kvs b ks v,x=.ref a/\y=.ref b/\DictAt P w K H a kvs/\KeyAt K H b ks/\atK kvs ks=KE v/\Q v H
def rSetD (P:aV)(w:bA)(K:aG):V->V->V->Hp->(Hp->Prop)->Prop:=λo i v H Q=>∃a kvs b ks,o=.ref a/\i=.ref b/\DictAt P w K H a kvs/\KeyAt K H b ks/\kvs.length < sizeLine/\∀ep,Q (upd H a (ji P w a ep (mh kvs ks b v)))
def Wf {P:aV}{w:bA}{K:aG}(g:X.prog=P)(hw:X.w=w)(j:X.K=K)(L:X.A.units+8 < dJ):So X (rSetD P w K):=by
 subst g hw j;intro f' s σ H o i v N iv u Q I m n p h;obtain⟨a,kvs,b,ks,rfl,rfl,d,y,l,q⟩:=h;cases m;cases n;obtain⟨xs,r,dd⟩:=I.dict d;have hz:xs.length<=sizeLine:=(by rw[<-Paired.length r];show d.len);show wpAny_setItem_heap (knd:=ju X.prog X.w) (hsz:=hz) (by change X.A.units+1+2 < dJ;lia) (I.deep y) dd λh' f C=>?_;have D:∃c,h'.get? a=KE c:=(by obtain⟨c,_,_,e,_⟩:=f;show#v[c,e]);obtain⟨O,E⟩:=d.at_;obtain⟨ep,G⟩:=Kw (Tf r ks b p) f;show{_,I.write (x:=a) (e:=a) (by rw[E];show gZ) (.inl rfl) (λb q J z=>(C.2 b J).trans z) D (G _),q ep}
end
def Zw (hi:Int)(n:Nat):It:={λi _=>i < n,λi H x H'=>H'=H/\x=.int (hi - i),λi _=>n<=i}
def Wg {P:aV}{w:bA}{K:aG}{tg:MD}(it:MB)(lo:Int)(n:Nat):yb P w K tg (Zw lo n) [it] it (λi h=>rE h it (lo+(i:Nat) * (-1)) ((n:Int) - (i:Nat)) (-1)) where
 mem:=by simp
 obj:=λi h st b hb=>by
  have e:b=it:=(by simpa using hb);subst e;show⟨_,st,λv z=>by
    have z':rF _=pH v:=z;cases z'⟩
 keep:=λi h h' st k=>k it ∅ _ st
 item:=by
  intro X hP hw hK hc i f' s σ H E I hf st hg;subst hP hw hK;obtain⟨f0,f1,f2,f3,f4,f5⟩:=hf it ∅;have W:=Walks.range (prog:=X.prog) (w:=X.w) (I.ok.hd hc) it lo (-1) n;show W.item i s _ _ hg st λv h' tk hv zB kk=>?_;obtain⟨t,rfl⟩:=hv;have I1:Inv X f' σ H { s with heap:=h',toks:=tk }:=I.turned (λb o hb e=>kk b o (by simpa using hb) e) f0 f1 f3 f4 f5;show⟨_,rfl,Bh (s:={ s with heap:=h',toks:=tk }) (n:="range_iterator") zB rfl rfl (by decide) {.int (lo - i),H,I1,{t,?_},#v[rfl,rfl],zB,λb hb=>(hf b hb).1}⟩;rw[show lo+(i:Int) * (-1)=lo - i by lia]
 done:=by
  intro X hP hw hK hc i f' s σ H E I hf st hg;subst hP hw hK;obtain⟨f0,f1,f2,f3,f4,f5⟩:=hf it ∅;show wpAny_pyNext_range_end (I.ok.hd hc) st (by have:n<=i:=hg;lia) λh' eb=>{rfl,I.turned (t':=s.toks) (λb o hb e=>eb b o hb e) f0 f1 f3 f4 f5}
 self:=λ_ _ _ _ _ st h=>wpAny_pyIter_rangeiter st h
theorem KeyAt.tups {K:aG}{H H':Hp}{b:MB}{ks:List I2}(h:KeyAt K H b ks)(e:Tups H H'):KeyAt K H' b ks:=by
 obtain⟨xs,a,d⟩:=h;show{xs,a.tups e,?_};show Paired.mapP d λv k z=>?_;cases k with
 |inl i=>show z
 |inr l=>obtain⟨c,rfl,f⟩:=z;show{c,rfl,f.tups e}
def DictAt.of {P:aV}{w:bA}{K:aG}{H H':Hp}{a:MB}{kvs:DE}(d:DictAt P w K H a kvs)(e:Tups H H')(b:∃ep,H' a=KE (ji P w a ep kvs)):DictAt P w K H' a kvs:=
 {b,λx c=>(d.keys x c).tups e,d.len,d.sys}
def DictAt.mono {P:aV}{w:bA}{K:aG}{H H':Hp}{a:MB}{kvs:DE}(d:DictAt P w K H a kvs)(e:Same H H'):DictAt P w K H' a kvs:=d.of (Tups.of e) (d.at_.elim λep h=>{ep,e _ _ h})
end L2
set_option linter.unusedVariables false
namespace L2
open PySem PySem.Spec PyProof.Rows
section
variable {X:Cx}
open Classical in
open Classical in
open Classical in
open PySem.Deep in
def Zx {P:aV}{w:bA}{K:aG}(g:X.prog=P)(hw:X.w=w)(i:X.K=K)(C:X.A.units+8 < dJ):IxR X (rIxD P w K):=by
 subst g hw i;intro value slice j s l H x y v u Q I m n h hs;obtain⟨a,kvs,b,ks,z,rfl,rfl,d,o,e,q⟩:_:=h;cases m;cases n;obtain⟨xs,r,dd⟩:_:=I.dict d;have c:=Fp r ks;rw[e]at c;cases f:kF xs ks with
 |none=>rw[f]at c;show c.elim
 |some p=>
  rw[f]at c;show mX (x:=p.2) dd.typeIs slot_dict_getitem.lookup
   (wpAny_getItem_heap (knd:=ju X.prog X.w) (Q:=λr s'=>r=p.2/\EP X j l Q r s') (by change X.A.units+1+2 < dJ;omega) (I.deep o) dd f {rfl,z,H,I.tok _,c,q}) hs
end
open PySem.Deep
section
variable {X:Cx}{pos:Pos}
def ajf (P:aV)(w:bA):TE:=λ_ H Q=>∀p ep,H p=LY->(p == fZ)=MA->Q (.ref p) (upd H p (ji P w p ep []))
def Zy (b:X.prog=P)(hw:X.w=w):PE X (.Dict [] [] pos) (ajf P w):=by
 subst b hw;intro e s f H Q I h;have hd:(s.heap.push { cls:=.type "dict",data:=.dict #[] }).DictOfH (ju X.prog X.w) ‹s› []:=
  {_,#[],0,aT _ rfl,#v[rfl,rfl,rfl],rfl,rfl,(λx c=>nomatch c),gL}
 obtain⟨ep,d⟩:=Kw (kvs:=[]) .nil hd;show wpAny_Dict_empty {.ref ‹s›,_,I.laid (a:=‹s›) (o:=ji X.prog X.w ‹s› ep []) (t':=s.toks) (λ_ _ q=>aF _ q) (aJ _) (d _),rfl,h _ ep (I.hok.fresh (aJ _)) (beq_eq_false_iff_ne.mpr (Ne.symm (bJ I.big)))}
def afc (K:aG):V->List V->Hp->VK->Prop:=λx vs H Q=>∃(a:MB)(ss:List Str) (t:Str),x=.ref a/\vs=[.str t]/\SqL K H a (ss.map V.str)/\t∈ss/\Q (.int (ss.idxOf t:Nat)) H
theorem Hu:∀ss:List Str,(ss.map V.str).all n9=LZ
 | []=>rfl
 |s::ss=>by rw[bB,sE,Hu ss];rfl
def Wh:MtR X "list.index" (afc X.K):=by
 intro O s T H x vs v us Q I j l h;obtain⟨a,ss,t,rfl,rfl,o,b,q⟩:=h;cases j;obtain⟨u,rfl,z⟩:=k8 l;obtain⟨its,r,p,hz⟩:=I.list o;obtain⟨⟨cls,dd,data,A⟩,d,e,n,hd⟩:=p.isList;simp only at e hd;subst e hd;have C:=r.length;rw[aC]at C;have D:ss.idxOf t < ss.length:=eU.mpr b;have key:∀(m:Nat)(b:m < its.length) (f:m < ss.length),eqU (.str t) its[m]=decide (ss[m]=t):=λm b f=>by
  have E:(ss.map V.str)[m]?=KE (.str ss[m]):=(by rw[aK,aB f];rfl);obtain⟨w,g,G⟩:=r.get E;rw[aB b]at g;have c:its[m]=w:=bU g;rw[c,Vv G rfl];change(ss[m] == t)=decide (ss[m]=t);rw[kB,beq_iff_eq,decide_eq_true_iff]
 have i:=mf;rw[aC]at hz;show jK iN {_,d,rfl} PySem.F.entry_list_index (PySem.F.args_list_index_2 _ _)
  (SeqAt.list_indexAt a its.toArray n dd A u (eqU (.str t)) (ss.idxOf t) (by simp;lia) () ?_ ?_) {d,λy J=>?_,{.int _,H,I.tok _,{_,rfl},q}}
 ·rw[jL,key _ () D];simp[iW]
 ·intro m L N;rw[jL,key m (by simpa using L) ()];rw[decide_eq_false_iff_not];show λc=>Kv N () c
 ·show Ks (x:=.str t) z rfl r (Hu ss) y (by simpa using J)
end
end L2
namespace HT
open PySem PyProof.Rows
section
variable {prog:aV}{w:bA}{A:bV}{E:aE->aH->Prop}{s:aH}
def getItem_tuple_whole {items:Array aE}{lo hi:Option Int}{Q:aE->aH->Prop}(a:tJ s.heap t items)(hs:s.heap.IsSliceOf c d e .none)(pl:nZ d lo)(f:nZ e hi)
  (hw:sIx items.size 0 lo=0/\sIx items.size items.size hi=items.size) (h:Q (.ref t) s):aL (aX prog w) A (mG (.ref t) (.ref c)) Q E s:=by
 obtain⟨os,g,i,l⟩:=id hs;have j:s.TypeIs (.ref c) "slice":=#v[os,g,i];unfold mG
 try with_reducible show dB ?_
 first | show aA (wpAny_pure ?_) | skip
 show aA (pY a.typeIs (by decide) ?_);show aA (cS (name:=cW "__getitem__") a.typeIs cZ (cN cZ a.typeIs oS ?_ (pJ _ _)));change aL _ _ (jF (.ref t) >>= _) _ _ s;show aA (tupleItemsOf_ a ?_);show aA (lW j ?_);rw[MF (by decide)];show aA (uk hs pl f ?_);have b:((((sIx items.size 0 lo:Nat):Int) == 0 && (1:Int) == 1 && (sIx items.size items.size hi - sIx items.size 0 lo) == items.size)=LZ):=by
  rw[hw.1,hw.2];simp
 change aL _ _ (if (((sIx items.size 0 lo:Nat):Int) == 0 && (1:Int) == 1 && (sIx items.size items.size hi - sIx items.size 0 lo) == items.size)=LZ then _ else _) _ _ s
 rw[MF b];unfold Builtin.Tuple.tupleIsExact;show aA (aA (lW a.typeIs (wpAny_pure ?_)));rw[MF (by decide)];show aA (mI (wpAny_pure {_,rfl,wpAny_pure h}))
end
end HT
namespace L2
open PySem PySem.Spec PyProof.Rows
section
variable {X:Cx}
def Wi (xs:List V)(lo hi:Option Int):Prop:=HT.sIx xs.length 0 lo=0/\HT.sIx xs.length xs.length hi=xs.length
def rSlT0 (K:aG):V->Option Int->Option Int->Hp->VK->Prop:=λx lo hi H Q=>∃a xs,x=.ref a/\SqT K H a xs/\Wi xs lo hi/\Q (.ref a) H
def afd:SlR X (rSlT0 X.K):=by
 intro g s i H x v j l lo hi m Q I c hs pl d h;obtain⟨a,xs,rfl,e,hw,q⟩:=h;cases c;obtain⟨its,r,b,hz⟩:=I.tuple e;have f:its.toArray.size=xs.length:=(by rw[aM];show r.length.symm);show{"tuple",_,cZ.lookup,b.typeIs,?_};show HT.getItem_tuple_whole b hs pl d (by rw[f];show hw) {.ref a,H,I,rfl,q}
end
def au {a:Type}(xs:List a)(lo hi:Option Int):List a:=(xs.drop (HT.sIx xs.length 0 lo)).take (HT.sIx xs.length xs.length hi - HT.sIx xs.length 0 lo)
end L2
namespace L2
open PySem PySem.Spec PyProof.Rows
section
variable {X:Cx}{pos:Pos}
theorem Hv (ns:List Int):∀n,qQ (λi=>ns.getD i 0) n=(ns.take n).sum
 |0=>by simp[qQ]
 |n+1=>by
  change qQ (λi=>ns.getD i 0) n+ns.getD n 0=_;rw[Hv ns n,cV,List.sum_append,cF];cases ns[n]?<;>simp
def rSumS (K:aG):List V->Hp->VK->Prop:=λxs H Q=>∃(a:MB)(ns:List Int),xs=[.ref a]/\SqL K H a (ns.map V.int)/\ns.length<=1000/\(∀n∈ns,-1000000<=n/\n<=1000000)/\Q (.int ns.sum) H
def Wj (D:X.calm=LZ):j9 X (.builtin "sum") (rSumS X.K):=by
 intro p s E H xs us Q I r h;obtain⟨a,ns,rfl,G,g,J,q⟩:=h;obtain⟨u,rfl,l⟩:=k8 r;cases l;obtain⟨its,w,pl,hz⟩:=I.list G;have m:=pl.isList;have lt:a < ‹s›:=(by obtain⟨o,L,_⟩:=m;show aU L);have N:Inv X p E H { s with heap:=s.heap.push { cls:=.type "list_iterator",data:=.fields #[.ref a,.int 0 0] } }:=I.kept (t':=s.toks) λb o e=>aF _ e;have c:ki X p H ‹s›:=I.fpOk (aJ _) (I.hok.fresh (aJ _));have len:its.length=ns.length:=(by rw[<-w.length,aC]);have O:∀(i:Nat)(v:aE),its.toArray[i]?=KE v->∃t,v=.int (ns.getD i 0) t:=λi v e=>by
  have y:its[i]?=KE v:=(by simpa using e);have hi:i < ns.length:=(by rw[<-len];show(bH.mp y).1);obtain⟨u,C,l⟩:=w.get (i:=i) (x:=.int ns[i]) (by rw[aK,aB hi];rfl);rw[y]at C;cases C;obtain⟨t,rfl⟩:=l;show{t,by rw[cF,aB hi];rfl}
 have KM:∀j,j < ns.length->-1000000<=ns.getD j 0/\ns.getD j 0<=1000000:=λj f=>by
  rw[cF,aB f];show J _ (jR f)
 show call_sum_walk (dX m {‹s›,[‹s›,a],[‹s›],its.toArray.size,_,_,λi=>ns.getD i 0,rfl,uK (show X.A.in1.handled=LY from I.ok.hd D) ‹s› a (bJ lt) its.toArray,{{_,aT _ rfl,rfl,rfl},jQ m _},λb d=>?_,O,λj f=>?_,λh' T t' U=>?_})
 ·change b < (s.heap.push _).objs.size;rw[eQ];simp only[aW,dG,or_false]at d;rcases d with z | z
  ·rw[z];show fF _
  ·rw[z];show qB lt
 ·rw[aM,len]at f;have Y:=KM j f;have b2:=Hs (val:=λi=>ns.getD i 0) (n:=ns.length) KM (j+1) ();change InLong (ns.getD j 0)/\InLong (qQ (λi=>ns.getD i 0) (j+1));show{{(),()},{(),()}}
 ·show{.int _,H,N.turnedAll (t':=T) (ch:=[‹s›]) (λb d=>?_) (λb o d e=>U b o d e),#v[t',rfl],by rw[aM,len,Hv,cX];show q};cases bC.mp d;show#v[c.1,c.2.1,c.2.2.1,c.2.2.2.1,c.2.2.2.2.1,c.2.2.2.2.2]
end
end L2
namespace PySem
namespace TupSet
open SetTable
def qc (t:eV)(hs:Nat->Int)(eq:Nat->Bool)(h:Int):Nat->Probe->Option (Option Nat)
 |0,_=>LY
 |f+1,p=>match t.probe hs h p with
  |some (.empty j LY)=>KE (KE j)
  |some (.candidate _ i next)=>if eq i then KE LY else qc t hs eq h f next
  |_=>LY
structure Tj (t:eV)(n:Nat):Prop where
 mask:t.mask=7
 dum:t.dummies=#[]
 size:t.place.size=n
 plain:t.plain=LZ
theorem wo (xs:Array Nat)(j:Nat):∀f lo hi,lo<=hi->hi<=xs.size->below.go xs j f lo hi<=xs.size
 |0,lo,hi,b,a=>by unfold below.go;lia
 |f+1,lo,hi,b,a=>by
  unfold below.go;dsimp only
  split
  ·split
   ·show wo xs j f _ _ () a
   ·show wo xs j f _ _ () ()
  ·lia
def C5 (xs:Array Nat)(j:Nat):below xs j<=xs.size:=wo xs j _ _ _ (cP _) (aJ _)
def Io (xs:Array a)(p:Nat)(x:a)(h:p<=xs.size):(insertAt xs p x).size=xs.size+1:=by
 unfold insertAt;simp;lia
end TupSet
namespace TupSet
open SetTable
section
variable (prog:aV)(w:bA)
def d4 (x:List Int):Int:=sU (cB prog w) x
def acr (h:MC)(e:Int×aE)(x:List Int):Prop:=e.1=d4 prog w x/\∃a,e.2=.ref a/\cJ (cB prog w) h x a
def EntsOf (h:MC):List (Int×aE)->List (List Int)->Prop
 | [],[]=>True
 |e::a,x::xs=>acr prog w h e x/\EntsOf h a xs
 |_,_=>False
def Kh (h:MC)(S:MB)(t:eV)(xs:List (List Int)):Prop:=
 ∃o a ep,h.get? S=KE o/\o.ExactSet/\o.data=.set a ep t/\Tj t xs.length/\EntsOf prog w h a.toList xs
def lq (st:eV×List (List Int))(x:List Int):eV×List (List Int):=
 match qc st.1 (λi=>((st.2[i]?).map (d4 prog w)).getD 0) (λi=>decide (st.2[i]?=KE x)) (d4 prog w x) 100000 (st.1.probeStart (d4 prog w x))with
 |some (KE j)=>((st.1.put j).1,st.2.take (st.1.put j).2++x::st.2.drop (st.1.put j).2)
 |_=>st
end
section
variable {prog:aV}{w:bA}
theorem EntsOf.length:∀{a xs},EntsOf prog w h a xs->a.length=xs.length
 | [],[],_=>rfl
 | [],_::_,h=>h.elim
 |_::_,[],h=>h.elim
 |_::a,_::xs,h=>by simp[EntsOf.length h.2]
theorem EntsOf.get:∀{b:List (Int×aE)}{xs:List (List Int)}(_:EntsOf prog w h b xs) {i:Nat}{e:Int×aE},b[i]?=KE e->∃x,xs[i]?=KE x/\acr prog w h e x
 | [],[],_,i,e,a=>by simp at a
 | [],_::_,h,_,_,_=>h.elim
 |_::_,[],h,_,_,_=>h.elim
 |e'::b,x::xs,h,0,e,a=>by simp at a;subst a;show#v[x,rfl,h.1]
 |e'::b,x::xs,h,i+1,e,a=>by simpa using EntsOf.get h.2 (i:=i) (by simpa using a)
theorem EntsOf.hash:∀{a:List (Int×aE)}{xs:List (List Int)}(_:EntsOf prog w h a xs) (i:Nat),((a[i]?).map (·.1)).getD 0=((xs[i]?).map (d4 prog w)).getD 0
 | [],[],_,i=>by simp
 | [],_::_,h,_=>h.elim
 |_::_,[],h,_=>h.elim
 |e'::a,x::xs,h,0=>by simpa using h.1.1
 |e'::a,x::xs,h,i+1=>by simpa using EntsOf.hash h.2 i
theorem EntsOf.take:∀{a:List (Int×aE)}{xs:List (List Int)}(_:EntsOf prog w h a xs) (p:Nat),EntsOf prog w h (a.take p) (xs.take p)
 | [],[],_,p=>by simp[EntsOf]
 | [],_::_,h,_=>h.elim
 |_::_,[],h,_=>h.elim
 |e'::a,x::xs,h,0=>by simp[EntsOf]
 |e'::a,x::xs,h,p+1=>by simpa[EntsOf]using{h.1,EntsOf.take h.2 p}
theorem EntsOf.drop:∀{a:List (Int×aE)}{xs:List (List Int)}(_:EntsOf prog w h a xs) (p:Nat),EntsOf prog w h (a.drop p) (xs.drop p)
 | [],[],_,p=>by simp[EntsOf]
 | [],_::_,h,_=>h.elim
 |_::_,[],h,_=>h.elim
 |e'::a,x::xs,h,0=>h
 |e'::a,x::xs,h,p+1=>by simpa using EntsOf.drop h.2 p
theorem EntsOf.app:∀{a b:List (Int×aE)}{xs c:List (List Int)}(_:EntsOf prog w h a xs) (_:EntsOf prog w h b c),EntsOf prog w h (a++b) (xs++c)
 | [],_,[],_,_,h'=>h'
 | [],_,_::_,_,h,_=>h.elim
 |_::_,_,[],_,h,_=>h.elim
 |e'::a,_,x::xs,_,h,h'=>{h.1,EntsOf.app h.2 h'}
theorem EntsOf.imp (k:∀x a,cJ (cB prog w) h x a->cJ (cB prog w) h' x a):∀{b:List (Int×aE)}{xs:List (List Int)}(_:EntsOf prog w h b xs),EntsOf prog w h' b xs
 | [],[],_=>trivial
 | [],_::_,h=>h.elim
 |_::_,[],h=>h.elim
 |e'::b,x::xs,h=>{{h.1.1,h.1.2.elim λa c=>{a,c.1,k _ _ c.2}},EntsOf.imp k h.2}
def C6 (h:(cB prog w).is k v=LZ):∃t,v=.int k t:=by
 have h':fV k v=LZ:=h;cases v<;>simp[fV]at h';show{_,by rw[h']}
variable {A:bV}{E:aE->aH->Prop}{s:aH}
def items_int (h:ItemsAre (cB prog w) ks vs):∀v∈vs,∃k t,v=.int k t:=by
 induction h with
 |nil=>intro v hv;simp at hv
 |@cons k c ks vs a _ b=>
  intro v hv;rcases aW.mp hv with rfl | hv
  ·show{k,C6 a}
  ·show b v hv
def Fq (hk:cJ (cB prog w) s.heap ks a)(h:Q LZ s):aL (aX prog w) A (tU 8 (.ref a)) Q E s:=by
 have e:=hk.typeIs;obtain⟨o,items,n,f,_,hd,hi⟩:=hk;unfold tU;show aA (jA e F.slot_tuple_hash.lookup ?_);dsimp only;show aA (fN f hd ?_);show aA ?_;change aL _ _ (forIn items _ _) _ _ s;rw[<-kE];show iQ _ (λrest r s'=>r.1=LY/\s'=s/\∀v∈rest,∃k t,v=jM k t) _ ?_ ?_ _ _ {rfl,rfl,items_int hi}
 ·intro v rest r s' b;obtain⟨c,rfl,d⟩:=b;obtain⟨k,t,rfl⟩:=d v aQ;show aA (m:=tU 7 (.int k t)) (wpAny_pure ?_);simp only[hV,bL,if_false];show wpAny_pure {rfl,rfl,λu g=>d u (aP _ g)}
 ·intro b s' i;obtain⟨j,l⟩:=b;obtain⟨c,rfl,_⟩:=i;simp only at c;subst c;show wpAny_pure h
def Cm {ks:List Int}{a:MB}{Q:Bool->aH->Prop}(hk:cJ (cB prog w) s.heap ks a)(h:Q MA s):aL (aX prog w) A (qC 8 (.ref a)) Q E s:=by
 have e:=hk.typeIs;obtain⟨o,items,n,f,j,hd,hi⟩:=hk;unfold qC;show aA (lW e ?_);dsimp only;rw[MF (by decide)];show aA (wpAny_pure ?_);simp only[hV,bL,if_false];show aA (fN f hd ?_);dsimp only;show aA ?_;change aL _ _ (forIn items _ _) _ _ s;rw[<-kE];show iQ _ (λrest r s'=>r.1=LY/\s'=s/\∀v∈rest,∃k t,v=jM k t) _ ?_ ?_ _ _ {rfl,rfl,items_int hi}
 ·intro v rest r s' b;obtain⟨c,rfl,d⟩:=b;obtain⟨k,t,rfl⟩:=d v aQ;show aA (m:=qC 7 (.int k t)) (wpAny_pure ?_);simp only[bL,if_false];show wpAny_pure {rfl,rfl,λu g=>d u (aP _ g)}
 ·intro b s' i;obtain⟨l,p⟩:=b;obtain⟨c,rfl,_⟩:=i;simp only at c;subst c;show wpAny_pure h
def acs {a:Type}{M:uB}{c:Bool}{m b:Sem a}{Q:a->aH->Prop}(d:aL M A m Q E s)(e:aL M A b Q E s):aL M A (if c=LZ then m else b) Q E s:=by
 cases c
 ·show e
 ·show d
def Tn {x:List Int}{a:MB}{stored:List aE}{Q:Bool->aH->Prop}(e:cJ (cB prog w) s.heap x a)(hs:∀v∈stored,∃b y,v=.ref b/\cJ (cB prog w) s.heap y b)(h:Q MA s) :
  aL (aX prog w) A (searchCouldBeSeen (.ref a) stored) Q E s:=by
 unfold searchCouldBeSeen;show aA ?_;show iQ _ (λrest r s'=>r.1=LY/\s'=s/\∀v∈rest,∃b y,v=.ref b/\cJ (cB prog w) s.heap y b) _ ?_ ?_ _ _ #v[rfl,rfl,hs]
 ·intro v rest r s' c;obtain⟨d,rfl,f⟩:=c;obtain⟨b,y,rfl,g⟩:=f v aQ;have i:∀u∈rest,∃b y,u=.ref b/\cJ (cB prog w) s'.heap y b:=λu j=>f u (aP _ j);dsimp only[carriedByValue];show acs ?_ ?_
  ·show wpAny_pure #v[rfl,rfl,i]
  ·show aA (wpAny_eqIsQuiet_tuple e ?_);simp only[hV,bL,if_false];show aA (wpAny_eqIsQuiet_tuple g ?_);simp only[hV,bL,if_false];show aA (Cm e ?_);simp only[bL,if_false];show aA (Cm g ?_);simp only[bL,if_false];show wpAny_pure #v[rfl,rfl,i]
 ·intro c s' l;obtain⟨m,n⟩:=c;obtain⟨d,rfl,_⟩:=l;simp only at d;subst d;show wpAny_pure h
def Ec (prog:aV)(w:bA)(h0 h:MC)(S:MB)(t:eV)(xs:List (List Int)):Prop:=
 ∃o a ep,h.get? S=KE o/\o.ExactSet/\o.data=.set a ep t/\Tj t xs.length/\EntsOf prog w h0 a.toList xs
def qd (hk:∀b o,h0.get? b=KE o->h.get? b=KE o)(k:cJ (cB prog w) h0 x a):cJ (cB prog w) h x a:=by
 obtain⟨o,items,m,c,r⟩:=k;show{o,items,m,hk _ _ c,r}
end
end TupSet
namespace TupSet
open SetTable PyProof.Rows
section
variable {prog:aV}{w:bA}{A:bV}{E:aE->aH->Prop}{s:aH}
def Ed (w:bA):Bool:=!(w.params.followText "set-order")
def Zz (a:aE)
  (h:Q₁ (.ref ‹s›) { s with heap:=s.heap.push { cls:=.type "set",dict:=LY,data:=.set #[] 0 (.fresh 0 0 (Ed w)) } }) :
  lH (aX prog w) A (.call (.builtin "set.__new__") {[.type "set",a],[]}) (wants Q₁ E) s:=by
 show codeAny_of_tree ?_;change aL _ A.in1 (do checkBuiltinCall "set.__new__" {[.type "set",a],[]};again (.builtin "set.__new__" {[.type "set",a],[]})) _ _ s
 show aA (rJ (F.newCall_set_1 a) (wpAny_pure {plainId_quiet F.plain_set_new _,kG F.entry_set_new ?_}));rw[kZ F.plain_set_new _];unfold iP.«set.__new__» Builtin.Frozenset.newClass;have b:=sub_set_self;obtain⟨c,g,d,e,os⟩:_:=s;dsimp only
 wp_walk
 show lA (wpAny_pure ?_);dsimp only;simp only[newObj];show aA (wpAny_alloc (wpAny_pure ?_));show wpAny_pure h
end
end TupSet
namespace TupSet
open SetTable PyProof.Rows
def Rise (t:eV):Prop:=t.place.toList.Pairwise (· < ·)
theorem Re (next:Nat->Nat):∀(f k:Nat)(left:List d) (out:Array d),left.length<=f->(sV next f k left out).toList.Perm (out.toList++left)
 |0,k,left,out,h=>by
  have:left=[]:=List.eq_nil_of_length_eq_zero ();subst this;unfold sV;simp
 |f+1,k,left,out,h=>by
  unfold sV
  match b:left[next k % left.length]? with
  |none=>
   have:left=[]:=by
    cases left with
    |nil=>rfl
    |cons a l=>
     rw[List.getElem?_eq_none_iff]at b;show MJ (kI (next k) (show 0 < (a::l).length by simp)) ()
   subst this;simp
  |some x=>
   dsimp only;obtain⟨c,g⟩:=bH.mp b;have i:(left.eraseIdx (next k % left.length)).length<=f:=by
    rw[List.length_eraseIdx_of_lt c];lia
   show(Re next f (k+1) _ _ i).trans ?_
   rw[Array.toList_push,dY];show List.Perm.append_left _ ?_;have e:left=left.take (next k % left.length)++x::left.drop (next k % left.length+1):=by
    rw[<-g,<-fG c,jB]
   rw[List.eraseIdx_eq_take_drop_succ];show((List.perm_middle (l₁:=left.take (next k % left.length))).symm.trans (List.Perm.of_eq e.symm))
def Wk {a:Type}(next:Nat->Nat)(xs:Array a):(sW next xs).toList.Perm xs.toList:=by
 have:=Re next xs.size 0 xs.toList #[] ∅
 simpa[sW]using this
end TupSet
namespace TupSet
open SetTable PyProof.Rows
def jk:Slot "set_iterator" "__next__" "set_iterator.__next__":=
 .of (owner:="set_iterator") (n:="__next__") (by rw[typeLookup_type,builtinLookup_eq_fast];kernel_rfl) ⋯ ⋯ ⋯
  (by first | show .inl ⋯ | show .inr ⋯) (by rw[rN];kernel_rfl)
def zj:entryFor table "set_iterator.__next__"=KE iP.«set_iterator.__next__»:=entryFor_of_tree (by kernel_rfl)
def z7 (a:aE):argsOk "set_iterator.__next__" {[a],[]}:=by
 unfold argsOk;rw[signature?_of (id:="set_iterator.__next__") (n:=['_','_','t','x','e','n','_','_']) (o:=['r','o','t','a','r','e','t','i','_','t','e','s']) (rows:=Manifest.sig_set_iterator) (by kernel_rfl) (by kernel_rfl)];kernel_rfl
def Kx:entryFor table "set.__iter__"=KE iP.«frozenset.__iter__»:=
 entryFor_alias (id':="frozenset.__iter__") (by kernel_rfl) rfl ⋯ (by kernel_rfl)
def g8 (w:bA)(S:MB)(ep:Nat)(a:Array (Int×aE)):List aE:=
 if w.params.followText "set-order" then (sW (w.params.setOrder S ep) a).toList.map (·.2)else a.toList.map (·.2)
def Ee (w:bA)(S:MB)(ep:Nat)(a:Array (Int×aE)):(g8 w S ep a).Perm (a.toList.map (·.2)):=by
 unfold g8
 split
 ·show(Wk _ _).map _
 ·show mJ _
def qw (w:bA)(S:MB)(ep:Nat)(a:Array (Int×aE)):(g8 w S ep a).length=a.size:=by
 rw[(Ee w S ep a).length_eq];simp
def IsSetIter (w:bA)(h:MC)(I S:MB)(i:Nat)(n ep:Nat)(t:eV):Prop:=
 ∃(slot:Nat)(o:Obj),h.get? I=KE o/\o.cls=.type "set_iterator"/\o.data=.fields #[.int slot 0,.int i 0,.ref S,.int n 0,.int ep 0]/\(w.params.followText "set-order"=MA->below t.place slot=i)
section
variable {prog:aV}{w:bA}{A:bV}{E:aE->aH->Prop}{s:aH}
def z8 {a:Type}{M:uB}{c:Bool}{m b:Sem a}{Q:a->aH->Prop}(d:c=MA)(h:aL M A b Q E s):aL M A (if c=LZ then m else b) Q E s:=by
 subst d;show h
def IsSetIter.typeIs {I S:MB}{i n ep:Nat}{t:eV}(x:IsSetIter w s.heap I S i n ep t):s.TypeIs (.ref I) "set_iterator":=
 let ⟨_,o,a,b,_⟩:=x;#v[o,a,b]
structure qx (w:bA)(o:Obj)(es:Array (Int×aE))(ep:Nat)(t:eV):Prop where
 ex:o.ExactSet
 data:o.data=.set es ep t
 small:Tj t es.size
 n3:es.size<=3
 rise:Rise t
 led:w.params.followText "set-order"=MA->t.led=LZ
end
end TupSet
namespace TupSet
open SetTable PyProof.Rows PySem.W
def z9:Slot "set_iterator" "__iter__" "set_iterator.__iter__":=
 .of (owner:="set_iterator") (n:="__iter__") (by rw[typeLookup_type,builtinLookup_eq_fast];kernel_rfl) ⋯ ⋯ ⋯
  (by first | show .inl ⋯ | show .inr ⋯) (by rw[rN];kernel_rfl)
def Ky (a:aE):argsOk "set_iterator.__iter__" {[a],[]}:=by
 unfold argsOk;rw[signature?_of (id:="set_iterator.__iter__") (n:=['_','_','r','e','t','i','_','_']) (o:=['r','o','t','a','r','e','t','i','_','t','e','s']) (rows:=Manifest.sig_set_iterator) (by kernel_rfl) (by kernel_rfl)];kernel_rfl
def Ip:entryFor table "set_iterator.__iter__"=KE iP.«dict_keyiterator.__iter__»:=
 entryFor_alias (id':="dict_keyiterator.__iter__") (by kernel_rfl) rfl ⋯ (by kernel_rfl)
section
variable {prog:aV}{w:bA}{A:bV}{E:aE->aH->Prop}{s:aH}
def Z0 (a:s.TypeIs (.ref r) "set")(h:Q MA s):aL (aX prog w) A (Builtin.List.listLengthHint (.ref r)) Q E s:=by
 unfold Builtin.List.listLengthHint;show aA (jA a PySem.F.slot_set_len.lookup ?_);generalize e:("set.__len__":String)=c
 wp_delta
 rw[show splitId c=KE ("set","__len__")from by subst e;decide +kernel];subst e;show aA (hX (T:="set") (b:=LZ) a (by rw[rN];kernel_rfl) ?_);show wpAny_ite_split (λd=>MJ d (by decide)) (λ_=>?_);show wpAny_ite_split (λ_=>?_) (λd=>MJ ⋯ d);show aA (lW a ?_);show wpAny_pure h
end
end TupSet
namespace TupSet
open SetTable PyProof.Rows PySem.W
def lexLt:List Int->List Int->Bool
 | [],[]=>MA
 | [],_::_=>LZ
 |_::_,[]=>MA
 |a::c,b::bs=>if a=b then lexLt c bs else decide (a < b)
theorem Ef:∀x,lexLt x x=MA
 | []=>rfl
 |a::b=>by simp[lexLt,Ef b]
theorem Aa:∀x y,lexLt x y=MA->lexLt y x=MA->x=y
 | [],[],_,_=>rfl
 | [],_::_,h,_=>nomatch h
 |_::_,[],_,h=>nomatch h
 |a::f,b::bs,c,d=>by
  by_cases e:a=b
  ·subst e;simp[lexLt]at c d;rw[Aa f bs c d]
  ·have g:¬b=a:=λh=>e h.symm;simp[lexLt,e,g]at c d;lia
theorem Ab:∀x y z,lexLt x y=LZ->lexLt y z=LZ->lexLt x z=LZ
 | [],[],_,h,_=>nomatch h
 | [],_::_,[],_,h=>nomatch h
 | [],_::_,_::_,_,_=>rfl
 |_::_,[],_,h,_=>nomatch h
 |_::_,_::_,[],_,h=>nomatch h
 |a::i,b::bs,c::cs,d,e=>by
  by_cases g:a=b
  ·subst g;by_cases f:a=c
   ·subst f;simp[lexLt]at d e ⊢;show Ab i bs cs d e
   ·simp[lexLt,f]at d e ⊢;show e
  ·by_cases f:b=c
   ·subst f;simp[lexLt,g]at d e ⊢;show d
   ·simp[lexLt,g,f]at d e;have j:¬a=c:=();simp[lexLt,j];lia
def lex_asymm {x y:List Int}(h:lexLt x y=LZ):lexLt y x=MA:=by
 cases h':lexLt y x with
 |false=>rfl
 |true=>have:=Ab _ _ _ h h';rw[Ef]at this;show nomatch this
def lexLe (x y:List Int):Prop:=lexLt y x=MA
def Hw {x y z:List Int}(b:lexLe x y)(a:lexLe y z):lexLe x z:=by
 unfold lexLe at *;cases h:lexLt z x with
 |false=>rfl
 |true=>
  by_cases e:x=y
  ·subst e;rw[h]at a;show a
  ·have c:lexLt x y=LZ:=by
    cases d:lexLt x y with
    |true=>rfl
    |false=>show MJ (Aa _ _ d b) e
   have:=Ab _ _ _ h c;rw[this]at a;show nomatch a
def Kz (a:lexLe x y)(b:lexLe y x):x=y:=Aa _ _ b a
def SortedT (l:List (List Int)):Prop:=l.Pairwise lexLe
theorem zm:∀{l c},l.Perm c->SortedT l->SortedT c->l=c
 | [],c,p,_,_=>by rw[List.Perm.nil_eq p]
 |a::l,[],p,_,_=>by have:=p.length_eq;simp at this
 |a::l,b::c,p,s,s'=>by
  have d:=iB.mp s;have f:=iB.mp s';have g:a=b:=by
   have ha:a∈b::c:=p.mem_iff.mp aQ;have hb:b∈a::l:=p.mem_iff.mpr aQ;rcases aW.mp ha with e | ha
   ·show e
   ·rcases aW.mp hb with e | hb
    ·show e.symm
    ·show Kz (d.1 b hb) (f.1 a ha)
  subst g;rw[zm (List.Perm.cons_inv p) d.2 f.2]
def Fs (x:List Int):List (List Int)->List (List Int)
 | []=>[x]
 |y::l=>if lexLt y x=LZ then y::Fs x l else x::y::l
def isort:List (List Int)->List (List Int)
 | []=>[]
 |x::l=>Fs x (isort l)
theorem Ac (x:List Int):∀l,(Fs x l).Perm (x::l)
 | []=>mJ _
 |y::l=>by
  unfold Fs
  split
  ·show((Ac x l).cons y).trans (List.Perm.swap _ _ _)
  ·show mJ _
theorem isort_perm:∀l,(isort l).Perm l
 | []=>mJ _
 |x::l=>(Ac x _).trans ((isort_perm l).cons x)
theorem Cp (x:List Int):∀l,SortedT l->SortedT (Fs x l)
 | [],_=>mN _ _
 |y::l,s=>by
  have a:=iB.mp s;unfold Fs
  split
  ·rename_i h
   show iB.mpr {λz hz=>?_,Cp x l a.2};rcases aW.mp ((Ac x l).mem_iff.mp hz)with e | hz
   ·subst e;show lex_asymm h
   ·show a.1 z hz
  ·rename_i h
   have b:lexLe x y:=(by unfold lexLe;simpa using h);show iB.mpr {λz hz=>?_,s};rcases aW.mp hz with e | hz
   ·subst e;show b
   ·show Hw b (a.1 z hz)
theorem oj:∀l,SortedT (isort l)
 | []=>jI
 |x::l=>Cp x _ (oj l)
def isort_of {l a:List (List Int)}(p:a.Perm l)(s:SortedT a):a=isort l:=zm (p.trans (isort_perm l).symm) s (oj l)
def c8 {b:Type}(lt:Nat->Nat->Bool):KasT b->b
 | .ret a=>a
 | .ask i j k=>c8 lt (k (lt i j))
def qu {a:Type}(n:Nat):KasT a->Bool
 | .ret _=>LZ
 | .ask i j k=>decide (i < n) && decide (j < n) && qu n (k LZ) && qu n (k MA)
def Wl {a:Type}{n i j:Nat}{k:Bool->KasT a}(h:qu n (.ask i j k)=LZ):i < n/\j < n/\∀b,qu n (k b)=LZ:=by
 simp only[qu,cO,decide_eq_true_eq]at h;show{h.1.1.1,h.1.1.2,λb=>by cases b;show h.2;show h.1.2}
theorem Rf {b:Type}{n:Nat}{lt:Nat->Nat->Bool}{c:Nat->Nat->(Bool->aH->Prop)->aH->Prop}(d:∀i j C,i < n->j < n->C (lt i j) s->c i j C s){Q:b->aH->Prop}:∀(t:KasT b),qu n t=LZ->Q (c8 lt t) s->t.kasWp c Q s
 | .ret a,_,h=>h
 | .ask i j k,e,h=>by
  have a:=Wl e;show d i j _ a.1 a.2.1 (Rf d (k (lt i j)) (a.2.2 _) h)
def ltX (xs:List (List Int))(i j:Nat):Bool:=lexLt (xs.getD i []) (xs.getD j [])
end TupSet
namespace TupSet
open SetTable PyProof.Rows PySem.W
def KeysL (prog:aV)(w:bA)(h:MC):List aE->List (List Int)->Prop
 | [],[]=>True
 |v::vs,x::xs=>(∃a,v=.ref a/\cJ (cB prog w) h x a)/\KeysL prog w h vs xs
 |_,_=>False
section
variable {prog:aV}{w:bA}
theorem KeysL.length:∀{vs xs},KeysL prog w h vs xs->vs.length=xs.length
 | [],[],_=>rfl
 | [],_::_,h=>h.elim
 |_::_,[],h=>h.elim
 |_::_,_::_,h=>by simp[KeysL.length h.2]
theorem KeysL.at:∀{vs:List aE}{xs:List (List Int)}(_:KeysL prog w h vs xs) {i:Nat},i < xs.length->∃a,vs.getD i .none=.ref a/\cJ (cB prog w) h (xs.getD i []) a
 | [],[],_,i,hi=>by simp at hi
 | [],_::_,h,_,_=>h.elim
 |_::_,[],h,_,_=>h.elim
 |v::vs,x::xs,h,0,_=>by simpa using h.1
 |v::vs,x::xs,h,i+1,hi=>by simpa using KeysL.at h.2 (i:=i) (by simpa using hi)
theorem KeysL.imp (k:∀x a,cJ (cB prog w) h x a->cJ (cB prog w) h' x a):∀{vs:List aE}{xs:List (List Int)}(_:KeysL prog w h vs xs),KeysL prog w h' vs xs
 | [],[],_=>trivial
 | [],_::_,h=>h.elim
 |_::_,[],h=>h.elim
 |v::vs,x::xs,h=>{h.1.elim λa b=>{a,b.1,k _ _ b.2},KeysL.imp k h.2}
theorem KeysL.pick (k:KeysL prog w h vs xs):∀(p:List Nat),(∀i∈p,i < xs.length)->KeysL prog w h (p.map λi=>vs.getD i .none) (p.map λi=>xs.getD i [])
 | [],_=>trivial
 |i::p,a=>{k.at (a i aQ),KeysL.pick k p λj b=>a j (aP _ b)}
def KeysL.perm (p:a.Perm vs):∀{xs},KeysL prog w h vs xs->∃ys,ys.Perm xs/\KeysL prog w h a ys:=by
 induction p with
 |nil=>intro xs k;show{xs,mJ _,k}
 |cons v p c=>
  intro xs k
  match xs,k with
  | [],k=>show k.elim
  |x::xs,k=>
   obtain⟨ys,b,d⟩:_:=c k.2;show{x::ys,b.cons x,k.1,d}
 |swap u v l=>
  intro xs k
  match xs,k with
  | [],k=>show k.elim
  | [x],k=>show k.2.elim
  |x::y::xs,k=>show{y::x::xs,List.Perm.swap _ _ _,k.2.1,k.1,k.2.2}
 |trans p q e f=>
  intro xs k;obtain⟨ys,b,g⟩:_:=f k;obtain⟨i,hz,j⟩:_:=e g;show{i,hz.trans b,j}
theorem EntsOf.keys:∀{a xs},EntsOf prog w h a xs->KeysL prog w h (a.map (·.2)) xs
 | [],[],_=>trivial
 | [],_::_,h=>h.elim
 |_::_,[],h=>h.elim
 |_::_,_::_,h=>{h.1.2,EntsOf.keys h.2}
theorem KeysL.firsts:∀{vs xs},KeysL prog w h vs xs->(∀x∈xs,x≠[])->∃fs,KatTups h vs fs/\fs.length=vs.length/\∀v∈fs,∃k t,v=jM k t
 | [],[],_,_=>{[],trivial,rfl,by simp}
 | [],_::_,h,_=>h.elim
 |_::_,[],h,_=>h.elim
 |v::vs,x::xs,k,c=>by
  obtain⟨⟨a,rfl,o,items,n,d,e,hd,hi⟩,g⟩:_:=k;obtain⟨fs,i,j,m⟩:_:=KeysL.firsts g λy p=>c y (aP _ p);have b:=c x aQ;obtain⟨l⟩:_:=items;dsimp only at hi
  match x,l,hi,b with
  | [],_,_,b=>show MJ rfl b
  |k0::ks,f::r,hi,_=>
   show{f::fs,KatTups.cons d e hd rfl i,by simp[j],λv hv=>?_};rcases aW.mp hv with rfl | hv
   ·show items_int hi v aQ
   ·show m v hv
variable {A:bV}{E:aE->aH->Prop}{s:aH}
theorem Wm:∀{x y:List Int}{vs us:List aE}(_:ItemsAre (cB prog w) x vs) (_:ItemsAre (cB prog w) y us) (a:Bool) (i:Nat),a=decide (vs.length < us.length)->Q (lexLt x y) s->
  KatLex prog w A b a Q (vs.zip us) i s
 | [],[],_,_,.nil,.nil,a,i,c,h=>by
  rw[c];show kat_nil h
 | [],_::_,_,_,.nil,.cons _ _,a,i,c,h=>by
  rw[c];show kat_nil (by simpa[lexLt]using h)
 |_::_,[],_,_,.cons _ _,.nil,a,i,c,h=>by
  rw[c];show kat_nil (by simpa[lexLt]using h)
 |p::x,q::y,v::vs,u::us,.cons d g,.cons f j,a,i,c,h=>by
  show kat_cons ((cB prog w).eqBool d f ?_);by_cases e:p=q
  ·rw[MI e];show kat_yes (Wm g j a (i+1) (by rw[c];simp) ?_);simpa[lexLt,e]using h
  ·rw[MH e];show kat_no ?_;obtain⟨l,rfl⟩:_:=C6 d;obtain⟨m,rfl⟩:_:=C6 f;have h':Q (decide (p < q)) s:=(by simpa[lexLt,e]using h);cases(b && i == 0)with
   |true=>show oneLt_int h'
   |false=>show kat_one _ _ (P.lt_int (by show h'))
def ajg {b:Bool}{x y:List Int}{Q:Bool->aH->Prop}(e:cJ (cB prog w) s.heap x a)(f:cJ (cB prog w) s.heap y c)(h:Q (lexLt x y) s) :
  aL (aX prog w) A (keyLt' (tuples' b) (.ref a) (.ref c)) Q E s:=by
 obtain⟨o,items,n,g,_,hd,hi⟩:_:=e;obtain⟨m,d,p,i,_,j,l⟩:_:=f;show kat_lt g hd i j (Wm hi l _ 0 ∅ h)
def To (x:cJ (cB prog w) h ks a)(g:h.get? d=KE (eY "list" vs n))(hs:∀b o,b≠d->h.get? b=KE o->h'.get? b=KE o) :
  cJ (cB prog w) h' ks a:=by
 obtain⟨c,items,m,e,f,i,hi⟩:_:=x;have j:a≠d:=by
  rintro rfl;obtain rfl:c=eY "list" vs n:=bU (e.symm.trans g);simp[eY]at f
 show{c,items,m,hs a _ j e,f,i,hi}
end
end TupSet
end PySem
namespace L2
open PySem PySem.Spec PyProof.Rows PySem.TupSet
section
variable {P:aV}{w:bA}{H H':Hp}{h h':MC}{a:MB}{o:HO}{fs ex:List MB}
def ObjOk.has (x:ObjOk P w H h a o):∃b,h.get? a=KE b:=by
 cases o with
 |lst xs=>obtain⟨_,_,_,_,e⟩:=x;show{_,e}
 |tup xs=>obtain⟨_,_,_,b,e,_⟩:=x;show{_,e}
 |dK kvs=>obtain⟨_,_,_,_,o,_,_,e,_⟩:=x;show{_,e}
 |dT kvs=>obtain⟨_,_,_,_,o,_,_,e,_⟩:=x;show{_,e}
 |set S n=>obtain⟨o,_,_,_,e,_⟩:=x;show{_,e}
 |ins C c fs=>obtain⟨_,_,_,e,_⟩:=x;show{_,e}
 |own y=>obtain⟨_,e⟩:=x;show{_,e}
 |xd fs=>obtain⟨_,⟨_,_,_,e,_⟩,_⟩:=x;show{_,e}
 |rng lo hi=>obtain⟨_,_,_,e⟩:=x;show{_,e}
 |frz b u=>obtain⟨e,_⟩:=x;show{_,e}
 |tbl ps=>show{_,show h.get? a=KE _ from x}
 |met f y=>show{_,show h.get? a=KE _ from x}
 |ext d=>obtain⟨_,⟨_,e⟩,_⟩:=x;show{_,e}
def HOk.none_at (x:HOk P w H h)(e:h.get? a=LY):H a=LY:=by
 cases q:H a with
 |none=>rfl
 |some u=>
  obtain⟨b,z⟩:=(x a u q).has;rw[e]at z;cases z
def HOk.laidN (x:HOk P w H h)(k:∀b u,h.get? b=KE u->h'.get? b=KE u)(g:h.get? a=LY)(new:ObjOk P w (upd H a o) h' a o):HOk P w (upd H a o) h':=λb u e=>by
 have d:=x.none_at g;by_cases f:b=a
 ·subst f;rw[bp]at e;cases e;show new
 ·rw[bc f]at e;show(x b u e).stay (λc v _ q=>k c v q) (λc q=>by rw[bc (cf q d)];show q) λc xs q=>by rw[bc (cf q d)];show q
def Un.laidN (k:∀b u,h.get? b=KE u->h'.get? b=KE u)(hp:h.get? a=LY)(hn:H a=LY):Un fs ex H (upd H a o) h h' where
 keep:=λb u q _ _ _=>k b u q
 slot:=λb u q _ _ _=>{u.slots,k b u q}
 free:=λb u q n _=>by rw[bc (λz=>by rw[z,hp]at q;cases q)];show n
 there:=λb u q _=>{u,k b u q}
 tups:=λb xs q=>by rw[bc (cf q hn)];show q
 frzs:=λb u xs q=>by rw[bc (cf q hn)];show q
 tbls:=λb ps q=>{#[],by rw[bc (cf q hn),q];simp}
end
theorem Inv.laidN {X:Cx}{d:List (MB×Obj)}{e:List (Option V)}{H:Hp}{s:aH}{h':MC}{a:MB}{o:HO}{t':Nat}(I:Inv X d e H s)(k:∀b u,s.heap.get? b=KE u->h'.get? b=KE u)(c:s.heap.get? a=LY)(new:ObjOk X.prog X.w (upd H a o) h' a o) :
  Inv X d e (upd H a o) { s with heap:=h',toks:=t' }:=I.un (Un.laidN k c (I.hok.none_at c)) (I.hok.laidN k c new)
def TupsV (K:aG)(H:Hp)(ys:List V)(L:List (List Int)):Prop:=Paired (λy x=>∃a,y=.ref a/\SqT K H a (x.map V.int)) ys L
theorem K0:∀{x its},Vals (x.map V.int) its->PySem.ItemsAre (cB prog w) x its
 | [],_,.nil=>.nil
 |k::x,_,.cons r t=>by
  obtain⟨a,rfl⟩:=r;show .cons (by change fV k (.int k a)=LZ;simp[fV]) (K0 t)
section
variable {X:Cx}{f':List (MB×Obj)}{σ:St}{H:Hp}{s:aH}
def Inv.tkey (I:Inv X f' σ H s)(h:SqT X.K H a (x.map V.int)):cJ (cB X.prog X.w) s.heap x a:=by
 obtain⟨its,r,⟨o,b,c,n,hd⟩,_⟩:=I.tuple h;show{o,its.toArray,n,b,c,hd,by simpa using K0 r}
open Classical in
noncomputable def ur (K:aG)(H:Hp)(h:MC):MC:=PySem.W.hideAll h ((bE h.objs.size).filter λa=>!decide (∃x:List Int,SqT K H a (x.map V.int)))
def Ft {K:aG}{h:MC}{b:MB}{o:Obj}(e:(ur K H h).get? b=KE o):h.get? b=KE o/\∃x:List Int,SqT K H b (x.map V.int):=by
 have c:=PySem.W.of_hideAll _ e;show{c,Classical.byContradiction λn=>?_};have d:b∈(bE h.objs.size).filter λa=>!@decide (∃x:List Int,SqT K H a (x.map V.int)) (Classical.propDecidable _):=List.mem_filter.mpr {dI.mpr (aU c),by simp[n]};have z:(ur K H h).get? b=LY:=PySem.W.hideAll_none _ d;rw[z]at e;cases e
def Z3 {K:aG}{h:MC}{b:MB}{o:Obj}{x:List Int}(e:h.get? b=KE o)(k:SqT K H b (x.map V.int)):(ur K H h).get? b=KE o:=by
 show PySem.W.hideAll_get _ e λa=>?_;have q:=(iG.mp a).2;have:∃x:List Int,SqT K H b (x.map V.int):=#v[x,k];simp[this]at q
def Inv.tupK (I:Inv X f' σ H s){a:MB}{x:List Int}(h:SqT X.K H a (x.map V.int)):cJ (cB X.prog X.w) (ur X.K H s.heap) x a:=by
 obtain⟨o,its,n,b,r⟩:=I.tkey h;show{o,its,n,Z3 b h,r}
def Inv.ofTupK (I:Inv X f' σ H s){x:List Int}(h:cJ (cB X.prog X.w) (ur X.K H s.heap) x a):SqT X.K H a (x.map V.int):=by
 obtain⟨o,its,n,c,r⟩:=h;obtain⟨d,y,b⟩:=Ft c;have e:x=y:=IsTupleKey.inj (knd:=cB X.prog X.w) #v[o,its,n,d,r] (I.tkey b);subst e;show b
theorem Inv.ofKeysL (I:Inv X f' σ H s):∀{vs:List aE}{xs:List (List Int)},KeysL X.prog X.w (ur X.K H s.heap) vs xs->∃ys,Vals ys vs/\TupsV X.K H ys xs
 | [],[],_=>{[],.nil,.nil}
 | [],_::_,h=>h.elim
 |_::_,[],h=>h.elim
 |v::vs,x::xs,h=>by
  obtain⟨⟨a,rfl,k⟩,b⟩:=h;obtain⟨ys,c,d⟩:=I.ofKeysL b;show{.ref a::ys,.cons rfl c,.cons {a,rfl,I.ofTupK k} d}
theorem TupsV.get {K:aG}:∀{ys:List V}{L:List (List Int)}{its:List aE},TupsV K H ys L->Vals ys its->∀(i:Nat)(v:aE),its[i]?=KE v->∃a x,v=.ref a/\L[i]?=KE x/\SqT K H a (x.map V.int)
 |_,_,_,.nil,.nil,i,v,e=>by simp at e
 |_,_,_,.cons (b:=x) p q,.cons r t,0,v,e=>by
  obtain⟨a,rfl,k⟩:=p;cases r;simp at e;show#v[a,x,e.symm,rfl,k]
 |_,_,_,.cons p q,.cons r t,i+1,v,e=>by
  obtain⟨a,x,c,d,f⟩:=TupsV.get q t i v (by simpa using e);show{a,x,c,by simpa using d,f}
end
end L2
namespace PySem
namespace TupSet
open SetTable
def jv (m:Nat)(p:Probe):Probe:=
 if p.more > 0 then { p with j:=p.j+1,more:=p.more - 1 }else
 { p with j:=(leap m p.i p.perturb).1,more:=runEnd m (leap m p.i p.perturb).1 - (leap m p.i p.perturb).1,i:=(leap m p.i p.perturb).1,perturb:=(leap m p.i p.perturb).2 }
def Wn (t:eV)(p:Probe):t.advance p=jv t.mask p:=rfl
def qy (m:Nat)(h:Int):Probe:={ j:=bits h % (m+1),more:=runEnd m (bits h % (m+1)) - bits h % (m+1),i:=bits h % (m+1),perturb:=bits h,dummy:=LY }
def Wo (m:Nat)(p:Probe):(jv m p).dummy=p.dummy:=by unfold jv;split<;>rfl
def ComesM (m a:Nat):Nat->Probe->Prop
 |0,p=>p.j=a
 |k+1,p=>p.j=a\/ComesM m a k (jv m p)
theorem ComesM.mono:∀{k n p},ComesM m a k p->k<=n->ComesM m a n p
 |0,0,_,h,_=>h
 |0,n+1,_,h,_=>.inl h
 |k+1,0,_,_,h=>MJ h ()
 |k+1,n+1,_,.inl h,_=>.inl h
 |k+1,n+1,_,.inr h,b=>.inr (ComesM.mono h ())
def gq (m j:Nat):Nat->Nat->Bool
 |0,i=>i == j
 |l+1,i=>i == j || gq m j l ((i * 5+1) % (m+1))
def it (m:Nat):Nat->Nat->Nat
 |0,i=>i
 |k+1,i=>it m k ((i * 5+1) % (m+1))
theorem Eg (m:Nat):∀a b i,it m (a+b) i=it m b (it m a i)
 |0,b,i=>by rw[fE];rfl
 |a+1,b,i=>by rw[show a+1+b=(a+b)+1 by lia];show Eg m a b _
theorem wq:∀{k l i},it m k i=j->k<=l->gq m j l i=LZ
 |0,0,i,h,_=>by have:i=j:=h;simp[gq,this]
 |0,l+1,i,h,_=>by have:i=j:=h;simp[gq,this]
 |k+1,0,i,_,h=>MJ h ()
 |k+1,l+1,i,h,a=>by unfold gq;rw[wq (k:=k) h (),Bool.or_true]
theorem Cq:∀{l i},gq m j l i=LZ->∃k,k<=l/\it m k i=j
 |0,i,h=>{0,aJ _,by change i=j;simpa[gq]using h}
 |l+1,i,h=>by
  unfold gq at h;rw[lM]at h;rcases h with h | h
  ·show{0,cP _,by change i=j;simpa using h}
  ·obtain⟨k,hk,e⟩:=Cq h;show{k+1,(),e}
def K1 (m:Nat):Bool:=(bE (m+1)).all (λj=>gq m j m 0) && it m (m+1) 0 == 0
def orb7:K1 7=LZ:=by decide +kernel
def orb31:K1 31=LZ:=by decide +kernel
def ajh:K1 127=LZ:=by decide +kernel
def M3 (m:Nat):Prop:=m=7\/m=31\/m=127
def afe (a:M3 m):(∀j,j<=m->∃k,k<=m/\it m k 0=j)/\it m (m+1) 0=0:=by
 have h:K1 m=LZ:=by
  rcases a with rfl | rfl | rfl
  ·show orb7
  ·show orb31
  ·show ajh
 unfold K1 at h;rw[cO]at h;show{λj b=>Cq (jS.mp h.1 j (dI.mpr ())),by simpa using h.2}
def Hx (f:M3 m)(hi:i<=m)(g:j<=m):gq m j m i=LZ:=by
 obtain⟨o,c⟩:=afe f;obtain⟨a,l,d⟩:=o i hi;obtain⟨b,n,e⟩:=o j g;by_cases h:a<=b
 ·show wq (k:=b - a) ?_ ();rw[<-d,<-Eg,show a+(b - a)=b by lia];show e
 ·show wq (k:=b+(m+1) - a) ?_ ();rw[<-d,<-Eg,show a+(b+(m+1) - a)=(m+1)+b by lia,Eg,c];show e
def Head (m:Nat)(p:Probe):Prop:=p.j=p.i/\p.i<=m/\p.more=runEnd m p.i - p.i
def Head.start (m:Nat)(h:Int):Head m (qy m h):=⟨rfl,by change bits h % (m+1)<=m;have:=kI (bits h) (show 0 < m+1 by lia);lia,rfl⟩
def vz (m:Nat)(p:Probe):Probe:={ p with j:=(leap m p.i p.perturb).1,more:=runEnd m (leap m p.i p.perturb).1 - (leap m p.i p.perturb).1,i:=(leap m p.i p.perturb).1,perturb:=(leap m p.i p.perturb).2 }
def Head.next (p:Probe):Head m (vz m p):=⟨rfl,by change(leap m p.i p.perturb).1<=m;unfold leap;have:=kI (p.i * 5+1+p.perturb / 32) (show 0 < m+1 by lia);dsimp only;lia,rfl⟩
theorem C7:∀c p,p.more=c->∀k,ComesM m a k (vz m p)->ComesM m a (k+(c+1)) p
 |0,p,b,k,h=>by
  show .inr ?_;have e:jv m p=vz m p:=(by unfold jv;rw[MG ()];rfl);rw[e];show h
 |c+1,p,b,k,h=>by
  have e:jv m p={ p with j:=p.j+1,more:=p.more - 1 }:=(by unfold jv;rw[MF ()]);show .inr ?_;rw[e];show C7 c { p with j:=p.j+1,more:=p.more - 1 } (by change p.more - 1=c;lia) k h
def Ad (m i:Nat):runEnd m i - i<=9:=by unfold runEnd;split<;>lia
theorem Cr:∀l p,Head m p->p.perturb=0->gq m a l p.i=LZ->ComesM m a (10 * l) p
 |0,p,H,h0,h=>by
  change p.j=a;rw[H.1];simpa[gq]using h
 |l+1,p,H,h0,h=>by
  by_cases e:p.i=a
  ·show ComesM.mono (show ComesM m a 0 p from H.1.trans e) ()
  ·have h':gq m a l ((p.i * 5+1) % (m+1))=LZ:=by
    unfold gq at h;rw[lM]at h;rcases h with h | h
    ·show MJ (by simpa using h) e
    ·show h
   have b:(leap m p.i p.perturb)=((p.i * 5+1) % (m+1),0):=(by unfold leap;rw[h0]);have x:=Cr l (vz m p) (Head.next p) (by change(leap m p.i p.perturb).2=0;rw[b]) (by change gq m a l (leap m p.i p.perturb).1=LZ;rw[b];show h')
   show ComesM.mono (C7 p.more p rfl _ x) (by rw[H.2.2];have:=Ad m p.i;lia)
theorem Eh (c:M3 m)(d:a<=m):∀k p,Head m p->p.perturb < 32 ^ k->ComesM m a (10 * (k+m)) p
 |0,p,H,b=>by
  have:p.perturb=0:=(by simpa using b);rw[fE];show Cr m p H this (Hx c H.2.1 d)
 |k+1,p,H,b=>by
  have e:(vz m p).perturb < 32 ^ k:=by
   change p.perturb / 32 < 32 ^ k;rw[lZ]at b;show Nat.div_lt_of_lt_mul (by rw[lX];show b)
  have x:=Eh c d k (vz m p) (Head.next p) e
  show ComesM.mono (C7 p.more p rfl _ x) (by rw[H.2.2];have:=Ad m p.i;lia)
def Rg (h:Int):bits h < 2 ^ 64:=by
 unfold bits;have a:h % (2 ^ 64:Int) < 2 ^ 64:=Int.emod_lt_of_pos _ (by decide);have b:0<=h % (2 ^ 64:Int):=Int.emod_nonneg _ (by decide);lia
def K2 (b:M3 m)(c:a<=m)(h:Int):ComesM m a (10 * (13+m)) (qy m h):=
 Eh b c 13 _ (Head.start m h) (bQ (Rg h) (by decide))
def Thru (m:Nat)(ne:Nat->Prop)(j:Nat):Nat->Probe->Prop
 |0,p=>p.j=j
 |k+1,p=>p.j=j\/(ne p.j/\Thru m ne j k (jv m p))
theorem Thru.mono (b:∀i,ne i->a i):∀{k n p},Thru m ne j k p->k<=n->Thru m a j n p
 |0,0,_,h,_=>h
 |0,n+1,_,h,_=>.inl h
 |k+1,0,_,_,h=>MJ h ()
 |k+1,n+1,_,.inl h,_=>.inl h
 |k+1,n+1,_,.inr h,c=>.inr {b _ h.1,Thru.mono b h.2 ()}
end TupSet
namespace TupSet
open SetTable
def RiseA (xs:Array Nat):Prop:=xs.toList.Pairwise (· < ·)
def RiseA.lt {xs:Array Nat}(h:RiseA xs){a b v u:Nat}(c:xs[a]?=KE v)(d:xs[b]?=KE u)(e:a < b):v < u:=by
 rw[<-bP]at c d;obtain⟨f,rfl⟩:=bH.mp c;obtain⟨g,rfl⟩:=bH.mp d;show List.pairwise_iff_getElem.mp h a b f g e
theorem C8 {xs:Array Nat}(d:RiseA xs)(j:Nat):∀(f lo hi:Nat),hi - lo<=f->lo<=hi->hi<=xs.size->(∀(a v:Nat),xs[a]?=KE v->(a < lo->v < j)/\(hi<=a->j<=v))->
  ∀(a v:Nat),xs[a]?=KE v->(a < below.go xs j f lo hi->v < j)/\(below.go xs j f lo hi<=a->j<=v)
 |0,lo,hi,n,o,i,h,a,v,e=>by
  have:hi=lo:=();subst this;show h a v e
 |f+1,lo,hi,n,o,i,h,a,v,e=>by
  unfold below.go;by_cases l:lo < hi
  ·rw[MF l];dsimp only;have p:(lo+hi) / 2 < xs.size:=();have b:xs[(lo+hi) / 2]?=KE xs[(lo+hi) / 2]:=bT p;have q:xs.getD ((lo+hi) / 2) j=xs[(lo+hi) / 2]:=(by rw[cI,b];rfl);rw[q];by_cases g:xs[(lo+hi) / 2] < j
   ·rw[MF g];show C8 d j f _ _ () () i (λa v e=>{λm=>?_,(h a v e).2}) a v e;by_cases c:a=(lo+hi) / 2
    ·subst c;rw[b]at e;cases e;show g
    ·show gH (d.lt e b ()) g
   ·rw[MG g];show C8 d j f _ _ () () () (λa v e=>{(h a v e).1,λm=>?_}) a v e;by_cases c:a=(lo+hi) / 2
    ·subst c;rw[b]at e;cases e;lia
    ·have:=d.lt b e ();lia
  ·rw[MG l];show{(h a v e).1,λm=>(h a v e).2 ()}
def jw (b:RiseA xs)(j:Nat)(e:xs[a]?=KE v):(a < below xs j->v < j)/\(below xs j<=a->j<=v):=by
 show C8 b j xs.size 0 xs.size () (cP _) (aJ _) (λa v e=>{λh=>MJ h (iI _),λh=>?_}) a v e;obtain⟨c,_⟩:=fU.mp e;lia
def C9 {xs:Array Nat}(a:RiseA xs){i j:Nat}(e:xs[i]?=KE j):below xs j=i:=by
 have d:=(jw a j e).1;by_cases c:below xs j=i
 ·show c
 ·have f:below xs j < i:=by
   by_cases h:i < below xs j
   ·show MJ (d h) (fR _)
   ·lia
  obtain⟨g,_⟩:=fU.mp e;have b:xs[below xs j]?=KE xs[below xs j]:=bT ();have l:=a.lt b e f;have m:=(jw a j b).2 (aJ _);lia
structure Tb (t:eV)(n:Nat):Prop where
 mask:M3 t.mask
 dum:t.dummies=#[]
 size:t.place.size=n
 plain:t.plain=LZ
 rise:RiseA t.place
 inb:∀j∈t.place.toList,j<=t.mask
theorem Tb.fill (S:Tb t n):t.fill=n:=by unfold SetTable.fill;rw[S.dum,S.size];rfl
theorem Tb.fresh (led:Bool):Tb (SetTable.fresh 0 0 led) 0:={.inl rfl,rfl,rfl,rfl,.nil,λj a=>nomatch a}
theorem Tb.slot (S:Tb t n)(j:Nat):(∃i,t.place[i]?=KE j/\t.slot j=.live i)\/((∀i:Nat,t.place[i]?≠KE j)/\t.slot j=.empty):=by
 unfold SetTable.slot;dsimp only;by_cases h:t.place[below t.place j]?=KE j
 ·show .inl {below t.place j,h,by rw[MF (by simpa using h)]}
 ·show .inr {λi e=>h (by rw[C9 S.rise e];show e),?_};rw[MG (by simpa using h),MG (by rw[S.dum];simp[has])]
theorem Tb.live (S:Tb t n)(h:t.slot j=.live i):t.place[i]?=KE j/\i < n:=by
 rcases S.slot j with⟨b,e,a⟩ | ⟨_,a⟩
 ·rw[a]at h;cases h;show{e,by rw[<-S.size];show(fU.mp e).1}
 ·rw[a]at h;cases h
def Tb.liveOf (S:Tb t n)(h:t.place[i]?=KE j):t.slot j=.live i:=by
 rcases S.slot j with⟨a,e,b⟩ | ⟨h',_⟩
 ·have:a=i:=(by rw[<-C9 S.rise e,C9 S.rise h]);rw[b,this]
 ·show MJ h (h' i)
def Tb.noDummy (S:Tb t n)(h:t.slot j=.dummy):False:=by
 rcases S.slot j with⟨b,e,a⟩ | ⟨_,a⟩<;>(rw[a]at h;cases h)
theorem Wp:∀(m:Nat)(l:List Nat),(∀j,j < m->j∈l)->m<=l.length
 |0,l,_=>cP _
 |m+1,l,h=>by
  have a:=h m ();have:=Wp m (l.erase m) (λj b=>(List.mem_erase_of_ne ()).mpr (h j ()));rw[List.length_erase_of_mem a]at this;have:=List.length_pos_of_mem a;lia
def Tb.free {t:eV}(S:Tb t n)(b:n<=t.mask):∃j,j<=t.mask/\t.slot j=.empty:=by
 show Classical.byContradiction λa=>?_;have:=Wp (t.mask+1) t.place.toList (λj c=>?_)
 ·rw[cQ,S.size]at this;lia
 ·rcases S.slot j with⟨i,e,_⟩ | ⟨_,e⟩
  ·rw[<-bP]at e;show aR e
  ·show MJ {j,(),e} a
def Ne (t:eV)(j:Nat):Prop:=t.slot j≠.empty
theorem goM (S:Tb t n)(s:t.slot a=.empty):∀k f p,ComesM t.mask a k p->p.dummy=LY->k < f->
  (∃j,probe.go t hs h f p=KE (.empty j LY)/\t.slot j=.empty/\Thru t.mask (Ne t) j k p)\/
  (∃j i next c,probe.go t hs h f p=KE (.candidate j i next)/\t.slot j=.live i/\hs i=h/\next.dummy=LY/\0 < c/\c<=k/\ComesM t.mask a (k - c) next/\∀d m,Thru t.mask (Ne t) d m next->Thru t.mask (Ne t) d (m+c) p)
 |k,0,_,_,_,h=>MJ h ()
 |k,f+1,p,g,hd,E=>by
  unfold probe.go
  match b:t.slot p.j with
  | .empty=>show .inl {p.j,by rw[hd],b,Thru.mono (λ_ z=>z) (show Thru t.mask (Ne t) p.j 0 p from rfl) (cP _)}
  | .dummy=>show(S.noDummy b).elim
  | .live i=>
   have u:p.j≠a:=(by rintro e;rw[e,s]at b;show nomatch b);have l:Ne t p.j:=by unfold Ne;rw[b];show λz=>nomatch z
   match k,g with
   |0,g=>show MJ g u
   |k+1,g=>
    have w:ComesM t.mask a k (jv t.mask p):=g.resolve_left u;have x:(jv t.mask p).dummy=LY:=(by rw[Wo];show hd);dsimp only;rw[Wn];by_cases o:(hs i == h)=LZ
    ·rw[MF o];show .inr {p.j,i,_,1,rfl,b,by simpa using o,x,(),(),by simpa using w,λd m z=>.inr #v[l,z]}
    ·rw[MG o];rcases goM S s k f _ w x ()with⟨j,e,q,r⟩ | ⟨j,y,nx,c,e,q,r,A,G,H,C,D⟩
     ·show .inl {j,e,q,.inr #v[l,r]}
     ·show .inr ⟨j,y,nx,c+1,e,q,r,A,(),(),by rw[show k+1 - (c+1)=k - c by lia];show C,λd m z=>by
        rw[show m+(c+1)=(m+c)+1 by lia];show .inr {l,D d m z}⟩
theorem acu (S:Tb t n)(l:t.slot a=.empty):∀k f p,ComesM t.mask a k p->p.dummy=LY->k < f->k < 10 * turns t.mask->
  (qc t hs eq h f p=KE LY/\∃i,i < n/\hs i=h/\eq i=LZ)\/∃j,qc t hs eq h f p=KE (KE j)/\t.slot j=.empty/\Thru t.mask (Ne t) j k p
 |k,0,_,_,_,h,_=>MJ h ()
 |k,f+1,p,o,hd,z,hk=>by
  unfold qc;have q:t.probe hs h p=probe.go t hs h (10 * turns t.mask) p:=rfl;rw[q];rcases goM S (hs:=hs) (h:=h) l k (10 * turns t.mask) p o hd hk with⟨j,e,b,d⟩ | ⟨j,i,nx,c,e,b,d,r,A,C,s,u⟩
  ·rw[e];show .inr #v[j,rfl,b,d]
  ·rw[e];dsimp only;by_cases g:eq i=LZ
   ·rw[MF g];show .inl {rfl,i,(S.live b).2,d,g}
   ·rw[MG g];rcases acu S l (k - c) f nx s r () ()with h | ⟨m,w,x,y⟩
    ·show .inl h
    ·show .inr ⟨m,w,x,by have:=u m _ y;rw[show k - c+c=k by lia]at this;show this⟩
def Tp (S:Tb t n)(b:n<=t.mask)(hs:Nat->Int)(eq:Nat->Bool)(h:Int) :
  (qc t hs eq h 100000 (t.probeStart h)=KE LY/\∃i,i < n/\hs i=h/\eq i=LZ)\/∃j,qc t hs eq h 100000 (t.probeStart h)=KE (KE j)/\t.slot j=.empty/\Thru t.mask (Ne t) j (10 * (13+t.mask)) (t.probeStart h):=by
 obtain⟨j,c,d⟩:=S.free b;have a:t.mask<=127:=(by rcases S.mask with e | e | e<;>rw[e]<;>decide);show acu S d _ 100000 _ (K2 S.mask c h) rfl () (by unfold turns;lia)
theorem goF (S:Tb t n)(l:t.slot j=.live i)(o:hs i=h):∀k f p,Thru t.mask (Ne t) j k p->k < f->
  ∃a g next,probe.go t hs h f p=KE (.candidate a g next)/\t.slot a=.live g/\(a=j\/∃c,0 < c/\c<=k/\Thru t.mask (Ne t) j (k - c) next)
 |k,0,_,_,h=>MJ h ()
 |k,f+1,p,b,y=>by
  by_cases e:p.j=j
  ·unfold probe.go;rw[e,l];dsimp only;rw[MF (by simp[o])];show{j,i,_,rfl,l,.inl rfl}
  ·match k,b with
   |0,b=>show MJ b e
   |k+1,b=>
    obtain⟨u,q⟩:=b.resolve_left e;unfold probe.go
    match m:t.slot p.j with
    | .empty=>show MJ m u
    | .dummy=>show(S.noDummy m).elim
    | .live r=>
     dsimp only;rw[Wn];by_cases s:(hs r == h)=LZ
     ·rw[MF s];show{p.j,r,_,rfl,m,.inr {1,(),(),by simpa using q}}
     ·rw[MG s];obtain⟨a,g,nx,w,x,d⟩:=goF S l o k f _ q ();show{a,g,nx,w,x,?_};rcases d with d | ⟨c,z,A,d⟩
      ·show .inl d
      ·show .inr {c+1,(),(),by rw[show k+1 - (c+1)=k - c by lia];show d}
theorem acv (S:Tb t n)(b:t.slot j=.live i)(g:hs i=h)(l:eq i=LZ):∀k f p,Thru t.mask (Ne t) j k p->k < f->k < 10 * turns t.mask->qc t hs eq h f p=KE LY
 |k,0,_,_,h,_=>MJ h ()
 |k,f+1,p,o,s,hk=>by
  unfold qc;have q:t.probe hs h p=probe.go t hs h (10 * turns t.mask) p:=rfl;rw[q];obtain⟨u,r,nx,e,m,a⟩:=goF S b g k (10 * turns t.mask) p o hk;rw[e];dsimp only;by_cases d:eq r=LZ
  ·rw[MF d]
  ·rw[MG d];rcases a with a | ⟨c,w,x,a⟩
   ·subst a;rw[b]at m;cases m;show MJ l d
   ·show acv S b g l (k - c) f nx a () ()
end TupSet
namespace TupSet
open SetTable
def Tb.ne {t:eV}{n:Nat}(S:Tb t n)(k:Nat):Ne t k↔k∈t.place.toList:=by
 unfold Ne;rcases S.slot k with⟨i,e,a⟩ | ⟨h,a⟩
 ·rw[a];rw[<-bP]at e;show{λ_=>aR e,λ_ z=>nomatch z}
 ·rw[a];show{λz=>MJ rfl z,λz=>?_};obtain⟨i,hi⟩:=gM z;rw[bP]at hi;show MJ hi (h i)
def zo {a:Type}(xs:Array a)(p:Nat)(x:a):(insertAt xs p x).toList=xs.toList.take p++x::xs.toList.drop p:=by
 unfold insertAt;simp;show gW ∅
def Bm {a:Type}{l:List a}{p:Nat}{x y:a}:y∈l.take p++x::l.drop p↔y=x\/y∈l:=by
 rw[dO,aW];constructor
 ·rintro(h | h | h)
  ·show .inr (oI h)
  ·show .inl h
  ·show .inr (List.mem_of_mem_drop h)
 ·rintro(h | h)
  ·show .inr (.inl h)
  ·rw[<-jB p l,dO]at h;rcases h with h | h
   ·show .inl h
   ·show .inr (.inr h)
theorem Tb.put {t:eV}{n j:Nat}(S:Tb t n)(g:t.slot j=.empty)(l:j<=t.mask) :
  Tb (t.put j).1 (n+1)/\(t.put j).2<=n/\(t.put j).1.led=t.led/\(t.put j).1.moves=t.moves/\(t.put j).1.mask=t.mask/\(t.put j).1.place.toList=t.place.toList.take (t.put j).2++j::t.place.toList.drop (t.put j).2:=by
 have hb:=C5 t.place j;have f:(t.put j).1.place.toList=t.place.toList.take (below t.place j)++j::t.place.toList.drop (below t.place j):=zo _ _ _;have m:∀i:Nat,t.place[i]?≠KE j:=by
  rcases S.slot j with⟨i,e,o⟩ | ⟨h,_⟩
  ·rw[o]at g;cases g
  ·show h
 show{{S.mask,?_,?_,S.plain,?_,?_},by rw[<-S.size];show hb,rfl,rfl,rfl,f}
 ·change(if has t.dummies j then eraseAt t.dummies (below t.dummies j)else t.dummies)=#[]
  rw[S.dum,MG];simp[has]
 ·change(insertAt t.place (below t.place j) j).size=n+1;rw[Io _ _ _ hb,S.size]
 ·unfold RiseA;rw[f];have lo:∀a∈t.place.toList.take (below t.place j),a < j:=λa c=>by
   obtain⟨i,hi⟩:=gM c;rw[List.getElem?_take]at hi
   split at hi
   ·next p=>
    rw[bP]at hi;show(jw S.rise j hi).1 p
   ·cases hi
  have q:∀a∈t.place.toList.drop (below t.place j),j < a:=λa c=>by
   obtain⟨i,hi⟩:=gM c;rw[pN,bP]at hi;have r:=(jw S.rise j hi).2 ();have s:a≠j:=λe=>m _ (by rw[e]at hi;show hi);lia
  have d:=S.rise;unfold RiseA at d;rw[<-jB (below t.place j) t.place.toList,List.pairwise_append]at d;show List.pairwise_append.mpr {d.1,iB.mpr #v[q,d.2.1],λa c b hb=>?_};rcases aW.mp hb with rfl | hb
  ·show lo a c
  ·show d.2.2 a c b hb
 ·intro k hk;rw[f,Bm]at hk;rcases hk with rfl | hk
  ·show l
  ·show S.inb k hk
def Rc (t:eV)(H:List Int):Prop:=∀q∈t.place.toList.zip H,Thru t.mask (λk=>k∈t.place.toList) q.1 (10 * (14+t.mask)+9) (qy t.mask q.2)
def aff {a b:Type}{l:List a}{m:List b}{p:Nat}{x:a}{y:b}(h:l.length=m.length):(l.take p++x::l.drop p).zip (m.take p++y::m.drop p)=(l.zip m).take p++(x,y)::(l.zip m).drop p:=by
 rw[List.zip_append (by simp[h]),pL];simp only[List.zip_eq_zipWith,List.take_zipWith,List.drop_zipWith]
theorem Rc.put {t:eV}{n j:Nat}{H:List Int}{h:Int}(S:Tb t n)(b:H.length=n)(R:Rc t H)(c:t.slot j=.empty)(d:j<=t.mask)(e:Thru t.mask (Ne t) j (10 * (13+t.mask)) (qy t.mask h)) :
  Rc (t.put j).1 (H.take (t.put j).2++h::H.drop (t.put j).2):=by
 obtain⟨T,g,_,_,f,a⟩:=S.put c d;intro q hq;rw[f,a];rw[a,aff (by rw[cQ,S.size,b]),Bm]at hq;have up:∀i,i∈t.place.toList->i∈t.place.toList.take (t.put j).2++j::t.place.toList.drop (t.put j).2:=λi hi=>Bm.mpr (.inr hi);rcases hq with rfl | hq
 ·show Thru.mono (λi hi=>up i ((S.ne i).mp hi)) e ()
 ·show Thru.mono up (R q hq) (aJ _)
def Rc.find (S:Tb t n)(b:H.length=n)(R:Rc t H)(hi:H[i]?=KE h)(c:eq i=LZ) :
  qc t (λi=>(H[i]?).getD 0) eq h 100000 (t.probeStart h)=KE LY:=by
 have d:i < n:=(by rw[<-b];show(bH.mp hi).1);have hsz:i < t.place.size:=(by rw[S.size];show d);have ep:t.place[i]?=KE t.place[i]:=bT hsz;have hz:(t.place[i],h)∈t.place.toList.zip H:=by
  show aR (i:=i) ?_;rw[lN];show{by rw[bP];show ep,hi}
 have a:t.mask<=127:=(by rcases S.mask with e | e | e<;>rw[e]<;>decide);show acv S (S.liveOf ep) (by change(H[i]?).getD 0=h;rw[hi];rfl) c _ 100000 _ (Thru.mono (λk hk=>(S.ne k).mpr hk) (R _ hz) (aJ _)) () (by unfold turns;lia)
def landsP (m j:Nat):Nat->Nat->Nat->Prop
 |0,i,_=>i=j
 |l+1,i,q=>i=j\/landsP m j l (leap m i q).1 (leap m i q).2
theorem landsP.mono:∀{l k i q},landsP m j l i q->l<=k->landsP m j k i q
 |0,0,_,_,h,_=>h
 |0,k+1,_,_,h,_=>.inl h
 |l+1,0,_,_,_,h=>MJ h ()
 |l+1,k+1,_,_,.inl h,_=>.inl h
 |l+1,k+1,_,_,.inr h,hk=>.inr (landsP.mono h ())
theorem Cs:∀{l i},gq m j l i=LZ->landsP m j l i 0
 |0,i,h=>by change i=j;simpa[gq]using h
 |l+1,i,h=>by
  unfold gq at h;rw[lM]at h;rcases h with h | h
  ·show .inl (by simpa using h)
  ·show .inr ?_;have e:leap m i 0=((i * 5+1) % (m+1),0):=(by unfold leap;rfl);rw[e];show Cs h
theorem Ei (b:M3 m)(c:j<=m):∀k i q,i<=m->q < 32 ^ k->landsP m j (k+m) i q
 |0,i,q,hi,a=>by
  have:q=0:=(by simpa using a);subst this;rw[fE];show Cs (Hx b hi c)
 |k+1,i,q,hi,a=>by
  rw[show k+1+m=(k+m)+1 by lia];show .inr (Ei b c k _ _ ?_ ?_)
  ·unfold leap;have:=kI (i * 5+1+q / 32) (show 0 < m+1 by lia);dsimp only;lia
  ·change q / 32 < 32 ^ k;rw[lZ]at a;show Nat.div_lt_of_lt_mul (by rw[lX];show a)
def NeO (a:Array (Option Nat))(j:Nat):Prop:=∃k,a[j]?=KE (KE k)
theorem K3:∀k p,k<=p.more->(∀a,a < k->ne (p.j+a))->Thru m ne (p.j+k) k p
 |0,p,_,_=>rfl
 |k+1,p,hk,h=>by
  show .inr {h 0 (),?_};have e:jv m p={ p with j:=p.j+1,more:=p.more - 1 }:=(by unfold jv;rw[MF ()]);rw[e];have:=K3 (m:=m) (ne:=ne) k { p with j:=p.j+1,more:=p.more - 1 } (by change k<=p.more - 1;lia) (λa b=>by change ne (p.j+1+a);rw[show p.j+1+a=p.j+(a+1)by lia];show h (a+1) ());change Thru m ne (p.j+(k+1)) k _;rw[show p.j+(k+1)=p.j+1+k by lia];show this
theorem Hy:∀c p,p.more=c->(∀a,a<=c->ne (p.j+a))->∀k,Thru m ne j k (vz m p)->Thru m ne j (k+(c+1)) p
 |0,p,b,h,k,x=>by
  show .inr {h 0 (),?_};have e:jv m p=vz m p:=(by unfold jv;rw[MG ()];rfl);rw[e];show x
 |c+1,p,b,h,k,x=>by
  have e:jv m p={ p with j:=p.j+1,more:=p.more - 1 }:=(by unfold jv;rw[MF ()]);show .inr {h 0 (),?_};rw[e];show Hy c { p with j:=p.j+1,more:=p.more - 1 } (by change p.more - 1=c;lia) (λa d=>by change ne (p.j+1+a);rw[show p.j+1+a=p.j+(a+1)by lia];show h (a+1) ()) k x
def Tq (m i q:Nat):Probe:={ j:=i,more:=runEnd m i - i,i:=i,perturb:=q,dummy:=LY }
def Ae (m i:Nat):i<=runEnd m i:=by unfold runEnd;split<;>lia
def Ag (hi:i<=m):runEnd m i<=m:=by unfold runEnd;split<;>lia
theorem Rh (sz:b.size=m+1)(r:b[c]?=KE LY):∀l i q,i<=m->landsP m c l i q->
  ∃j,layClean.free m b (l+1) i q=KE j/\b[j]?=KE LY/\Thru m (NeO b) j (10 * l+9) (Tq m i q)
 |l,i,q,hi,d=>by
  have J:=Ae m i;have le:=Ag hi;have L:=Ad m i;have s:∀a,i+a<=runEnd m i->¬(b.getD (i+a) (KE 0)).isNone=LZ->NeO b (i+a):=λa n f=>by
   have e:b[i+a]?=KE (b[i+a]'()):=bT ();rw[cI,e]at f;cases h:b[i+a]'()with
   |none=>rw[h]at f;show MJ rfl f
   |some k=>show{k,by rw[e,h]}
  unfold layClean.free;cases g:(bE (runEnd m i+1 - i)).find? (λk=>(b.getD (i+k) (KE 0)).isNone)with
  |some k=>
   dsimp only;have hk:=List.find?_some g;have y:=List.mem_of_find?_eq_some g;have A:k < runEnd m i+1 - i:=dI.mp y;obtain⟨_,u,bs,eq,C⟩:=List.find?_eq_some_iff_append.mp g;show{i+k,rfl,?_,?_}
   ·have e:b[i+k]?=KE (b[i+k]'()):=bT ();rw[cI,e]at hk;cases h:b[i+k]'()with
    |none=>rw[e,h]
    |some z=>rw[h]at hk;cases hk
   ·show Thru.mono (λ_ z=>z) (K3 k (Tq m i q) (by change k<=runEnd m i - i;lia) (λa n=>?_)) ();show s a () (λz=>?_);have o:a∈u:=by
     have:(bE (runEnd m i+1 - i))[a]?=KE a:=cG ();have p:(bE (runEnd m i+1 - i))[u.length]?=KE k:=(by rw[eq];simp);rw[cG (by have:=(bH.mp p).1;simpa using this)]at p;cases p;rw[eq,bS n]at this;show aR this
    have:=C a o;rw[z]at this;cases this
  |none=>
   dsimp only;have f:=List.find?_eq_none.mp g;have w:∀a,a<=runEnd m i - i->NeO b (i+a):=λa n=>s a () (f a (dI.mpr ()));have x:i≠c:=λe=>by
    obtain⟨k,hk⟩:=w 0 ();rw[Nat.add_zero,e,r]at hk;cases hk
   match l,d with
   |0,d=>show MJ d x
   |l+1,d=>
    have D:=d.resolve_left x;have E:(leap m i q).1<=m:=(by unfold leap;have:=kI (i * 5+1+q / 32) (show 0 < m+1 by lia);dsimp only;lia);obtain⟨j,G,H,I⟩:=Rh sz r l _ _ E D;show{j,G,H,?_};show Thru.mono (λ_ z=>z) (Hy (runEnd m i - i) (Tq m i q) rfl w _ I) ()
end TupSet
namespace TupSet
open SetTable
theorem Ri:∀(l:List (Option Nat)),(l.filterMap id).length < l.length->LY∈l
 | [],h=>MJ h (fR _)
 |none::l,_=>aQ
 |some a::l,h=>aP _ (Ri l (by simpa using h))
theorem Dc {k:Nat}:∀(l:List (Option Nat))(j:Nat),l[j]?=KE LY->((l.set j (KE k)).filterMap id).Perm (k::l.filterMap id)
 | [],j,h=>by simp at h
 |a::l,0,h=>by
  have:a=LY:=(by simpa using h);subst this;show .refl _
 |none::l,j+1,h=>by
  have:=Dc (k:=k) l j (by simpa using h);simpa using this
 |some a::l,j+1,h=>by
  have:=Dc (k:=k) l j (by simpa using h);simp only[iC,fY,id];show(this.cons a).trans (.swap _ _ _)
structure OwI (m:Nat)(ow:Array (Option Nat))(k:Nat)(hs:List Int):Prop where
 sz:ow.size=m+1
 perm:(ow.toList.filterMap id).Perm (bE k)
 thru:∀j k',ow[j]?=KE (KE k')->∃h,hs[k']?=KE h/\Thru m (NeO ow) j (10 * (14+m)+9) (qy m h)
def xp (m:Nat)(a:Option (Array (Option Nat)×Nat))(h:Int):Option (Array (Option Nat)×Nat):=do
 let (owner,k) <-a
 let j <-layClean.free m owner (turns m) (bits h % (m+1)) (bits h)
 pure (owner.setIfInBounds j (KE k),k+1)
def Oj (m:Nat)(hs:Array Int):layClean m hs=(hs.toList.foldl (xp m) (KE (rA (m+1) LY,0))).map (·.1):=by
 unfold layClean;rw[<-Array.foldl_toList];rfl
def OwI.step {m k:Nat}{f:Array (Option Nat)}{hs:List Int}{h:Int}(u:M3 m)(O:OwI m f k hs)(hk:k<=m)(w:hs[k]?=KE h):∃q,xp m (KE (f,k)) h=KE (q,k+1)/\OwI m q (k+1) hs:=by
 have x:(f.toList.filterMap id).length=k:=(by rw[O.perm.length_eq,cA]);obtain⟨g,l⟩:=gM (Ri f.toList (by rw[x,cQ,O.sz];lia));rw[bP]at l;have d:g<=m:=(by have:=(fU.mp l).1;rw[O.sz]at this;lia);have r:bits h % (m+1)<=m:=(by have:=kI (bits h) (show 0 < m+1 by lia);lia);obtain⟨j,y,n,A⟩:=Rh O.sz l (14+m) _ (bits h) r ((Ei u d 13 _ _ r (bQ (Rg h) (by decide))).mono ());have C:turns m=14+m+1:=(by unfold turns;lia);have o:j < f.size:=(fU.mp n).1;have up:∀i,NeO f i->NeO (f.setIfInBounds j (KE k)) i:=λi ⟨p,hi⟩=>by
  by_cases c:i=j
  ·rw[c,n]at hi;cases hi
  ·show{p,by rw[Array.getElem?_setIfInBounds_ne (λz=>c z.symm)];show hi}
 show{f.setIfInBounds j (KE k),?_,?_,?_,?_}
 ·unfold xp;dsimp only[Option.bind_eq_bind,Option.bind_some];rw[C,y];rfl
 ·rw[Array.size_setIfInBounds];show O.sz
 ·rw[Array.toList_setIfInBounds];show(Dc _ _ (by rw[bP];show n)).trans ?_;rw[kD];show(O.perm.cons k).trans (List.perm_append_singleton _ _).symm
 ·intro s p e;by_cases c:s=j
  ·subst c;rw[Array.getElem?_setIfInBounds_self_of_lt o]at e;cases e;show{h,w,Thru.mono up A (aJ _)}
  ·rw[Array.getElem?_setIfInBounds_ne (λz=>c z.symm)]at e;obtain⟨h',a,b⟩:=O.thru s p e;show{h',a,Thru.mono up b (aJ _)}
theorem K4 (d:M3 m)(c:hs.length<=m+1):∀rest dn a,hs=dn++rest->OwI m a dn.length hs->∃b,rest.foldl (xp m) (KE (a,dn.length))=KE (b,hs.length)/\OwI m b hs.length hs
 | [],dn,a,e,O=>by rw[bX]at e;subst e;show#v[a,rfl,O]
 |h::rest,dn,a,e,O=>by
  obtain⟨b,f,g⟩:=O.step (h:=h) d (by rw[e]at c;simp at c;lia) (by rw[e];simp);rw[oB,f];have:=K4 d c rest (dn++[h]) b (by rw[e];simp) (by rw[aI];show g);rw[aI]at this;show this
def aji (b:M3 m)(c:hs.length<=m+1):∃a,layClean m hs.toArray=KE a/\OwI m a hs.length hs:=by
 have O:OwI m (rA (m+1) LY) 0 hs:={by simp,by simp,λj f e=>by rw[Array.getElem?_replicate]at e;split at e<;>cases e};obtain⟨a,e,d⟩:=K4 b c hs [] _ rfl O;show{a,?_,d};rw[Oj];change oJ _ (hs.foldl (xp m) (KE (rA (m+1) LY,([]:List Int).length)))=_;rw[e];rfl
def Wq {t:eV}{H:List Int}(D:t.plain=LZ)(E:H.length=n)(o:M3 (sizeAbove w - 1))(G:n<=sizeAbove w - 1) :
  ∃t' order,t.relaid H.toArray w=KE (t',order)/\Tb t' n/\t'.mask=sizeAbove w - 1/\t'.led=t.led/\order.toList.Perm (bE n)/\Rc t' (order.toList.map λk=>(H[k]?).getD 0):=by
 generalize I:sizeAbove w - 1=m at o G;obtain⟨c,e,O⟩:=aji (hs:=H) o ();rw[E]at O;have J:(bE (m+1)).map (λj=>c.getD j LY)=c.toList:=by
  apply eX;intro i;rw[aK,bP (xs:=c)];by_cases h:i < m+1
  ·rw[cG h,bT (by rw[O.sz];show h)];simp[cI,bT (show i < c.size by rw[O.sz];show h)]
  ·rw[bR (by simpa using h),Array.getElem?_eq_none (by rw[O.sz];lia)];rfl
 generalize l:(bE (m+1)).filterMap (λj=>(c.getD j LY).map (j,·))=live;have u:∀q∈live,q.1<=m/\c[q.1]?=KE (KE q.2):=λq d=>by
  rw[<-l]at d;obtain⟨j,f,p⟩:=List.mem_filterMap.mp d;have y:=dI.mp f;obtain⟨k,hk,rfl⟩:=dN.mp p;show{by change j<=m;lia,?_};change c[j]?=KE (KE k);have g:c[j]?=KE (c[j]'(by rw[O.sz];show y)):=bT (by rw[O.sz];show y);rw[cI,g]at hk;rw[g];show ML KE hk
 have A:live.map (·.1)=(bE (m+1)).filter λj=>(c.getD j LY).isSome:=by
  rw[<-l,List.map_filterMap,<-List.filterMap_eq_filter];congr 1
  funext j
  have key:∀z:Option Nat,oJ (λx=>x.fst) (oJ (λx=>(j,x)) z)=if z.isSome=LZ then KE j else LY:=λz=>by cases z<;>rfl
  unfold Option.guard;rw[key]
 have C:live.map (·.2)=c.toList.filterMap id:=by
  rw[<-J,<-l,List.map_filterMap,List.filterMap_map];congr 1
  funext j
  change(oJ (λx=>(j,x)) (c.getD j LY)).map _=id (c.getD j LY);generalize c.getD j LY=z;cases z<;>rfl
 have L:live.length=n:=by
  have:=ML tR C;rw[aC,O.perm.length_eq,cA]at this;show this
 have N:t.relaid H.toArray w=KE ({ mask:=m,place:=(live.map (·.1)).toArray,dummies:=#[],finger:=t.finger,led:=t.led,moves:=t.movedTo m,plain:=t.plain },(live.map (·.2)).toArray):=by
  unfold SetTable.relaid SetTable.laid;rw[I,e];change KE _=KE _;rw[l]
 have Q:∀j,j∈live.map (·.1)↔NeO c j:=λj=>by
  rw[A,iG,List.mem_range];constructor
  ·intro r;obtain⟨f,hs⟩:=r;have g:c[j]?=KE (c[j]'(by rw[O.sz];show f)):=bT (by rw[O.sz];show f);rw[cI,g]at hs;obtain⟨k,hk⟩:=lT.mp hs;show{k,by rw[g];show ML KE hk}
  ·intro r;obtain⟨k,hk⟩:=r;have:=(fU.mp hk).1;rw[O.sz]at this;show{this,by rw[cI,hk];rfl}
 show{_,_,N,{o,rfl,by simp[L],D,?_,λj f=>?_},rfl,rfl,?_,?_}
 ·change((live.map (·.1)).toArray).toList.Pairwise (· < ·);rw[List.toList_toArray,A];show List.pairwise_lt_range.filter _
 ·obtain⟨q,d,rfl⟩:=dA.mp (show j∈live.map (·.1)from f);show(u q d).1
 ·change(live.map (·.2)).Perm _;rw[C];show O.perm
 ·intro q d;change Thru m (λk=>k∈live.map (·.1)) q.1 (10 * (14+m)+9) (qy m q.2);have hz:q∈(live.map (·.1)).zip ((live.map (·.2)).map λk=>(H[k]?).getD 0):=d;rw[dQ,List.zip_map']at hz;obtain⟨z,s,rfl⟩:=dA.mp hz;obtain⟨h',a,b⟩:=O.thru _ _ (u z s).2;change Thru m _ z.1 _ (qy m ((H[z.2]?).getD 0));rw[a];show Thru.mono (λi hi=>(Q i).mpr hi) b (aJ _)
end TupSet
namespace TupG
open SetTable TupSet
def Pin (m:Nat)(p:Probe):Prop:=p.j+p.more<=m
def Pin.adv (h:Pin m p):Pin m (jv m p):=by
 unfold jv Pin at *
 split
 ·change p.j+1+(p.more - 1)<=m;lia
 ·change(leap m p.i p.perturb).1+(runEnd m (leap m p.i p.perturb).1 - (leap m p.i p.perturb).1)<=m;have a:(leap m p.i p.perturb).1<=m:=(by unfold leap;have:=kI (p.i * 5+1+p.perturb / 32) (show 0 < m+1 by lia);dsimp only;lia);have:=Ag a;have:=Ae m (leap m p.i p.perturb).1;lia
def Pin.start (m:Nat)(h:Int):Pin m (qy m h):=by
 change bits h % (m+1)+(runEnd m (bits h % (m+1)) - bits h % (m+1))<=m;have a:bits h % (m+1)<=m:=(by have:=kI (bits h) (show 0 < m+1 by lia);lia);have:=Ag a;have:=Ae m (bits h % (m+1));lia
theorem Pin.thru:∀{k p},Pin m p->Thru m ne j k p->j<=m
 |0,p,h,t=>by have:p.j=j:=t;unfold Pin at h;lia
 |k+1,p,h,.inl t=>by unfold Pin at h;lia
 |k+1,p,h,.inr t=>Pin.thru h.adv t.2
def candG (S:Tb t n):∀f,probe.go t hs h f p=KE (.candidate j i nx)->t.slot j=.live i/\i < n/\hs i=h:=by
 intro f
 induction f generalizing p with
 |zero=>intro e;show nomatch e
 |succ f c=>
  intro e;unfold probe.go at e
  match a:t.slot p.j with
  | .empty=>rw[a]at e;show nomatch e
  | .dummy=>show(S.noDummy a).elim
  | .live d=>
   rw[a]at e;dsimp only at e;by_cases b:(hs d == h)=LZ
   ·rw[MF b]at e;injection e with e;injection e with g l m;subst g;subst l;show{a,(S.live a).2,by simpa using b}
   ·rw[MG b]at e;show c e
def ye (S:Tb t n)(a:n<=t.mask):t.fits n=LZ:=by
 unfold SetTable.fits;rw[S.fill,S.size];simp;lia
def gaveG (S:Tb t n):t.gaveWay=MA:=by
 unfold SetTable.gaveWay;rcases S.mask with e | e | e<;>rw[e]<;>rfl
section
variable {prog:aV}{w:bA}{A:bV}{E:aE->aH->Prop}{s:aH}
def Z4 (b:s.heap.get? S=KE o)(hd:o.data=.set a ep t)(d:t.fits a.size=LZ)
  (hw:¬kJ c > sizeLine) (e:t.relaid (a.map (·.1)) c=KE (t',order)) (hz:(order.filterMap (a[·]?)).size=a.size) (f:a.size < scanBound)
  (h:Q Unit.unit { s with heap:=s.heap.update S (lB (order.filterMap (a[·]?)) t') }):aL (aX prog w) A (setRelay S c) Q E s:=by
 unfold setRelay;show aA (fX b hd d ?_);dsimp only;rw[MG hw];show aA ?_;rw[e];have g:((order.filterMap (a[·]?)).size != a.size)=MA:=(by rw[hz];simp);change aL (aX prog w) A (ite (((order.filterMap (a[·]?)).size != a.size)=LZ) _ _) _ E s;rw[g,MG aO];show wpAny_pure ?_;show wpAny_storeSet_of b hd h (fits_of_scanBound (by rw[hz];show f))
theorem v7
  (H:A.units < dJ) (u:s.heap.get? S=KE o) (hd:o.data=.set c ep t) (Sm:Tb t xs.length) (L:xs.length<=t.mask) (q:EntsOf prog w s.heap c.toList xs)
  (z:cJ (cB prog w) s.heap x a) (h:Int):∀f m r,
   qc t (λi=>((xs[i]?).map (d4 prog w)).getD 0) (λi=>decide (xs[i]?=KE x)) h f (m.getD (t.probeStart h))=KE r->
   (match r with | none=>Q (.there LY) s | some j=>Q (.free j MA) s)->
   aL (aX prog w) A (setSearchFrom S (.ref a) h LZ f m) Q E s
 |0,_,_,e,_=>nomatch e
 |f+1,m,r,e,C=>by
  have N:=q.length;rw[cQ]at N;have O:t.fits c.size=LZ:=(by rw[N];show ye Sm L);unfold setSearchFrom;show aA (fX u hd O ?_);dsimp only;rw[gaveG Sm];simp only[bL,if_false];unfold qc at e;have I:∀g:Nat->Int,(∀i,g i=((c[i]?).map (·.1)).getD 0)->g=λi=>((xs[i]?).map (d4 prog w)).getD 0:=λg I=>funext λi=>by
   rw[I i,<-q.hash i,bP]
  match n:t.probe (λi=>((xs[i]?).map (d4 prog w)).getD 0) h (m.getD (t.probeStart h))with
  |none=>rw[n]at e;show nomatch e
  |some (.empty j (KE d))=>rw[n]at e;show nomatch e
  |some (.empty j LY)=>
   rw[n]at e;injection e with e;subst e;have T:∀g:Nat->Int,(∀i,g i=((c[i]?).map (·.1)).getD 0)->t.probe g h (m.getD (t.probeStart h))=KE (.empty j LY):=λg U=>(by rw[I g U];show n);rw[T]
   ·dsimp only;show wpAny_pure C
   ·intro i;rfl
  |some (.candidate j i next)=>
   rw[n]at e;dsimp only at e;have T:∀g:Nat->Int,(∀i,g i=((c[i]?).map (·.1)).getD 0)->t.probe g h (m.getD (t.probeStart h))=KE (.candidate j i next):=λg U=>by rw[I g U];show n
   rw[T]
   rotate_left
   ·intro i;rfl
   dsimp only;have Y:=candG Sm (hs:=λi=>((xs[i]?).map (d4 prog w)).getD 0) (h:=h) (p:=m.getD (t.probeStart h)) (j:=j) (i:=i) (nx:=next) (10 * turns t.mask) n
   have hi:i < c.size:=(by rw[N];show Y.2.1);have D:c[i]?=KE c[i]:=bT hi;obtain⟨y,J,G⟩:=q.get (i:=i) (e:=c[i]) (by rw[bP];show D);obtain⟨_,b,hb,KR⟩:=G;have zY:∀v∈List.map (λx=>x.snd) (Array.filter (λx=>x.fst == h) c).toList,∃b y,v=.ref b/\cJ (cB prog w) s.heap y b:=by
    intro v hv;obtain⟨e',BW,rfl⟩:=dA.mp hv;rw[Array.toList_filter]at BW;have hm:=(iG.mp BW).1;obtain⟨k,hk⟩:=gM hm;obtain⟨y',_,_,b',hb',wG⟩:=q.get hk;show#v[b',y',hb',wG]
   generalize hEi:c[i]=ei at D hb;obtain⟨h1,v1⟩:=ei;dsimp only at hb;subst hb;rw[D];show acs ?_ ?_
   ·show aA (Tn z zY ?_);simp only[bL,if_false];show aA (dB (lY H KR z ?_));show aA (fX u hd O ?_);dsimp only;by_cases l:y=x
    ·rw[MI l];subst l;rw[J]at e;simp only[decide_true,if_true]at e;injection e with e;subst e;simp only[sG,if_true];show wpAny_pure C
    ·rw[MH l];simp only[mH,bL,if_false];have EL:t.sameMemory t.moves t.mask=KE LZ:=(by unfold SetTable.sameMemory;simp);rw[EL];simp only[if_true];rw[Y.1];dsimp only;rw[D];dsimp only;show aA (wpAny_isSame_ref_self ?_);simp only[if_true];show aA (wpAny_pure ?_);dsimp only;rw[J]at e;rw[MG (by simpa using l)]at e;show v7 H u hd Sm L q z h f (KE next) r e C
   ·show aA (dB (lY H KR z ?_));show aA (fX u hd O ?_);dsimp only;by_cases l:y=x
    ·rw[MI l];subst l;rw[J]at e;simp only[decide_true,if_true]at e;injection e with e;subst e;simp only[sG,if_true];show wpAny_pure C
    ·rw[MH l];simp only[mH,bL,if_false];have EL:t.sameMemory t.moves t.mask=KE LZ:=(by unfold SetTable.sameMemory;simp);rw[EL];simp only[if_true];rw[Y.1];dsimp only;rw[D];dsimp only;show aA (wpAny_isSame_ref_self ?_);simp only[if_true];show aA (wpAny_pure ?_);dsimp only;rw[J]at e;rw[MG (by simpa using l)]at e;show v7 H u hd Sm L q z h f (KE next) r e C
structure TOk (prog:aV)(w:bA)(t:eV)(xs:List (List Int)):Prop where
 tb:Tb t xs.length
 room:xs.length * 5 < t.mask * 3
 rc:Rc t (xs.map (d4 prog w))
 nd:xs.Nodup
def Ec (prog:aV)(w:bA)(h0 h:MC)(S:MB)(t:eV)(xs:List (List Int)):Prop:=
 ∃o a ep,h.get? S=KE o/\o.ExactSet/\o.data=.set a ep t/\TOk prog w t xs/\EntsOf prog w h0 a.toList xs
def TOk.fit (T:TOk prog w t xs):xs.length<=t.mask:=by have:=T.room;lia
theorem EntsOf.hashes:∀{a xs},EntsOf prog w h a xs->a.map (·.1)=xs.map (d4 prog w)
 | [],[],_=>rfl
 |e::a,x::xs,z=>by rw[bB,bB,z.1.1,EntsOf.hashes z.2]
 | [],_::_,z=>z.elim
 |_::_,[],z=>z.elim
theorem EntsOf.pick (E:EntsOf prog w h a xs):∀(p:List Nat),(∀i∈p,i < xs.length)->EntsOf prog w h (p.filterMap (a[·]?)) (p.map λi=>xs.getD i [])
 | [],_=>trivial
 |i::p,c=>by
  have hi:=c i aQ;have g:=E.length;have e:a[i]?=KE a[i]:=aB ();obtain⟨x,d,b⟩:=E.get e;rw[fY,e,bB];show{?_,EntsOf.pick E p λj f=>c j (aP _ f)};have:xs.getD i []=x:=(by rw[cF,d];rfl);rw[this];show b
theorem zp {b:Type}{l:List b}:∀(p:List Nat),(∀i∈p,i < l.length)->(p.filterMap (l[·]?)).length=p.length
 | [],_=>rfl
 |i::p,a=>by
  rw[fY,aB (a i aQ)];simp only[aZ];rw[zp p λj c=>a j (aP _ c)]
def Ws (xs:List (List Int)):(bE xs.length).map (λi=>xs.getD i [])=xs:=by
 apply eX;intro i;rw[aK];by_cases h:i < xs.length
 ·rw[cG h];simp[cF,aB h]
 ·rw[bR (by simpa using h),bR ()];rfl
def wp_add {h0:MC}{t:eV}{xs:List (List Int)}{x:List Int}
  (U:A.units < dJ) (hK:∀b o,h0.get? b=KE o->s.heap.get? b=KE o) (hS:Ec prog w h0 s.heap S t xs) (hn:xs.length<=75) (FX:cJ (cB prog w) h0 x a)
  (h:∀(b:Bool)(h':MC) t' Y,dZ S s.heap h'->Ec prog w h0 h' S t' Y->t'.led=t.led->(∀y,y∈Y↔y=x\/y∈xs)->Y.length<=xs.length+1->Q b { s with heap:=h',toks:=s.toks+(x.length+1) }) :
  aL (aX prog w) A (setAdd S (.ref a)) Q E s:=by
 obtain⟨o,f,ep,l,hex,hd,T,L⟩:=hS;have N:=qd hK FX;have hE:EntsOf prog w s.heap f.toList xs:=L.imp λy b=>qd hK;have q:=hE.length;rw[cQ]at q;have yL:t.fits f.size=LZ:=(by rw[q];show ye T.tb T.fit);unfold setAdd;show dB ?_;show aA (wpAny_pyHash_tuple U N ?_);unfold setAddHashed;show dB ?_;unfold setAddHashedIn;show aA (fX (s:={ s with toks:=s.toks+(x.length+1) }) l hd yL ?_);dsimp only;have hb:byScan (.ref a) f=MA:=rfl;rw[hb];simp only[bL,if_false];have hf:(λ(i:Nat)=>(((xs.map (d4 prog w))[i]?).getD 0))=λ(i:Nat)=>((xs[i]?).map (d4 prog w)).getD 0:=by
  funext i;rw[aK]
 unfold setSearch;by_cases O:x∈xs
 ·obtain⟨i,hi⟩:=gM O;have hr:qc t (λi=>((xs[i]?).map (d4 prog w)).getD 0) (λi=>decide (xs[i]?=KE x)) (d4 prog w x) 100000 (t.probeStart (d4 prog w x))=KE LY:=by
   rw[<-hf];show Rc.find T.tb (aC _) T.rc (i:=i) (by rw[aK,hi];rfl) (by simp[hi])
  show aA (v7 (s:={ s with toks:=s.toks+(x.length+1) }) U l hd T.tb T.fit hE N (d4 prog w x) 100000 LY LY hr ?_);dsimp only;show wpAny_pure (h MA s.heap t xs (pZ _ _) #v[o,f,ep,l,hex,hd,T,L] rfl (λy=>⟨λz=>.inr z,λz=>by rcases z with rfl | z;show O;show z⟩) ())
 ·rcases Tp T.tb T.fit (λi=>((xs[i]?).map (d4 prog w)).getD 0) (λi=>decide (xs[i]?=KE x)) (d4 prog w x)with⟨_,i,_,_,hq⟩ | ⟨j,hr,he,KS⟩
  ·show MJ (aR (of_decide_eq_true hq)) O
  show aA (v7 (s:={ s with toks:=s.toks+(x.length+1) }) U l hd T.tb T.fit hE N (d4 prog w x) 100000 LY (KE j) hr ?_);have hj:j<=t.mask:=Pin.thru (Pin.start _ _) KS;dsimp only;show aA (fX (s:={ s with toks:=s.toks+(x.length+1) }) l hd yL ?_);dsimp only;obtain⟨Sp,hpn,zO,hmv,CK,wM⟩:=T.tb.put he hj;have IS:=Rc.put (h:=d4 prog w x) T.tb (aC _) T.rc he hj KS;rw[Sp.plain];simp only[if_true];show aA (Fq (s:={ s with toks:=s.toks+(x.length+1) }) N ?_);simp only[if_true];generalize hes:insertAt f (t.put j).2 (sU (cB prog w) x,bY a)=d;generalize r:xs.take (t.put j).2++x::xs.drop (t.put j).2=c;have u:d.toList=f.toList.take (t.put j).2++(d4 prog w x,bY a)::f.toList.drop (t.put j).2:=(by rw[<-hes];show zo _ _ _);have C:EntsOf prog w h0 d.toList c:=by
   rw[u,<-r];show(L.take _).app {#v[rfl,a,rfl,FX],L.drop _}
  have D:c.length=xs.length+1:=(by rw[<-r];simp;lia);have hsz:d.size=f.size+1:=(by have:=C.length;rw[cQ,D]at this;lia);have AU:∀y,y∈c↔y=x\/y∈xs:=λy=>(by rw[<-r];show Bm);have KU:c.Nodup:=by
   rw[<-r];have p:(xs.take (t.put j).2++x::xs.drop (t.put j).2).Perm (x::xs):=by
    show List.perm_middle.trans (List.Perm.cons _ ?_);rw[jB]
   show p.nodup_iff.mpr (gB.mpr #v[O,T.nd])
  have G:c.map (d4 prog w)=(xs.map (d4 prog w)).take (t.put j).2++d4 prog w x::(xs.map (d4 prog w)).drop (t.put j).2:=by
   rw[<-r,bI,bB,nE,nG]
  rw[<-G]at IS;generalize (t.put j).1=g at Sp zO hmv CK wM IS;have IT:Tb g c.length:=(by rw[D];show Sp);have KW:d.size < scanBound:=(by rw[hsz,q];change _ < 4096;lia);have hg:(s.heap.update S (lB d g)).get? S=KE { o with data:=.set d (ep+1) g }:=by
   have:=gF (lB d g) l (by rw[sX _ _ hd];rfl);rw[sX _ _ hd]at this;show this
  have FD:=eI s.heap S (lB d g);show aA (wpAny_storeSet_of (s:={ s with toks:=s.toks+(x.length+1) }) l hd ?_ (fits_of_scanBound KW));cases m:g.tooFull with
  |false=>
   simp only[mH,bL,if_false];show wpAny_pure (h LZ _ g c FD {_,_,_,hg,hex,rfl,{IT,?_,IS,KU},C} zO AU ());unfold SetTable.tooFull at m;rw[IT.fill]at m;have:=of_decide_eq_false m;lia
  |true=>
   have EN:(xs.length+1) * 5>=t.mask * 3:=by
    unfold SetTable.tooFull at m;rw[Sp.fill,CK]at m;show of_decide_eq_true m
   have KY:=T.room;obtain⟨KZ,K',FF,DU⟩:¬kJ (mK (f.size+1)) > sizeLine/\M3 (kJ (mK (f.size+1)) - 1)/\c.length<=kJ (mK (f.size+1)) - 1/\c.length * 5 < (kJ (mK (f.size+1)) - 1) * 3:=by
    rw[q,D];rcases T.tb.mask with e | e | e
    ·have:xs.length=4:=(by rw[e]at EN KY;lia);rw[this];show{by decide +kernel,.inr (.inl ⋯),by decide +kernel,by decide +kernel}
    ·have:xs.length=18:=(by rw[e]at EN KY;lia);rw[this];show{by decide +kernel,.inr (.inr ⋯),by decide +kernel,by decide +kernel}
    ·rw[e]at EN;lia
   generalize mK (f.size+1)=wd at KZ K' FF DU;have heh:d.map (·.1)=(c.map (d4 prog w)).toArray:=by
    apply Array.toList_inj.mp;rw[Array.toList_map,EntsOf.hashes C]
   obtain⟨I,order,er,T2,em2,el2,pm,rc2⟩:=Wq (t:=g) (n:=c.length) (H:=c.map (d4 prog w)) Sp.plain (aC _) K' FF;have EO:∀i∈order.toList,i < c.length:=λi hi=>(by simpa using pm.mem_iff.mp hi);have AN:=C.length;have DV:order.toList.length=c.length:=(by rw[pm.length_eq,cA]);have LA:(order.filterMap (d[·]?)).toList=order.toList.filterMap (d.toList[·]?):=by
    rw[Array.toList_filterMap];congr 1
    funext i
    rw[bP]
   have hz:(order.filterMap (d[·]?)).size=d.size:=by
    rw[<-cQ,LA,zp _ (by rw[AN];show EO),DV,<-AN,cQ]
   have J:(order.toList.map λi=>c.getD i []).Perm c:=by
    have:=pm.map (λi=>c.getD i []);rw[Ws]at this;show this
   simp only[Bool.not_false,sG,if_true];show aA (Z4 (s:={ s with heap:=s.heap.update S (lB d g),toks:=s.toks+(x.length+1) }) (t':=I) (order:=order) hg rfl (by rw[hsz,q,<-D];show ye IT (by rw[CK,D];have:=T.fit;lia)) KZ (by rw[heh];show er) hz KW ?_);show wpAny_pure ?_;have ER:((s.heap.update S (lB d g)).update S (lB (order.filterMap (d[·]?)) I)).get? S=KE { o with data:=.set (order.filterMap (d[·]?)) (ep+1+1) I }:=by
    have:=gF (lB (order.filterMap (d[·]?)) I) hg (by rw[sX _ _ rfl];rfl);rw[sX _ _ rfl]at this;show this
   show h LZ _ I (order.toList.map λi=>c.getD i []) (FD.trans (eI _ S _)) {_,_,_,ER,hex,rfl,{?_,?_,?_,J.nodup_iff.mpr KU},?_} (el2.trans zO) (λy=>J.mem_iff.trans (AU y)) (by rw[J.length_eq];lia)
   ·rw[J.length_eq];show T2
   ·rw[J.length_eq,em2];show DU
   ·have e3:(order.toList.map λi=>c.getD i []).map (d4 prog w)=order.toList.map λk=>((c.map (d4 prog w))[k]?).getD 0:=by
     rw[dQ];show lK λk hk=>?_;have wG:=EO k hk;change d4 prog w (c.getD k [])=_;rw[aK,cF,aB wG];rfl
    rw[e3];show rc2
   ·rw[LA];show EntsOf.pick C _ EO
end
end TupG
namespace TupG
open SetTable TupSet PyProof.Rows
def Got (prog:aV)(w:bA)(h0 h:MC)(S:MB)(led:Bool)(Y:List (List Int)):Prop:=∃t xs,Ec prog w h0 h S t xs/\t.led=led/\(∀y,y∈xs↔y∈Y)/\xs.length<=Y.length
section
variable {prog:aV}{w:bA}{A:bV}{R:Result->aH->Prop}{I:MB}{fp wr:List MB}{G:Array rS->Array rS->Prop}{n:Nat}{P:Nat->aE->Prop}{St:Nat->aH->Prop}
def Wu (W:WalksS prog w A.in1 I fp wr G n P St)(S:MB)(Q:S ∉ fp)(h0:MC)(L:List (List Int))(led:Bool)(r:n=L.length)(h3:n<=76)(hu:A.in1.units < dJ)
  (hP:∀i v,P i v->∃a x,v=.ref a/\L[i]?=KE x/\cJ (cB prog w) h0 x a) (hS0:h0.get? S=LY) (hwr:∀b∈wr,h0.get? b=LY) :
  ∀k i s,n - i=k->i<=n->St i s->(∀b o,h0.get? b=KE o->s.heap.get? b=KE o)->
   Got prog w h0 s.heap S led (L.take i)->
   (∀s',Moved (S::wr) G s s'->(∀b o,h0.get? b=KE o->s'.heap.get? b=KE o)->Got prog w h0 s'.heap S led L->R (.ok (.ret .none)) s')->
   lH (aX prog w) A (.builtin "set.update.loop" {[.ref S,.ref I],[]}) R s:=by
 have u:S ∉ wr:=λh=>Q (W.sub _ h);have T:∀b∈wr,b∈S::wr:=λb c=>aP _ c;have U:∀{s s'},Moved wr G s s'->(∀b o,h0.get? b=KE o->s.heap.get? b=KE o)->∀b o,h0.get? b=KE o->s'.heap.get? b=KE o:=λd f b o c=>
  d.heap b o (λhw=>by rw[hwr b hw]at c;show nomatch c) (f b o c)
 have DX:∀{s s':aH}{Y},Moved wr G s s'->Got prog w h0 s.heap S led Y->Got prog w h0 s'.heap S led Y:=λd g=>by
  obtain⟨t,xs,⟨o,es,ep,ho,rest⟩,r2⟩:_:=g;show{t,xs,{o,es,ep,d.heap S _ u ho,rest},r2}
 intro k
 induction k with
 |zero=>
  intro i s hk hi z f g hR;have CJ:i=n:=();subst CJ;show kG PyProof.Rows.F.entry_set_update_loop ?_;rw[kZ iX _];change aL _ A.in1 (gU (.ref I) >>= _) _ _ s;show aA (W.done s _ _ z λs' d=>?_);change aL _ A.in1 (ret eB) _ _ s';have q:=DX d g;rw[r,cX]at q;show wpAny_pure (hR s' (d.mono T) (U d f) q)
 |succ k ih=>
  intro i s hk hi z f g hR;have zC:i < n:=();show kG PyProof.Rows.F.entry_set_update_loop ?_;rw[kZ iX _];change aL _ A.in1 (gU (.ref I) >>= _) _ _ s;show aA (W.item i s _ _ zC z λv s' C j d=>?_);obtain⟨a,x,rfl,D,E⟩:_:=hP i v C;have q:=DX d g;have LB:=U d f;obtain⟨t,xs,hT,zO,AU,H⟩:_:=q;rw[bN]at H;change aL _ A.in1 (jZ [bY a] (setAdd S (.ref a)) >>= _) _ _ s';show aA (dB ?_);show TupG.wp_add hu LB hT () E λb h' t' BH J LC AA CV hx2=>?_;have N:Got prog w h0 h' S led (L.take (i+1)):=⟨t',BH,LC,AA.trans zO,λy=>by
    rw[CV,AU,cV,D];simp only[Option.toList_some,dO,bC];show Or.comm,by rw[bN];omega⟩
  have O:∀b o,h0.get? b=KE o->h'.get? b=KE o:=λb o c=>by
   rw[J.2 b (λe=>by rw[e,hS0]at c;show nomatch c)];show LB b o c
  show wpAny_pure {plainId_quiet iX _,ih (i+1) _ () zC (W.frame _ s' _ _ j (nK _ _) λb c o e=>?_) O N λFN l m p=>?_}
  ·rw[J.2 b (λh:b=S=>Q (by rw[<-h];show c))];show e
  ·show hR FN (Moved.trans W.gtrans ((d.mono T).then_heap (nK _ _) λb o c e=>?_) l) m p;rw[J.2 b (λh:b=S=>c (by rw[h];show aQ))];show e
end
section
variable {prog:aV}{w:bA}{A:bV}{E:aE->aH->Prop}{s:aH}
def Wv (h0 h:MC)(S:MB)(led:Bool)(a:h.get? S=KE { cls:=.type "set",dict:=LY,data:=.set #[] 0 (.fresh 0 0 led) }):Got prog w h0 h S led []:=
 {_,[],{_,_,_,a,#v[rfl,rfl,rfl],rfl,{Tb.fresh led,by change 0 * 5 < 7 * 3;omega,(λq b=>nomatch b),gL},trivial},rfl,λy=>uP,aJ _}
def call_setG
  (Y:∀b o,h0.get? b=KE o->s.heap.get? b=KE o) (hh:A.handled=LY) (hu:A.units+8 < dJ) (hl:s.heap.IsList l items) (hL:items.size=L.length) (h3:L.length<=76)
  (hi:∀(i:Nat)(v:aE),items[i]?=KE v->∃a x,v=.ref a/\L[i]?=KE x/\cJ (cB prog w) h0 x a)
  (h:∀(h':MC)(C:Nat),Got prog w h0 h' ‹s› (Ed w) L->(∀b o,s.heap.get? b=KE o->h'.get? b=KE o)->Q (.ref ‹s›) { s with heap:=h',toks:=C }) :
  aL (aX prog w) A (call (.type "set") [.ref l]) Q E s:=by
 have LD:∀b,‹s›<=b->h0.get? b=LY:=λb p=>by
  cases e:h0.get? b with
  |none=>rfl
  |some o=>show MJ (aU (Y b o e)) (Nat.not_lt.mpr p)
 obtain⟨c,tl,hmro⟩:_:=F.called_set.mro;have G:=F.called_set.made;have BI:=F.called_set.sub;show uD (codeAny_of_tree ?_);change aL _ _ (callAny (.type "set") _) _ _ _;show wpAny_pure {Code.quiet_builtin _ ⋯,kG F.entry_type_call ?_};rw[Around.under_plain (weight_type_call_type "set" [.ref l] []) rfl];have h1:=F.called_set.notType;have h2:=F.called_set.canCreate;have hct:=F.typeCall_set_1 (.ref l)
 repeat (any_goals (first | assumption | wp_step))
 obtain⟨led,zO⟩:∃led,Ed w=led:={_,rfl};rw[zO]at h;show lR (Zz (.ref l) (E:=E) (Q₁:=λobj f=>obj=.ref ‹s›/\f={ s with heap:=s.heap.push { cls:=.type "set",dict:=LY,data:=.set #[] 0 (.fresh 0 0 led) } }) (by rw[zO];show#v[rfl,rfl])) λr f H=>?_;cases r with
 |error e=>show H
 |ok fl=>
  cases fl with
  |ret obj=>
   obtain⟨rfl,rfl⟩:_:=H;have hS:(s.heap.push { cls:=.type "set",dict:=LY,data:=.set #[] 0 (.fresh 0 0 led) }).get? ‹s›=KE { cls:=.type "set",dict:=LY,data:=.set #[] 0 (.fresh 0 0 led) }:=aT _ rfl;have hT:Shared.TypeIs { s with heap:=s.heap.push { cls:=.type "set",dict:=LY,data:=.set #[] 0 (.fresh 0 0 led) } } (.ref ‹s›) "set":={_,hS,rfl};have hli:=F.called_set.init.lookup;have HP:=F.called_set.init.bind (.ref ‹s›)
   repeat (any_goals (first | assumption | wp_step))
   show lR (codeAny_call_builtin (R:=wants (λr g=>r=.none/\∃h' C,g={ s with heap:=h',toks:=C }/\Got prog w h0 h' ‹s› led L/\(∀b o,s.heap.get? b=KE o->h'.get? b=KE o)) E) F.called_set.init.plain F.entry_set_init (check_set_init_1 hT ?_)) λq g I=>?_
   ·obtain⟨ol,DV,LF,nl,LG⟩:_:=hl;obtain⟨ocls,j,J,d⟩:_:=ol;simp only at LF LG;subst LF;subst LG;have u:(s.heap.push { cls:=.type "set",dict:=LY,data:=.set #[] 0 (.fresh 0 0 led) }).get? l=KE { cls:=.type "list",dict:=j,data:=.seq items nl,slots:=d }:=aF _ DV;have hsls:=F.sub_list_set;have hslf:=F.sub_list_frozenset;have xJ:(mD "list" == mD "dict")=MA:=(by decide);have AN:(s.heap.push { cls:=.type "set",dict:=LY,data:=.set #[] 0 (.fresh 0 0 led) }).IsList l items:={_,u,rfl,nl,rfl};unfold iP.«set.__init__» noKeywords Builtin.Frozenset.updateFrom;generalize N:sN=PI
    wp_walk
    subst N;show dX AN ?_;show aA (wpAny_runValue ?_);have LH:l < ‹s›:=aU DV;have O:A.in1.in1.in1.handled=LY:=(by simp[hh]);have D:(s.heap.push { cls:=.type "set",dict:=LY,data:=.set #[] 0 (.fresh 0 0 led) }).objs.size=‹s›+1:=eQ _ _;have y:l≠(s.heap.push { cls:=.type "set",dict:=LY,data:=.set #[] 0 (.fresh 0 0 led) }).objs.size:=(by rw[D];show bJ (qB LH));have HN:‹s› ∉ [(s.heap.push { cls:=.type "set",dict:=LY,data:=.set #[] 0 (.fresh 0 0 led) }).objs.size,l]:=by
     rw[D];intro n;rcases aW.mp n with e | e
     ·show MJ e (bJ (fF _))
     ·show MJ (bC.mp e) (eZ LH)
    have DY:∀b o,s.heap.get? b=KE o->((s.heap.push { cls:=.type "set",dict:=LY,data:=.set #[] 0 (.fresh 0 0 led) }).push { cls:=.type "list_iterator",data:=.fields #[.ref l,.int 0 0] }).get? b=KE o:=λb o e=>
     aF _ (aF _ e)
    show Wu ((uK O _ l y items).toS) ‹s› HN h0 L led hL (by rw[hL];show h3) ?hun hi (LD _ (aJ _)) ?hwr
     (items.size - 0) 0 _ () (cP _) {{_,aT _ rfl,rfl,rfl},(AN.push _)} (λb o e=>DY b o (Y b o e)) ?hS0 ?hR
    case hun=>change A.units+1+1+1 < dJ;omega
    case hwr=>
     intro b p;rw[bC.mp p,D];show LD _ (rH _)
    case hS0=>
     show Wv _ _ _ _ (aF _ hS)
    case hR=>
     intro s' n hK T;obtain⟨h',g',d',U,HX⟩:_:=s';have eg:g'=s.gens:=n.gens;have ed:d'=s.drawn:=n.drawn;have eo:HX=s.os:=n.os;subst eg;subst ed;subst eo;change aL _ _ _ _ _ _;show wpAny_pure ?_;change aL _ _ (ret eB) _ _ _;show wpAny_pure ⟨rfl,h',U,rfl,T,λb o e=>n.heap b o (λp=>by
       rcases aW.mp p with z | z
       · rw[z]at e;show MJ (aU e) (fR _)
       · rw[bC.mp z,D]at e;show MJ (aU e) (Nat.not_lt.mpr (rH _))) (DY b o e)⟩
   ·cases q with
    |error e=>show I
    |ok m=>
     cases m with
     |ret r=>
      obtain⟨rfl,h',C,rfl,T,wG⟩:_:=I
      repeat (any_goals (first | assumption | wp_step))
      show h _ _ T wG
     |_=>show I.elim
  |_=>show H.elim
end
end TupG
namespace TupSet
open SetTable PyProof.Rows PySem.W
structure Ord (lt:Nat->Nat->Bool):Prop where
 asym:∀i j,lt i j=LZ->lt j i=MA
 tr:∀i j k,lt j i=MA->lt k j=MA->lt k i=MA
def Up (lt:Nat->Nat->Bool)(p:Array Nat)(m:Nat):Prop:=∀a b,a < b->b < m->lt (p.getD b 0) (p.getD a 0)=MA
def Dn (lt:Nat->Nat->Bool)(p:Array Nat)(m:Nat):Prop:=∀a b,a < b->b < m->lt (p.getD a 0) (p.getD b 0)=MA
def Sm (lt:Nat->Nat->Bool)(p:Array Nat)(i j:Nat):Prop:=∀a b,i<=a->a < j->i<=b->b < j->lt (p.getD a 0) (p.getD b 0)=MA
theorem nu {b c:Type}{lt:Nat->Nat->Bool}{f:b->KasT c}:∀(t:KasT b),c8 lt (t.bind f)=c8 lt (f (c8 lt t))
 | .ret a=>rfl
 | .ask i j k=>nu (k (lt i j))
section
variable {lt:Nat->Nat->Bool}
def Ord.irr (O:Ord lt)(i:Nat):lt i i=MA:=by
 cases h:lt i i with
 |false=>rfl
 |true=>rw[O.asym _ _ h]at h;cases h
def Ord.eqv (O:Ord lt)(a:lt u v=MA)(b:lt v u=MA)(x:Nat):lt x u=lt x v/\lt u x=lt v x:=by
 constructor
 ·cases h:lt x v with
  |false=>show O.tr u v x b h
  |true=>
   cases h':lt x u with
   |true=>rfl
   |false=>rw[O.tr v u x a h']at h;cases h
 ·cases h:lt v x with
  |false=>show O.tr x v u h a
  |true=>
   cases h':lt u x with
   |true=>rfl
   |false=>rw[O.tr x u v h' b]at h;cases h
def Up.succ (O:Ord lt)(h:Up lt p n)(g:1<=n)(e:lt (p.getD n 0) (p.getD (n - 1) 0)=MA):Up lt p (n+1):=by
 intro a b c i;by_cases d:b < n
 ·show h a b c d
 ·have:b=n:=();subst this;by_cases f:a=b - 1
  ·subst f;show e
  ·show O.tr _ _ _ (h a (b - 1) () ()) e
def Dn.succ (O:Ord lt)(h:Dn lt p n)(g:1<=n)(e:lt (p.getD (n - 1) 0) (p.getD n 0)=MA):Dn lt p (n+1):=by
 intro a b c i;by_cases d:b < n
 ·show h a b c d
 ·have:b=n:=();subst this;by_cases f:a=b - 1
  ·subst f;show e
  ·show O.tr _ _ _ e (h a (b - 1) () ())
def Up.le {p:Array Nat}{n m:Nat}(h:Up lt p n)(d:m<=n):Up lt p m:=λa b c e=>h a b c ()
theorem K5 (O:Ord lt)(p:Array Nat):∀(f n:Nat),1<=n->Up lt p n->n<=c8 lt (mL p f n)/\c8 lt (mL p f n)<=n+f/\Up lt p (c8 lt (mL p f n))/\
  (c8 lt (mL p f n) < n+f->lt (p.getD (c8 lt (mL p f n)) 0) (p.getD (c8 lt (mL p f n) - 1) 0)=LZ)
 |0,n,_,h=>{aJ _,aJ _,h,λz=>MJ z (fR _)}
 |f+1,n,i,h=>by
  have e:c8 lt (mL p (f+1) n)=c8 lt (if lt (p.getD n 0) (p.getD (n - 1) 0)=LZ then .ret n else mL p f (n+1)):=rfl
  rw[e];cases g:lt (p.getD n 0) (p.getD (n - 1) 0)with
  |true=>
   rw[MF rfl];show{aJ _,by change n<=_;lia,h,λ_=>g}
  |false=>
   rw[MG aO];obtain⟨a,b,c,d⟩:=K5 O p f (n+1) () (h.succ O i g);show{(),(),c,λz=>d ()}
def Dd (a:j<=p.size)(k:Nat):(iD p i j).getD k 0=if i<=k/\k < j then p.getD (i+j - 1 - k) 0 else p.getD k 0:=by
 rw[cI];unfold iD;rw[getElem?_mirror_all a]
 split
 ·rw[cI]
 ·rw[cI]
def K6 (hk:k < p.size)(b:l<=k)(i:Nat):(uM p k (k - l)).getD i 0=if i=l then p.getD k 0 else if l < i/\i<=k then p.getD (i - 1) 0 else p.getD i 0:=by
 simp only[cI];rw[getElem?_bubble hk _ (),show k - (k - l)=l by lia];by_cases h:i=l
 ·rw[MF h,MF h]
 ·rw[MG h,MG h];by_cases a:l < i/\i<=k
  ·rw[MF a,MF a]
  ·rw[MG a,MG a]
def De (O:Ord lt){p:Array Nat}{i j:Nat}(a:j<=p.size)(S:Sm lt p i j)(k x:Nat):lt x ((iD p i j).getD k 0)=lt x (p.getD k 0)/\lt ((iD p i j).getD k 0) x=lt (p.getD k 0) x:=by
 rw[Dd a]
 split
 ·next h=>show O.eqv (S _ _ () () h.1 h.2) (S _ _ h.1 h.2 () ()) x
 ·show#v[rfl,rfl]
def xq {p c:Array Nat}(h:∀k x,lt x (c.getD k 0)=lt x (p.getD k 0)/\lt (c.getD k 0) x=lt (p.getD k 0) x)(a b:Nat):lt (c.getD a 0) (c.getD b 0)=lt (p.getD a 0) (p.getD b 0):=by
 rw[(h b _).1,(h a _).2]
structure ajj (lt:Nat->Nat->Bool)(p:Array Nat)(n f:Nat)(r:Array Nat×Nat×Nat):Prop where
 perm:r.1.Perm p
 lo:n<=r.2.1
 hi:r.2.1<=n+f
 q:r.2.2+1<=r.2.1
 dn:Dn lt r.1 r.2.1
 sm:Sm lt r.1 (r.2.1 - (r.2.2+1)) r.2.1
theorem Bn (O:Ord lt):∀f p n q,n+f<=p.size->q+1<=n->Dn lt p n->Sm lt p (n - (q+1)) n->ajj lt p n f (c8 lt (kP f p n q))
 |0,p,n,q,_,c,d,s=>{.rfl,aJ _,aJ _,c,d,s}
 |f+1,p,n,q,hs,c,d,s=>by
  have e:c8 lt (kP (f+1) p n q)=c8 lt (if lt (p.getD n 0) (p.getD (n - 1) 0)=LZ then (if q > 0 then kP f (iD p (n - (q+1)) n) (n+1) 0 else kP f p (n+1) 0)else .ask (p.getD (n - 1) 0) (p.getD n 0) λd=>if d=LZ then .ret (p,n,q)else kP f p (n+1) (q+1)):=rfl
  rw[e];cases j:lt (p.getD n 0) (p.getD (n - 1) 0)with
  |true=>
   rw[MF rfl];have hd:=O.asym _ _ j;have one:∀p,Sm lt p (n+1 - (0+1)) (n+1):=λp a b g h o r=>by
    rw[show a=b by lia];show O.irr _
   by_cases l:q > 0
   ·rw[MF l];have sz:(iD p (n - (q+1)) n).size=p.size:=sY _ _;have sm:=De O () s;have d':Dn lt (iD p (n - (q+1)) n) n:=λa b g h=>(by rw[xq sm];show d a b g h);have x:=Bn O f (iD p (n - (q+1)) n) (n+1) 0 () () (d'.succ O () (by rw[xq sm];show hd)) (one _);show⟨x.perm.trans (pD _ _ _ _),by have:=x.lo;lia,by have:=x.hi;lia,x.q,x.dn,x.sm⟩
   ·rw[MG l];have x:=Bn O f p (n+1) 0 () () (d.succ O () hd) (one _);show⟨x.perm,by have:=x.lo;lia,by have:=x.hi;lia,x.q,x.dn,x.sm⟩
  |false=>
   rw[MG aO];have u:c8 lt (.ask (p.getD (n - 1) 0) (p.getD n 0) λd=>if d=LZ then .ret (p,n,q)else kP f p (n+1) (q+1))=c8 lt (if lt (p.getD (n - 1) 0) (p.getD n 0)=LZ then .ret (p,n,q)else kP f p (n+1) (q+1)):=rfl
   rw[u];cases hd:lt (p.getD (n - 1) 0) (p.getD n 0)with
   |true=>
    rw[MF rfl];show{.rfl,aJ _,by change n<=_;lia,c,d,s}
   |false=>
    rw[MG aO];have x:=Bn O f p (n+1) (q+1) () () (d.succ O () hd) (λa b g h o r=>?_)
    ·show⟨x.perm,by have:=x.lo;lia,by have:=x.hi;lia,x.q,x.dn,x.sm⟩
    ·by_cases m:a=n
     ·by_cases i:b=n
      ·rw[m,i];show O.irr _
      ·rw[m];show O.tr _ _ _ (s (n - 1) b () () () ()) j
     ·by_cases i:b=n
      ·rw[i];show O.tr _ _ _ hd (s a (n - 1) () () () ())
      ·show s a b () () () ()
structure Ts (lt:Nat->Nat->Bool)(p:Array Nat)(r:Nat×Array Nat):Prop where
 perm:r.2.Perm p
 lo:1<=r.1
 hi:r.1<=p.size
 up:Up lt r.2 r.1
def K7 (O:Ord lt){p:Array Nat}{n:Nat}(f:1<=n)(e:n<=p.size)(d:Dn lt p n):Ts lt p (c8 lt (sZ n p.size p)):=by
 have up:Up lt (iD p 0 n) n:=λa b h g=>by
  rw[Dd e,Dd e,MF {cP _,g},MF {cP _,()}];show d _ _ () ()
 obtain⟨a,b,c,_⟩:=K5 O (iD p 0 n) (p.size - n) n f up;unfold sZ;rw[nu];show{pD _ _ _ _,by change 1<=c8 lt _;lia,by change c8 lt _<=_;lia,c}
def Ct (O:Ord lt){p:Array Nat}{n:Nat}(c:1<=n)(g:n < p.size)(d:Dn lt p n)(hd:lt (p.getD n 0) (p.getD (n - 1) 0)=LZ):Ts lt p (c8 lt (oK n p.size p)):=by
 have x:=Bn O (p.size - (n+1)) p (n+1) 0 () () (d.succ O c (O.asym _ _ hd)) (λa b c f h i=>by rw[show a=b by lia];show O.irr _);unfold oK;rw[nu];generalize c8 lt (kP (p.size - (n+1)) p (n+1) 0)=r at x;have lo:=x.lo;have hi:=x.hi;have sz:r.1.size=p.size:=x.perm.size_eq
 split
 ·have sm:=De O () x.sm;have e:(iD r.1 (r.2.1 - (r.2.2+1)) r.2.1).size=p.size:=(by rw[sY,sz]);have y:=K7 O (p:=iD r.1 (r.2.1 - (r.2.2+1)) r.2.1) (n:=r.2.1) () () (λa b c f=>by rw[xq sm];show x.dn a b c f);rw[e]at y;show⟨(y.perm.trans (pD _ _ _ _)).trans x.perm,y.lo,by have:=y.hi;lia,y.up⟩
 ·have y:=K7 O (p:=r.1) (n:=r.2.1) () () x.dn;rw[sz]at y;show⟨y.perm.trans x.perm,y.lo,by have:=y.hi;lia,y.up⟩
def Z5 (O:Ord lt){p:Array Nat}(f:1<=p.size):Ts lt p (c8 lt (tD p.size p)):=by
 obtain⟨a,b,c,d⟩:=K5 O p (p.size - 1) 1 (aJ _) (λa b f g=>());unfold tD;rw[nu];generalize c8 lt (mL p (p.size - 1) 1)=n at a b c d;by_cases e:n=p.size
 ·rw[MF (by simp[e])];show{.rfl,a,by change n<=_;lia,c}
 rw[MG (by simpa using e)];have hd:=d ();by_cases h:n > 1
 ·rw[MF h];have m:c8 lt (.ask (p.getD 0 0) (p.getD (n - 1) 0) λc=>if c=LZ then .ret (n,p)else oK n p.size (iD p 0 n))=c8 lt (if lt (p.getD 0 0) (p.getD (n - 1) 0)=LZ then .ret (n,p)else oK n p.size (iD p 0 n)):=rfl
  rw[m];cases h0:lt (p.getD 0 0) (p.getD (n - 1) 0)with
  |true=>
   rw[MF rfl];show{.rfl,a,by change n<=_;lia,c}
  |false=>
   rw[MG aO];have l:∀a b,a<=b->b < n->lt (p.getD b 0) (p.getD a 0)=MA:=λa b f g=>by
    by_cases e:a=b
    ·rw[e];show O.irr _
    ·show c a b () g
   have s:Sm lt p 0 n:=λi j _ hi _ q=>by
    show O.tr _ _ _ (l j (n - 1) () ()) (O.tr _ _ _ h0 (l 0 i () hi))
   have sm:=De O () s;have sz:(iD p 0 n).size=p.size:=sY _ _;have y:=Ct O (p:=iD p 0 n) (n:=n) () () (λa b f g=>by rw[xq sm];show s a b () () () ()) (by rw[xq sm];show hd);rw[sz]at y;show⟨y.perm.trans (pD _ _ _ _),y.lo,by have:=y.hi;lia,y.up⟩
 ·rw[MG h];have o:n=1:=();subst o;show Ct O (aJ _) () (λa b f g=>()) hd
theorem Df (O:Ord lt){p:Array Nat}{k:Nat}(u:Up lt p k):∀(f l r:Nat),r - l<=f->l<=r->r<=k->(∀a,a < l->lt (p.getD k 0) (p.getD a 0)=MA)->(∀a,r<=a->a < k->lt (p.getD k 0) (p.getD a 0)=LZ)->
  ∃m,c8 lt (kX p k f l r)=m/\m<=k/\(∀a,a < m->lt (p.getD k 0) (p.getD a 0)=MA)/\(∀a,m<=a->a < k->lt (p.getD k 0) (p.getD a 0)=LZ)
 |0,l,r,o,g,j,c,d=>{l,rfl,(),c,λa i=>d a ()}
 |f+1,l,r,o,g,j,c,d=>by
  by_cases n:l>=r
  ·show{l,?_,(),c,λa i=>d a ()};unfold kX;rw[MF n];rfl
  ·have e:c8 lt (kX p k (f+1) l r)=c8 lt (if lt (p.getD k 0) (p.getD ((l+r) / 2) 0)=LZ then kX p k f l ((l+r) / 2)else kX p k f ((l+r) / 2+1) r):=by
    conv=>lhs;unfold kX
    rw[MG n];rfl
   rw[e];cases b:lt (p.getD k 0) (p.getD ((l+r) / 2) 0)with
   |true=>
    rw[MF rfl];show Df O u f l ((l+r) / 2) () () () c (λa i hk=>?_);by_cases e:a=(l+r) / 2
    ·rw[e];show b
    ·cases h:lt (p.getD k 0) (p.getD a 0)with
     |true=>rfl
     |false=>
      rw[O.tr _ _ _ (u ((l+r) / 2) a () hk) h]at b;cases b
   |false=>
    rw[MG aO];show Df O u f ((l+r) / 2+1) r () () j (λa i=>?_) d;by_cases e:a=(l+r) / 2
    ·rw[e];show b
    ·show O.tr _ _ _ (u a ((l+r) / 2) () ()) b
def ajk (O:Ord lt){p:Array Nat}{k m:Nat}(hk:k < p.size)(c:m<=k)(u:Up lt p k)(h:∀a,a < m->lt (p.getD k 0) (p.getD a 0)=MA)(i:∀a,m<=a->a < k->lt (p.getD k 0) (p.getD a 0)=LZ) :
  Up lt (uM p k (k - m)) (k+1):=by
 intro a b j l;rw[K6 hk c,K6 hk c];by_cases d:b=m
 ·rw[MF d,MG (),MG ()];show h a ()
 ·rw[MG d];by_cases e:a=m
  ·rw[MF e,MF ()];show O.asym _ _ (i (b - 1) () ())
  ·rw[MG e];by_cases f:m < b/\b<=k
   ·rw[MF f];by_cases g:m < a/\a<=k
    ·rw[MF g];show u _ _ () ()
    ·rw[MG g];show u _ _ () ()
   ·rw[MG f,MG ()];show u _ _ j ()
theorem Ww (O:Ord lt):∀(f:Nat)(p:Array Nat) (k:Nat),k+f=p.size->Up lt p k->Up lt (c8 lt (rO f p k)) p.size/\(c8 lt (rO f p k)).Perm p
 |0,p,k,h,u=>{by rw[<-h];show u,.rfl}
 |f+1,p,k,h,u=>by
  obtain⟨m,e,c,d,g⟩:=Df O u k 0 k () (cP _) (aJ _) (λa b=>MJ b (iI _)) (λa b hk=>MJ b ());have i:c8 lt (rO (f+1) p k)=c8 lt (rO f (uM p k (k - m)) (k+1)):=by
   change c8 lt ((kX p k k 0 k).bind λl=>rO f (uM p k (k - l)) (k+1))=_;rw[nu,e]
  obtain⟨x,y⟩:=Ww O f (uM p k (k - m)) (k+1) (by rw[bubble_size];lia) (ajk O () c u d g);rw[i];rw[bubble_size]at x;show{x,y.trans (bubble_perm _ _ _)}
def afg (O:Ord lt){n:Nat}(b:1<=n):Up lt (c8 lt (jT n)) n/\(c8 lt (jT n)).toList.Perm (bE n):=by
 have sz:(bE n).toArray.size=n:=∅;have c:=Z5 O (p:=(bE n).toArray) ();rw[sz]at c;unfold jT;rw[nu];generalize c8 lt (tD n (bE n).toArray)=r at c;have hi:=c.hi;have lo:=c.lo;have a:r.2.size=n:=(by rw[c.perm.size_eq,sz]);by_cases h:r.1 < n
 ·rw[MF h];obtain⟨x,y⟩:=Ww O (n - max r.1 1) r.2 (max r.1 1) () (c.up.le ());rw[a]at x;show⟨x,by have:=(y.trans c.perm).toList;simpa using this⟩
 ·rw[MG h];have e:r.1=n:=();show⟨by change Up lt r.2 n;rw[<-e];show c.up,by have:=c.perm.toList;change r.2.toList.Perm _;simpa using this⟩
end
def AskQ {c:Type}(n:Nat)(P:c->Prop):KasT c->Prop
 | .ret a=>P a
 | .ask i j k=>i < n/\j < n/\∀b,AskQ n P (k b)
theorem AskQ.bind {c d:Type}{n:Nat}{P:c->Prop}{Q:d->Prop}{f:c->KasT d}(e:∀a,P a->AskQ n Q (f a)):∀(t:KasT c),AskQ n P t->AskQ n Q (t.bind f)
 | .ret a,h=>e a h
 | .ask i j k,h=>{h.1,h.2.1,λb=>AskQ.bind e (k b) (h.2.2 b)}
theorem AskQ.asks {b:Type}{n:Nat}{P:b->Prop}:∀(t:KasT b),AskQ n P t->qu n t=LZ
 | .ret a,_=>rfl
 | .ask i j k,h=>by
  simp only[qu,cO,decide_eq_true_eq];show{{#v[h.1,h.2.1],AskQ.asks _ (h.2.2 LZ)},AskQ.asks _ (h.2.2 MA)}
def Alln (n:Nat)(p:Array Nat):Prop:=0 < n/\∀x∈p.toList,x < n
theorem Alln.at (h:Alln n p)(i:Nat):p.getD i 0 < n:=by
 rw[cI];cases e:p[i]? with
 |none=>show h.1
 |some x=>show h.2 x (by rw[<-bP]at e;show aR e)
def Alln.perm (h:Alln n p)(e:q.Perm p):Alln n q:={h.1,λx a=>h.2 x (e.toList.mem_iff.mp a)}
def Alln.rev (h:Alln n p)(i j:Nat):Alln n (iD p i j):=h.perm (pD _ _ _ _)
section
variable {n:Nat}
theorem Fu (h:Alln n p):∀f m,AskQ n (λ_=>True) (mL p f m)
 |0,m=>trivial
 |f+1,m=>{h.at _,h.at _,λb=>by cases b;show Fu h f (m+1);show trivial}
theorem yf:∀(f:Nat) {p:Array Nat}(h:Alln n p) (m q:Nat),AskQ n (λr=>Alln n r.1) (kP f p m q)
 |0,p,h,m,q=>h
 |f+1,p,h,m,q=>⟨h.at _,h.at _,λb=>by
     cases b
     · show{h.at _,h.at _,λb=>by cases b;show yf f h (m+1) (q+1);show h}
     · change AskQ n _ (if q > 0 then kP f (iD p (m - (q+1)) m) (m+1) 0 else kP f p (m+1) 0)
       split
       · show yf f (h.rev _ _) (m+1) 0
       · show yf f h (m+1) 0⟩
def Hz {p:Array Nat}(h:Alln n p)(m r:Nat):AskQ n (λr=>Alln n r.2) (sZ m r p):=by
 unfold sZ;show AskQ.bind (P:=λ_=>True) (λa _=>?_) _ (Fu (h.rev _ _) _ _);show h.rev 0 m
def Ah {p:Array Nat}(h:Alln n p)(m r:Nat):AskQ n (λr=>Alln n r.2) (oK m r p):=AskQ.bind (λa b=>by
  change AskQ n _ (if a.2.2 > 0 then _ else _)
  split
  · show Hz (b.rev _ _) _ _
  · show Hz b _ _) _ (yf _ h _ _)
def Wx {p:Array Nat}(h:Alln n p)(r:Nat):AskQ n (λr=>Alln n r.2) (tD r p):=AskQ.bind (λm _=>by
  change AskQ n _ (if (m == r)=LZ then _ else _)
  split
  · show h
  · split
    · show{h.at _,h.at _,λb=>by cases b;show Ah (h.rev _ _) _ _;show h}
    · show Ah h _ _) _ (Fu h _ _)
theorem Ai (h:Alln n p)(k:Nat):∀f l r,AskQ n (λ_=>True) (kX p k f l r)
 |0,l,r=>trivial
 |f+1,l,r=>by
  unfold kX
  split
  ·trivial
  ·show{h.at _,h.at _,λb=>by cases b;show Ai h k f _ _;show Ai h k f _ _}
theorem Rj:∀(f:Nat) {p:Array Nat}(h:Alln n p) (k:Nat),AskQ n (λr=>Alln n r) (rO f p k)
 |0,p,h,k=>h
 |f+1,p,h,k=>AskQ.bind (λl _=>Rj f (h.perm (bubble_perm _ _ _)) (k+1)) _ (Ai h k k 0 k)
def Z6 (h:0 < n):qu n (jT n)=LZ:=by
 have a:Alln n (bE n).toArray:={h,λx c=>by simpa using c};show AskQ.asks (P:=λr=>Alln n r) _ (AskQ.bind (λr b=>?_) _ (Wx a n));change AskQ n _ (if r.1 < n then _ else _)
 split
 ·show Rj _ b _
 ·show b
end
end TupSet
namespace TupSet
open SetTable PyProof.Rows PySem.W
def afh (xs:List (List Int)):Ord (ltX xs) where
 asym _ _ h:=lex_asymm h
 tr i j k h1 h2:=Hw (x:=xs.getD i []) (y:=xs.getD j []) (z:=xs.getD k []) h1 h2
def Z7 (xs:List (List Int)):(bE xs.length).map (λi=>xs.getD i [])=xs:=by
 apply eX;intro i;rw[aK];by_cases h:i < xs.length
 ·rw[cG h];simp[cF,aB h]
 ·rw[bR (by simpa using h),bR ()];rfl
def sortG (a:1<=xs.length) :
  qu xs.length (jT xs.length)=LZ/\(c8 (ltX xs) (jT xs.length)).toList.map (λi=>xs.getD i [])=isort xs/\∀i∈(c8 (ltX xs) (jT xs.length)).toList,i < xs.length:=by
 obtain⟨u,p⟩:_:=afg (afh xs) a;show{Z6 a,isort_of ?_ ?_,λi hi=>by simpa using p.mem_iff.mp hi}
 ·have:=p.map (λi=>xs.getD i []);rw[Z7]at this;show this
 ·have b:(c8 (ltX xs) (jT xs.length)).size=xs.length:=(by rw[<-cQ,p.length_eq,cA]);generalize c8 (ltX xs) (jT xs.length)=q at u b;rw[SortedT,List.pairwise_map,List.pairwise_iff_getElem];intro i j hi c d;have e:∀k hk,q.toList[k]=q.getD k 0:=λk hk=>by
   rw[cI,<-bP,aB hk];rfl
  rw[e,e];show u i j d (by rw[cQ,b]at c;show c)
section
variable {prog:aV}{w:bA}{A:bV}{E:aE->aH->Prop}{s:aH}
def K8 (r:s.heap.get? a=KE (eY "list" vs.toArray n))(J:KeysL prog w g vs xs)(kg:∀x c,cJ (cB prog w) g x c->cJ (cB prog w) s.heap x c)(xJ:∀x∈xs,x≠[])(h3:xs.length < 64)
  (h:∀h' out c,(∀b o,b≠a->s.heap.get? b=KE o->h'.get? b=KE o)->h'.get? a=KE (eY "list" (fO out) c)->KeysL prog w g out (isort xs)->P (.done (.ret .none)) { s with heap:=h' }) :
  aL (aX prog w) A (iP.«list.sort» {[.ref a],[]}) P E s:=by
 have hK:KeysL prog w s.heap vs xs:=J.imp kg;have L:=hK.length;have halt:a < ‹s›:=aU r;have s1:=eI s.heap a (fA λ_=>(#[]:Array aE));obtain⟨N,GB⟩:∃N,(s.heap.update a (fA λ_=>(#[]:Array aE))).get? a=KE (eY "list" #[] N):={_,get?_update_seq r λ_=>#[]};have m:(((s.heap.update a (fA λ_=>(#[]:Array aE))).push (eY "tuple" vs.toArray 0)).push (eY "list" #[] 0)).get? a=KE (eY "list" #[] N):=
  aF _ (aF _ GB)
 have kp:∀b o,b≠a->s.heap.get? b=KE o->(((s.heap.update a (fA λ_=>(#[]:Array aE))).push (eY "tuple" vs.toArray 0)).push (eY "list" #[] 0)).get? b=KE o:=λb o q e=>
  aF _ (aF _ (by rw[s1.2 b q];show e))
 generalize hH:((s.heap.update a (fA λ_=>(#[]:Array aE))).push (eY "tuple" vs.toArray 0)).push (eY "list" #[] 0)=H at m kp;have O:KeysL prog w H vs xs:=hK.imp λx c k=>To k r kp;have wF:∀out,out.length=vs.length->KeysL prog w g out (isort xs)->∃f,(H.update a (fA λ_=>fO out)).get? a=KE (eY "list" (fO out) f)/\P (.done (.ret .none)) { s with heap:=H.update a (fA λ_=>fO out) }:=λout U u=>by
  have s2:=eI H a (fA λ_=>fO out);obtain⟨f,D⟩:∃f,(H.update a (fA λ_=>fO out)).get? a=KE (eY "list" (fO out) f):={_,get?_update_seq m λ_=>fO out};have kk:∀b o,b≠a->H.get? b=KE o->(H.update a (fA λ_=>fO out)).get? b=KE o:=λb o q e=>(by rw[s2.2 b q];show e);show{f,D,h _ out f (λb o q e=>kk b o q (kp b o q e)) D u}
 have h4:vs.length < 64:=();rw[list_sort_plain];show aA (listItems_at r rfl ?_);show aA (sH r rfl ?_ (by rw[aM,iE];omega) (cP _));show aA (tV GB rfl ?_);show aA (rP ?_ (by change vs.length<=_;rw[iE];omega));show aA (pR ?_ (cP _));show dB ?_;change aL (aX prog w) A _ P E { s with heap:=((s.heap.update a (fA λ_=>(#[]:Array aE))).push (eY "tuple" vs.toArray 0)).push (eY "list" #[] 0) };rw[hH];dsimp only;by_cases h2:2<=vs.length
 ·have y:¬vs.toArray.size < 2:=(by rw[aM];omega);rw[MG y,MG y];obtain⟨fs,Y,hf2,hf3⟩:_:=O.firsts xJ;show aA (kat_kind (s:={ s with heap:=H }) (T:=.type "int") Y () (λv hv=>by obtain⟨k,t,rfl⟩:_:=hf3 v hv;show .now) (by decide) ?_);obtain⟨q1,q2,q3⟩:_:=sortG (xs:=xs) ();show aA (iR (kat_run (s:={ s with heap:=H }) (ks:=vs) (vs:=vs) (Q:=λI s'=>s'={ s with heap:=H }/\failedOf I=LY/\(arrOf I).map (·.2)=fO ((c8 (ltX xs) (jT xs.length)).toList.map λi=>vs.getD i eB)) (G:=λp s'=>s'={ s with heap:=H }/\p=c8 (ltX xs) (jT xs.length)) rfl h2 () (λp I s' a1 a2 a3 a4=>{a4.1,a3,by rw[kat_snds rfl a2,a4.2]}) ?_) ?_ λ_ _ e=>e)
  ·rw[L];show Rf (n:=xs.length) (lt:=ltX xs) (λi j C hi hj hC=>?_) _ q1 #v[rfl,rfl];obtain⟨c,ec,kc⟩:_:=O.at hi;obtain⟨d,ed,kd⟩:_:=O.at hj;unfold kas_ask;rw[ec,ed];show ajg (s:={ s with heap:=H }) kc kd hC
  ·rintro⟨⟨⟩,I⟩ s' ⟨rfl,l,z⟩;dsimp only;rw[z];have u:=J.pick _ q3;rw[q2]at u;have U:((c8 (ltX xs) (jT xs.length)).toList.map λi=>vs.getD i eB).length=vs.length:=by
    rw[u.length,(isort_perm xs).length_eq,L]
   obtain⟨f,D,hP⟩:_:=wF _ U u;show aA (tV m rfl ?_);show aA (sH (s:={ s with heap:=H }) m rfl ?_ (cP _) (by rw[aM,U,iE];omega));rw[l];simp only[bne_self_eq_false,bL,if_false];show wpAny_pure hP
 ·have y:vs.toArray.size < 2:=(by rw[aM];omega);rw[MF y,MF y];have ES:isort xs=xs:=by
   match xs,L with
   | [],_=>rfl
   | [x],_=>rfl
   |_::_::_,e=>simp at e;omega
  obtain⟨f,D,hP⟩:_:=wF vs rfl (by rw[ES];show J);show aA (wpAny_pure ?_);show aA (wpAny_pure ?_);dsimp only;have hz:Array.map (λx=>x.snd) (arrOf (SortSt.mk' general' (vs.toArray.zip vs.toArray) #[] 7 LY))=fO vs:=by
   change Array.map (λx=>x.snd) (vs.toArray.zip vs.toArray)=_;apply Array.toList_inj.mp;rw[Array.toList_map,Array.toList_zip];show List.map_snd_zip (aJ _)
  rw[hz];show aA (tV m rfl ?_);show aA (sH (s:={ s with heap:=H }) m rfl ?_ (cP _) (by rw[aM,iE];omega));simp only[bne_self_eq_false,bL,if_false];show wpAny_pure hP
end
end TupSet
namespace TupG
open SetTable TupSet PyProof.Rows PySem.W
def Ol (a:RiseA xs)(hi:xs[i]?=KE v):below xs (v+1)=i+1:=by
 have b:=C5 xs (v+1);have c:i < below xs (v+1):=by
  by_cases h:below xs (v+1)<=i
  ·have:=(jw a (v+1) hi).2 h;lia
  ·lia
 by_cases h:below xs (v+1)=i+1
 ·show h
 ·have e:xs[i+1]?=KE (xs[i+1]'()):=bT ();have d:=(jw a (v+1) e).1 ();have f:=a.lt hi e ();lia
def Om (a:RiseA xs):below xs 0=0:=by
 have b:=C5 xs 0;by_cases h:below xs 0=0
 ·show h
 ·have e:xs[0]?=KE (xs[0]'()):=bT ();have:=(jw a 0 e).1 ();lia
section
variable {prog:aV}{w:bA}{A:bV}{E:aE->aH->Prop}{s:aH}
def Ej {o:Obj}{a:Array (Int×aE)}{ep slot i:Nat}{t:eV}{Q:Option (aE×Nat)->aH->Prop}
  (c:s.heap.get? S=KE o) (hd:o.data=.set a ep t) (Sm:Tb t a.size) (g:a.size<=t.mask) (j:w.params.followText "set-order"=MA->t.led=LZ)
  (l:w.params.followText "set-order"=MA->below t.place slot=i)
  (h:∀nx,(w.params.followText "set-order"=MA->i < a.size->below t.place nx=i+1)->Q (((g8 w S ep a)[i]?).map λv=>(v,nx)) s) :
  aL (aX prog w) A (setNext S slot i ep) Q E s:=by
 have d:t.fits a.size=LZ:=ye Sm g;unfold setNext;show aA (fX c hd d ?_);dsimp only;unfold uN;show aA (aA (lA (wpAny_pure ?_)));cases b:w.params.followText "set-order" with
 |true=>
  rw[show((aX prog w).w.params.followText "set-order")=LZ from b];simp only[if_true];rw[MG ∅];unfold setWalk;show aA (aA (fX c hd d ?_));dsimp only;unfold uN;show aA (aA (lA (wpAny_pure ?_)));rw[show((aX prog w).w.params.followText "set-order")=LZ from b];simp only[if_true];show aA (lA (wpAny_pure (wpAny_pure ?_)));have:=h slot (λe=>by rw[b]at e;show nomatch e);have hw:g8 w S ep a=(sW (w.params.setOrder S ep) a).toList.map (·.2):=(by unfold g8;rw[MF b]);rw[hw,aK,bP,Option.map_map]at this;show this
 |false=>
  rw[show((aX prog w).w.params.followText "set-order")=MA from b];simp only[bL,if_false];show z8 (show(!t.plain && decide (a.size > 1))=MA by rw[Sm.plain];rfl) ?_;show aA ?_;change aL _ _ (ite ((!t.led && !a.isEmpty)=LZ) _ _) _ _ _;show z8 (by rw[j b];rfl) (wpAny_pure ?_);rw[l b];have hw:g8 w S ep a=a.toList.map (·.2):=(by unfold g8;rw[b];rfl);by_cases hi:i < a.size
  ·have f:i < t.place.size:=(by rw[Sm.size];show hi);rw[bT hi,bT f];have:=h (t.place[i]+1) (λ_ _=>Ol Sm.rise (bT f));rw[hw,aK,bP,bT hi]at this;show wpAny_pure this
  ·have:=h 0 (λ_ h'=>MJ h' hi);rw[hw,aK,bP,lE.mpr ()]at this;rw[lE.mpr ()];show wpAny_pure this
structure qx (w:bA)(o:Obj)(es:Array (Int×aE))(ep:Nat)(t:eV):Prop where
 ex:o.ExactSet
 data:o.data=.set es ep t
 small:Tb t es.size
 fit:es.size<=t.mask
 n76:es.size<=76
 led:w.params.followText "set-order"=MA->t.led=LZ
def K9 {a:Array (Int×aE)}{ep i:Nat}{Q:Option aE->aH->Prop}
  (d:IsSetIter w s.heap I S i a.size ep t) (e:s.heap.get? S=KE o) (D:qx w o a ep t) (f:(g8 w S ep a)[i]?=KE v)
  (j:∀h',IsSetIter w h' I S (i+1) a.size ep t->dZ I s.heap h'->Q (KE v) { s with heap:=h' }) :
  aL (aX prog w) A (gU (.ref I)) Q E s:=by
 have g:=d.typeIs;obtain⟨slot,q,c,l,b,m⟩:=d;have hi:i < a.size:=by
  rw[<-qw w S ep a];show(bH.mp f).1
 unfold gU;show aA (jH (cS (name:=cW "__next__") g jk (cN jk g zj ?_ (z7 _))));change aL _ _ (fieldsOf (.ref I) >>= _) _ _ s;show aA (pA c b ?_);dsimp only;show aA (oT e D.data (ye D.small D.fit) ?_);show z8 ∅ ?_;show aA (Ej (i:=i) (slot:=slot) e D.data D.small D.fit D.led m λnx n=>?_);rw[show((ep:Int)).toNat=ep from bZ ep,f];dsimp only[oJ];show aA (jO c b ∅ ?_);have h:=gF (sI λxs=>xs.setIfInBounds 0 (iU nx)) c (kS (fB b _));show aA (jO h (fB b _) ∅ (wpAny_pure {v,rfl,wpAny_pure (j _ ?_ ((eI ..).trans (eI ..)))}));show{nx,_,gF _ h (kS (fB (fB b _) _)),(mT ..).trans ((mT ..).trans l),?_,λp=>n p hi};rw[fB (fB b _)];simp[iU]
def On {c:Array (Int×aE)}{ep:Nat}{Q:Option aE->aH->Prop}(d:A.handled=LY)
  (e:IsSetIter w s.heap I S c.size c.size ep t) (f:s.heap.get? S=KE o) (D:qx w o c ep t)
  (l:∀h',kO I s.heap h'->Q LY { s with heap:=h' }) :
  aL (aX prog w) A (gU (.ref I)) Q E s:=by
 have g:=e.typeIs;obtain⟨slot,p,h,q,j,n⟩:=e;unfold gU;show aA (jH (cS (name:=cW "__next__") g jk (cN jk g zj ?_ (z7 _))));change aL _ _ (fieldsOf (.ref I) >>= _) _ _ s;show aA (pA h j ?_);dsimp only;show aA (oT f D.data (ye D.small D.fit) ?_);show z8 ∅ ?_;show aA (Ej (i:=c.size) (slot:=slot) f D.data D.small D.fit D.led n λnx r=>?_);rw[List.getElem?_eq_none_iff.mpr (by rw[qw];show aJ _)];dsimp only[oJ];show aA (jO h j ∅ ?_);show aA ?_;simp only[uJ,tX];show aA (cU ?_ (by size_fits));show aA (m:=kU _ _) (rJ (a:=eB) (by first | rfl | (simp only[kU];rfl)) ?_)
 show cU ?_ (by size_fits);simp only[raiseNew];show aA (sF ?_)
 first | rw[show A.in1.handled=LY from d] | rw[d]
 show aA (wpAny_pure (tT ?_));show aA (hX (T:="StopIteration") (b:=LZ) {_,aT _ rfl,rfl} pB ?_);show wpAny_pure (l _ (((eI ..).extBut.push _).push _))
def afi (a:s.heap.get? S=KE o)(D:qx w o c ep t)
  (e:Q (.ref ‹s›) { s with heap:=s.heap.push { cls:=.type "set_iterator",data:=.fields #[.int 0 0,.int 0 0,.ref S,.int c.size 0,.int ep 0] } }) :
  aL (aX prog w) A (sN (.ref S)) Q E s:=by
 have d:s.TypeIs (.ref S) "set":=#v[o,a,D.ex.1];have b:=ye D.small D.fit;show qD d F.slot_set_iter (cN F.slot_set_iter d Kx ?_ (F.args_set_iter_1 _));change aL _ _ (Builtin.Frozenset.sizeOf S >>= _) _ _ s;unfold Builtin.Frozenset.sizeOf;show aA (aA (oT a D.data b (wpAny_pure ?_)));unfold setDrawn;show aA (aA (fX a D.data b ?_));dsimp only;unfold uN;show aA (aA (lA (wpAny_pure (wpAny_pure ?_))));show z8 (show(!(w.params.followText "set-order") && (!t.plain && decide (c.size > 1)))=MA by rw[D.small.plain];simp) ?_;show aA (wpAny_pure ?_);show aA (wpAny_setEpoch_of a D.data b ?_);show aA (cU (wpAny_pure {_,rfl,"set_iterator",_,{_,aT _ rfl,rfl},jk.lookup,e}))
def Wy (hh:A.handled=LY)(xJ:S≠I)(D:qx w o es ep t) :
  Walks prog w A I [I,S] [I] es.size (λi v=>(g8 w S ep es)[i]?=KE v) (λi h=>IsSetIter w h I S i es.size ep t/\h.get? S=KE o) where
 sub:=λb hb=>by simp at hb;simp[hb]
 frame:=λi h h' st hk=>by
  obtain⟨⟨slot,oi,DZ,r⟩,hS⟩:=st;show{{slot,oi,hk I ∅ _ DZ,r},hk S ∅ _ hS}
 item:=λi s Q E hi st hQ=>by
  have hl:=qw w S ep es;have hv:(g8 w S ep es)[i]?=KE ((g8 w S ep es)[i]'()):=aB _;show K9 st.1 st.2 D hv λh' DB zU=>?_;show hQ _ h' s.toks hv {DB,by rw[zU.2 S xJ];show st.2} λb o hb e=>zU.extBut b o (λh=>hb (by simp[h])) e
 done:=λs Q E st hQ=>On hh st.1 st.2 D λh' BW=>hQ h' s.toks λb o hb e=>BW b o (λh=>hb (by simp[h])) e
 self:=λi s Q E st hQ=>by
  have hT:=st.1.typeIs;show qD hT z9 (cN z9 hT Ip ?_ (Ky _));change aL _ _ (ret (.ref I)) _ _ s;show wpAny_pure {_,rfl,"set_iterator",_,hT,jk.lookup,hQ}
def afj (D:qx w o es ep t) :
  KdlSrc prog w "set" S S es.size (λi v=>(g8 w S ep es)[i]?=KE v) (λh=>h.get? S=KE o) where
 type:=λs ho=>#v[o,ho,D.ex.1]
 there:=λh ho=>{aU ho,aU ho}
 keep:=λh h' ho hk=>hk S (.inl rfl) _ ho
 notList:=by decide
 notTuple:=by decide
 hint:=λA E s Q ho h=>Z0 #v[o,ho,D.ex.1] h
 iter:=λA s hh ho=>{_,_,λE Q h=>afi ho D h,Wy hh (bJ (aU ho)) D,{0,_,aT _ rfl,rfl,rfl,λ_=>Om D.small.rise},aF _ ho}
def Tt (p:A.handled=LY)(f:s.heap.get? S=KE o)(D:qx w o g ep t)
  (h:∀h' d,(∀b o,s.heap.get? b=KE o->h'.get? b=KE o)->Q (g8 w S ep g) { s with heap:=h',toks:=d }) :
  aL (aX prog w) A (collect (.ref S)) Q E s:=by
 unfold collect;show aA (wpAny_runValue (kG entry_proto_collect' ?_));change aL _ _ (do again (.builtin "list.__iadd__" {[<-newList [],.ref S],[]})) _ _ s
 show aA (pR (wpAny_pure {Code.quiet_builtin _ ⋯,kG entry_list_iadd' ?_}));rw[kZ PySem.F.plain_list_iadd _];change aL _ A.in1 (Builtin.List.listExtendWith (.ref ‹s›) (.ref S) (.ref ‹s›)) _ _ _;have i:=aU f;show kdl_extend (prog:=prog) (R:=λr s'=>match r with
   | .ok (.ret v)=>aL (aX prog w) A (match v with
     | .ref a=>(do
       let x <-load a
       match x.data with
         | .seq xs _=>pure xs.toList
         |_=>unsupported "internal:collect")
     |_=>unsupported "internal:collect") Q E s'
   | .ok _=>False
   | .error e=>E e s') (s:={ s with heap:=s.heap.push { cls:=.type "list",data:=.seq #[] } }) (afj D) p (aF _ f) ‹s› (eZ i) (eZ i) (.ref ‹s›) 0 (aT _ rfl) (λh' d c y hk q l=>?_) (by rw[iE];have:=D.n76;lia)
 have e:c.toList=g8 w S ep g:=by
  show eX λj=>?_;rw[bP];by_cases u:j < c.size
  ·have m:c[j]?=KE c[j]:=bT u;rw[m];show(l.2 j _ m).symm
  ·rw[lE.mpr (),List.getElem?_eq_none_iff.mpr];rw[qw,<-l.1];lia
 dsimp only;show aA (wpAny_load q (wpAny_pure ?_));rw[e];show h h' d λb o n=>hk b o (bJ (aU n)) (aF _ n)
def Oo (z:∀b o,h0.get? b=KE o->s.heap.get? b=KE o)(C:A.handled=LY)(G:s.heap.get? S=KE o)(D:qx w o f ep t)
  (n:EntsOf prog w h0 f.toList xs) (H:∀x∈xs,x≠[]) (p:xs.length < 64)
  (h:∀d h' I out c,s.heap.get? d=LY->(∀b o,s.heap.get? b=KE o->h'.get? b=KE o)->h'.get? d=KE (eY "list" (fO out) c)->KeysL prog w h0 out (isort xs)->Q (.ref d) { s with heap:=h',toks:=I }) :
  aL (aX prog w) A (call (.builtin "sorted") [.ref S]) Q E s:=by
 have J:=n.length;rw[cQ]at J;have U:=D.n76;have p:=p;obtain⟨ys,i,L⟩:=(EntsOf.keys n).perm (Ee w S ep f);have j:ys.length < 64:=(by rw[i.length_eq];lia);have Y:=qw w S ep f;have N:isort ys=isort xs:=isort_of ((isort_perm ys).trans i) (oj ys);show Calls.call_function_entry kind_sorted plain_sorted entry_sorted (args_sorted1 _) ?_;unfold iP.«sorted»;show aA (m:=checkCount "sorted" 1 1 _) (wpAny_pure ?_);show aA (Tt (A:=A.in1) C G D λg l q=>?_);show aA (pR ?_ (by rw[iE];lia));change aL _ _ _ _ _ { s with heap:=g.push (eY "list" (g8 w S ep f).toArray 0),toks:=l };have r:(g.push (eY "list" (g8 w S ep f).toArray 0)).get? g.objs.size=KE (eY "list" (g8 w S ep f).toArray 0):=aT _ rfl;have kp:∀b o,s.heap.get? b=KE o->(g.push (eY "list" (g8 w S ep f).toArray 0)).get? b=KE o:=λb o e=>aF _ (q b o e);have u:s.heap.get? g.objs.size=LY:=by
  cases e:s.heap.get? g.objs.size with
  |none=>rfl
  |some o'=>show MJ (aU (q _ _ e)) (fR _)
 show aA (dB (cN slot_list_sort {_,r,rfl} entry_list_sort ?body (args_list_sort _)))
 case body=>
  show K8 (s:={ s with heap:=g.push (eY "list" (g8 w S ep f).toArray 0),toks:=l }) r L (λx a k=>qd kp (qd z k)) (λx O=>H x (i.mem_iff.mp O)) j λh' out c hk hd y=>?_;rw[N]at y;show{_,rfl,wpAny_pure {_,rfl,h _ h' l out c u (λb o e=>hk b o (λT=>?_) (kp b o e)) hd y}};rw[T,u]at e;show nomatch e
end
end TupG
namespace TupG
open SetTable TupSet PyProof.Rows PySem.W
def dd:List (List Int)->List (List Int)
 | []=>[]
 |x::l=>if x∈l then dd l else x::dd l
theorem mem_dd:∀{l},y∈dd l↔y∈l
 | []=>uP
 |x::l=>by
  unfold dd
  split
  ·next h=>
   rw[mem_dd,aW];show⟨.inr,λz=>by rcases z with rfl | z;show h;show z⟩
  ·rw[aW,aW,mem_dd]
theorem nodup_dd:∀l,(dd l).Nodup
 | []=>gL
 |x::l=>by
  unfold dd
  split
  ·show nodup_dd l
  ·next h=>show gB.mpr {λz=>h (mem_dd.mp z),nodup_dd l}
theorem Wz:∀l,(dd l).length<=l.length
 | []=>aJ _
 |x::l=>by
  unfold dd;have:=Wz l
  split
  ·rw[aZ];lia
  ·rw[aZ,aZ];lia
theorem nodup_perm:∀{xs ys:List (List Int)},xs.Nodup->ys.Nodup->(∀y,y∈xs↔y∈ys)->xs.Perm ys
 | [],ys,_,_,h=>by
  cases ys with
  |nil=>show .refl _
  |cons y ys=>show nomatch (h y).mpr aQ
 |x::xs,ys,c,a,h=>by
  have d:=(h x).mp aQ;have b:=gB.mp c;show(List.Perm.cons x (nodup_perm b.2 (a.erase x) λy=>?_)).trans (List.perm_cons_erase d).symm;rw[a.mem_erase_iff,<-h,aW];show⟨λz=>{λe=>b.1 (e ▸ z),.inr z},λf=>by obtain⟨n,z⟩:=f;show z.resolve_left n⟩
def srtG (L:List (List Int)):List (List Int):=isort (dd L)
def srtG_len (L:List (List Int)):(srtG L).length<=L.length:=by
 unfold srtG;rw[(isort_perm _).length_eq];show Wz L
def afk {L xs:List (List Int)}(nd:xs.Nodup)(h:∀y,y∈xs↔y∈L):isort xs=srtG L:=
 isort_of ((isort_perm xs).trans (nodup_perm nd (nodup_dd L) λy=>(h y).trans mem_dd.symm)) (oj xs)
section
variable {prog:aV}{w:bA}{A:bV}{E:aE->aH->Prop}{s:aH}
def call_sorted_ofG (i:A.handled=LY)(q:L.length < 64)(j:∀x∈L,x≠[])
  (k:Got prog w h0 s.heap S (Ed w) L) (hk:∀b o,h0.get? b=KE o->s.heap.get? b=KE o)
  (h:∀d h' l out c,s.heap.get? d=LY->(∀b o,s.heap.get? b=KE o->h'.get? b=KE o)->h'.get? d=KE (eY "list" (fO out) c)->KeysL prog w h0 out (srtG L)->Q (.ref d) { s with heap:=h',toks:=l }) :
  aL (aX prog w) A (call (.builtin "sorted") [.ref S]) Q E s:=by
 obtain⟨t,xs,⟨o,r,ep,m,hex,hd,T,e⟩,n,f,g⟩:=k;have a:=e.length;rw[cQ]at a;rw[<-afk T.nd f]at h;show Oo hk i m {hex,hd,by rw[a];show T.tb,by rw[a];show T.fit,(),λp=>?_} e (λx g=>j x ((f x).mp g)) () h;rw[n];unfold Ed;rw[p];rfl
def call_sortedL (u:∀b o,h0.get? b=KE o->s.heap.get? b=KE o)(y:s.heap.IsList l vs.toArray)(g:KeysL prog w h0 vs xs)(z:∀x∈xs,x≠[])(C:xs.length < 64)
  (h:∀d h' D out c,s.heap.get? d=LY->(∀b o,s.heap.get? b=KE o->h'.get? b=KE o)->h'.get? d=KE (eY "list" (fO out) c)->KeysL prog w h0 out (isort xs)->Q (.ref d) { s with heap:=h',toks:=D }) :
  aL (aX prog w) A (call (.builtin "sorted") [.ref l]) Q E s:=by
 have I:=g.length;show Calls.call_function_entry kind_sorted plain_sorted entry_sorted (args_sorted1 _) ?_;unfold iP.«sorted»;show aA (m:=checkCount "sorted" 1 1 _) (wpAny_pure ?_);show aA (collect_list y ?_ (by rw[iE];lia));show aA (pR ?_ (by rw[iE];lia));generalize i:((s.heap.push (eY "list" #[] 0)).update ‹s› (fA (·++vs.toArray)))=f;have hsz:f.objs.size=‹s›+1:=(by rw[<-i,Heap.size_update,size_push']);have j:∀b o,s.heap.get? b=KE o->f.get? b=KE o:=λb o q=>by
  have n:b < ‹s›:=aU q;rw[<-i,Heap.get?_update_ne _ _ _ _ (bJ n),Heap.get?_push_ne _ _ _ (bJ n)];show q
 change aL _ _ _ _ _ { s with heap:=f.push (eY "list" vs.toArray 0) };have p:(f.push (eY "list" vs.toArray 0)).get? f.objs.size=KE (eY "list" vs.toArray 0):=aT _ rfl;have kp:∀b o,s.heap.get? b=KE o->(f.push (eY "list" vs.toArray 0)).get? b=KE o:=λb o e=>aF _ (j b o e);have r:s.heap.get? f.objs.size=LY:=by
  cases e:s.heap.get? f.objs.size with
  |none=>rfl
  |some J=>show MJ (aU (j _ _ e)) (fR _)
 show aA (dB (cN slot_list_sort {_,p,rfl} entry_list_sort ?body (args_list_sort _)))
 case body=>
  show K8 (s:={ s with heap:=f.push (eY "list" vs.toArray 0) }) p g (λx a k=>qd kp (qd u k)) z C λh' out c hk hd G=>?_;show{_,rfl,wpAny_pure {_,rfl,h _ h' s.toks out c r (λb o e=>hk b o (λH=>?_) (kp b o e)) hd G}};rw[H,r]at e;show nomatch e
end
end TupG
end PySem
namespace L2
open PySem PySem.Spec PyProof.Rows
section
variable {X:Cx}{e:MD}{te:TE}{x y:Str}{p p2 pos zA:Pos}
def tSrtG (K:aG)(te:TE):TE:=λc H Q=>te c H λv a=>∃l ys L,v=.ref l/\SqL K a l ys/\TupsV K a ys L/\L.length < 64/\(∀x∈L,x≠[])/\
 ∀d b,a d=LY->TupsV K a b (TupG.srtG L)->Q (.ref d) (upd a d (.lst b))
def afl (z:X.calm=LZ)(hu:X.A.units+8 < dJ)(hg:Gl X x)(hm:X.mg x=LY)(hv:dW x=KE (.builtin "sorted"))(ER:Gl X y)(CV:X.mg y=LY)(GF:dW y=KE (.type "set"))(he:PE X e te)
  (hn:x≠"__name__":=by decide) (xW:(x == ("__debug__":Str))=MA:=by decide) (AK:y≠"__name__":=by decide) (BZ:(y == ("__debug__":Str))=MA:=by decide)
  (hs:aN [.Call (.Name y p2) [e] [] zA] X.env=(MA,eval (.Call (.Name y p2) [e] [] zA) X.env)::aN [] X.env:=by rfl) (wM:(dP pos (aN [] X.env)).any (·.1)=MA:=by rfl)
  (C:aN [e] X.env=(MA,eval e X.env)::aN [] X.env:=by rfl) (ET:(dP zA (aN [] X.env)).any (·.1)=MA:=by rfl) :
  PE X (.Call (.Name x p) [.Call (.Name y p2) [e] [] zA] [] pos) (tSrtG X.K te):=by
 intro D s E H Q I h;show iA (kh I hg hm hv ?_ hn xW);show kC ?_ hs wM;rw[hs];change aL _ _ (tK ((MA,eval (.Call (.Name y p2) [e] [] zA) X.env)::dP pos (aN [] X.env))) _ _ s;show lQ ?_;show iA (kh I ER CV GF ?_ AK BZ);show eW ?_ C ET;rw[C];change aL _ _ (tK ((MA,eval e X.env)::dP zA (aN [] X.env))) _ _ s;show lQ (thn (he D s E H _ I h) λu f uU=>?_);obtain⟨v,j,g,r1,n⟩:=uU;obtain⟨l,ys,L,rfl,hl,G,N,xJ,n⟩:=n;cases r1;show mS ?_;obtain⟨its,O,pl,hz⟩:=g.list hl;have T:∀b o,(ur X.K j f.heap).get? b=KE o->f.heap.get? b=KE o:=λb o e=>(Ft e).1;show TupG.call_setG (items:=its.toArray) (L:=L) (h0:=ur X.K j f.heap) T (g.ok.hd z) hu pl.isList (by rw[aM,<-O.length];show Paired.length G) () (λi v e=>?_) λh' q hS hk=>?_
 ·obtain⟨a,x,e1,e2,k⟩:=G.get O i v (by simpa using e);show{a,x,e1,e2,g.tupK k}
 ·show mS ?_;show TupG.call_sorted_ofG (s:={ f with heap:=h',toks:=q }) (g.ok.hd z) N xJ hS (λb o e=>hk b o (T b o e)) λd r IY out c hd U IZ BE=>?_;obtain⟨m,JA,Y⟩:=g.ofKeysL BE;have hkk:∀b o,f.heap.get? b=KE o->r.get? b=KE o:=λb o e=>U b o (hk b o e);have J:Inv X D E j { f with heap:=h',toks:=q }:=g.kept (h':=h') (t':=q) hk;have JB:j d=LY:=J.hok.none_at hd;have uY:m.length<=sizeLine:=by
   have a1:=Paired.length Y;have a2:=TupG.srtG_len L;rw[a1];show bK (bK a2 (gR N)) (by decide)
  show{.ref d,upd j d (.lst m),?_,rfl,n d m JB Y};show J.laidN (h':=r) (t':=IY) U hd (show ObjOk X.prog X.w _ r d (.lst m)from#v[uY,out,c,JA,IZ])
def tSrtL (K:aG)(te:TE):TE:=λc H Q=>te c H λv a=>∃l ys L,v=.ref l/\SqL K a l ys/\TupsV K a ys L/\L.length < 64/\(∀x∈L,x≠[])/\
 ∀d b,a d=LY->TupsV K a b (TupSet.isort L)->Q (.ref d) (upd a d (.lst b))
theorem La (I:Inv X g h H s):∀{ys L its},TupsV X.K H ys L->Vals ys its->TupSet.KeysL X.prog X.w (ur X.K H s.heap) its L
 | [],[],[],_,_=>trivial
 |y::ys,x::L,v::its,.cons b c,.cons d f=>by
  obtain⟨a,rfl,k⟩:=b;cases d;show{{a,rfl,I.tupK k},La I c f}
def Z8 (r:Gl X x)(z:X.mg x=LY)(A:dW x=KE (.builtin "sorted"))(C:PE X e te)
  (D:x≠"__name__":=by decide) (E:(x == ("__debug__":Str))=MA:=by decide)
  (hs:aN [e] X.env=(MA,eval e X.env)::aN [] X.env:=by rfl) (G:(dP pos (aN [] X.env)).any (·.1)=MA:=by rfl) :
  PE X (.Call (.Name x p) [e] [] pos) (tSrtL X.K te):=by
 intro J s N H Q I h;show iA (kh I r z A ?_ D E);show kC ?_ hs G;rw[hs];change aL _ _ (tK ((MA,eval e X.env)::dP pos (aN [] X.env))) _ _ s;show lQ (thn (C J s N H _ I h) λu i O=>?_);obtain⟨v,f,a,T,j⟩:=O;obtain⟨l,ys,L,rfl,U,Y,m,xJ,j⟩:=j;cases T;show mS ?_;obtain⟨its,rv,pl,hz⟩:=a.list U;have BX:∀b o,(ur X.K f i.heap).get? b=KE o->i.heap.get? b=KE o:=λb o e=>(Ft e).1;show TupG.call_sortedL (h0:=ur X.K f i.heap) BX pl.isList (La a Y rv) xJ m λd n IY out c hd BJ IZ BE=>?_;obtain⟨g,JA,q⟩:=a.ofKeysL BE;have JB:f d=LY:=a.hok.none_at hd;have uY:g.length<=sizeLine:=by
  have a1:=Paired.length q;rw[a1,(TupSet.isort_perm L).length_eq];show bK (gR m) (by decide)
 show{.ref d,upd f d (.lst g),?_,rfl,j d g JB q};show a.laidN (h':=n) (t':=IY) BJ hd (show ObjOk X.prog X.w _ n d (.lst g)from#v[uY,out,c,JA,IZ])
end
open PySem.SeqAt
theorem uu [DecidableEq b]:∀(ks ls:List b),((bE (min ks.length ls.length)).all (λj=>decide (ks[j]?=ls[j]?)) && ks.length == ls.length)=decide (ks=ls)
 | [],[]=>by simp
 | [],_::_=>by simp
 |_::_,[]=>by simp
 |k::ks,l::ls=>by
  have c:=uu ks ls;have e:min (k::ks).length (l::ls).length=min ks.length ls.length+1:=(by simp only[aZ];lia);rw[e,List.range_succ_eq_map,sE,tF];have d:((bE (min ks.length ls.length)).all ((λj=>decide ((k::ks)[j]?=(l::ls)[j]?))∘Nat.succ))=(bE (min ks.length ls.length)).all (λj=>decide (ks[j]?=ls[j]?)):=by
   congr 1
  have f:((k::ks).length == (l::ls).length)=(ks.length == ls.length):=∅;rw[d,f,Bool.and_assoc,c];by_cases a:k=l
  ·subst a;simp
  ·simp[a]
section
variable {X:Cx}{f':List (MB×Obj)}{σ:St}{H:Hp}{s:aH}{A:bV}
def qz [DecidableEq n](o:Paired R xs ks)(p:Paired R ys ls)(d:Vals xs its)(f:Vals ys a)
  (q:∀(j:Nat)(k l:n),ks[j]?=KE k->ls[j]?=KE l->∀(x y:V)(u v:aE),R x k->R y l->RelV x u->RelV y v->EqAt A s u v (decide (k=l))) :
  ∀j (b:j < its.toArray.size) (c:j < a.toArray.size),EqAt A s its.toArray[j] a.toArray[j] (decide (ks[j]?=ls[j]?)):=by
 intro j b c;have l1:=d.length;have l2:=f.length;have g:j < xs.length:=(by rw[l1];simpa using b);have h:j < ys.length:=(by rw[l2];simpa using c);obtain⟨k,i,r⟩:=vy o (aB g);obtain⟨l,m,w⟩:=vy p (aB h);obtain⟨u,C,D⟩:=d.get (aB g);obtain⟨v,E,G⟩:=f.get (aB h);have I:its.toArray[j]=u:=by
  have z:its[j]?=KE its.toArray[j]:=(by simp[aB (by simpa using b:j < its.length)]);rw[C]at z;show(bU z).symm
 have J:a.toArray[j]=v:=by
  have z:a[j]?=KE a.toArray[j]:=(by simp[aB (by simpa using c:j < a.length)]);rw[E]at z;show(bU z).symm
 rw[I,J,i,m];have z:=q j k l i m _ _ _ _ r w D G;have e:decide (KE k=KE l)=decide (k=l):=(by rw[decide_eq_decide];show{bU,λz=>by rw[z]});rw[e];show z
def afm [DecidableEq o](I:Inv X f' σ H s)(fn:xs=ys->ks=ls)(c:SqT X.K H a xs)(d:SqT X.K H b ys)(f:Paired R xs ks)(g:Paired R ys ls)(p:A.units < dJ)
  (r:∀(j:Nat)(k l:o),ks[j]?=KE k->ls[j]?=KE l->∀(x y:V)(u v:aE),R x k->R y l->RelV x u->RelV y v->EqAt A.in1 s u v (decide (k=l))):EqAt A s (.ref a) (.ref b) (decide (ks=ls)):=by
 obtain⟨its,h,w,_⟩:=I.tuple c;obtain⟨i,m,z,_⟩:=I.tuple d;have C:its.toArray.size=ks.length:=(by rw[aM,<-h.length,Paired.length f]);have D:i.toArray.size=ls.length:=(by rw[aM,<-m.length,Paired.length g]);by_cases n:a=b
 ·subst n;have e:=I.tuple_inj c d;rw[MI (fn e)];show EqAt.same _
 ·have q:=RcAt.tuples (s:=s) (A:=A) (show s.heap.IsTuple a its.toArray from w) (show s.heap.IsTuple b i.toArray from z) p (qz f g h m r);rw[C,D,uu]at q;show EqAt.of_refs n q
end
section
variable {X:Cx}
def ajl (a:TA):TI:=λb H R=>a b H λvs c=>∃n:Nat,vs=[.int ((n:Int) - 1),.int (-1),.int (-1)]/\n < 1000000/\R (Zw ((n:Int) - 1) n) c
def Z9 (y:Gl X "range")(z:X.mg "range"=LY)(A:PA X [a,b,c] C)(hs:aN [a,b,c] X.env=[(MA,eval a X.env),(MA,eval b X.env),(MA,eval c X.env)]:=by rfl)(j:aN [b,c] X.env=[(MA,eval b X.env),(MA,eval c X.env)]:=by rfl) :
  PI X U (.Call (.Name "range" p) [a,b,c] [] i) (ajl C):=by
 intro l s m H R I h;show Call_ (kh I y z boot_range (eW (thn (A i l s m H _ I h) λus d ⟨vs,u,D,E,w⟩=>?_) (by rw[hs,j]) (by rw[j];rfl)));obtain⟨n,e,w,q⟩:=w;subst e;cases E with
 |cons r f=>
  cases f with
  |cons G f=>
   cases f with
   |cons J f=>
    cases f;obtain⟨t,rfl⟩:=r;obtain⟨t',rfl⟩:=G;obtain⟨g,rfl⟩:=J;show call_range_3 (by decide) ?_ (.inl (PyProof.noPylong_small ()));have L:((n:Int) - 1 - -1 - 1) / (- -1)=(n:Int) - 1:=by
     rw[show - (-1:Int)=1 by decide,sR];lia
    have x:jX ((n:Int) - 1) (-1) (-1)=n:=by
     unfold jX;rw[MG (by decide),L];by_cases h0:n=0
     ·subst h0;rfl
     ·rw[MF ()];lia
    have N:Builtin.Range.small ((n:Int) - 1) (-1) (-1)=LZ:=by
     unfold Builtin.Range.small;simp only[x,Builtin.Range.rangeFitsLong,cO,lM,decide_eq_true_eq,beq_iff_eq];simp;lia
    show wpAny_pyIter_range (IsRange.new ..) N ?_;have I2:Inv X l m u { d with heap:=d.heap.push { cls:=.type "range",data:=.fields #[.int ((n:Int) - 1) t,.int (-1) t',.int (-1) g] },toks:=d.toks }:=D.kept λb o e=>aF _ e;show⟨(d.heap.push { cls:=.type "range",data:=.fields #[.int ((n:Int) - 1) t,.int (-1) t',.int (-1) g] }).objs.size,[(d.heap.push { cls:=.type "range",data:=.fields #[.int ((n:Int) - 1) t,.int (-1) t',.int (-1) g] }).objs.size],_,_,u,rfl,I2.kept (t':=d.toks) λb o e=>aF _ e,Wg _ ((n:Int) - 1) n,?_,λb O=>?_,q⟩
    ·have Q:((n:Int) - 1)+((0:Nat):Int) * (-1)=(n:Int) - 1:=();have T:((n:Nat):Int) - ((0:Nat):Int)=jX ((n:Int) - 1) (-1) (-1):=by
      rw[x];lia
     change rE _ _ (((n:Int) - 1)+((0:Nat):Int) * (-1)) (((n:Nat):Int) - ((0:Nat):Int)) (-1);rw[Q,T];show aT _ rfl
    ·have e:b=(d.heap.push { cls:=.type "range",data:=.fields #[.int ((n:Int) - 1) t,.int (-1) t',.int (-1) g] }).objs.size:=(by simpa using O);subst e;show I2.fpOk (aJ _) (I2.hok.fresh (aJ _))
end
def AllP {a:Type}(p:a->Prop):List a->Prop
 | []=>True
 |x::r=>p x/\AllP p r
theorem AllP.mem:∀{l x},AllP p l->x∈l->p x
 |y::r,x,h,a=>by
  rcases aW.mp a with e | e
  ·rw[e];show h.1
  ·show h.2.mem e
def OutsP (X:Cx)(a:mE):List Str->List Nat->Prop
 | [],[]=>True
 |y::ys,i::fr=>(X.N[i]?=KE y/\X.env.kindOf y=KE .cell/\(lJ a X.env).names.lookup y=KE .cell)/\OutsP X a ys fr
 |_,_=>False
theorem OutsP.get:∀{ys:List Str}{fr:List Nat},OutsP X a ys fr->fr.length=ys.length/\∀(j:Nat)(y:Str),ys[j]?=KE y->∃i:Nat,fr[j]?=KE i/\X.N[i]?=KE y/\(X.env.kindOf y=KE .cell\/X.env.kindOf y=KE .free)/\((lJ a X.env).names.lookup y=KE .cell\/(lJ a X.env).names.lookup y=KE .free)
 | [],[],_=>{rfl,λj y e=>by cases j<;>cases e}
 |y::ys,i::fr,h=>by
  obtain⟨l,g⟩:=h.2.get;show{by rw[aZ,aZ,l],λj z e=>?_};cases j with
  |zero=>cases e;show{i,rfl,h.1.1,.inl h.1.2.1,.inl h.1.2.2}
  |succ j=>show g j z e
def csN {X:Cx}{a:mE}{cl:List (Str×MB)}(L:List (Str×qL))(clos:uI a X.env=pure cl:=by with_unfolding_all rfl)(kind:a.kind=.function:=by rfl)(nocell:∀y∈a.names,y.2≠.cell:=by decide +kernel)
  (locs:∀y∈a.names,y.2=.local->a.names.lookup y.1=KE .local:=by decide +kernel) (sub:AllP (λp=>X.env.cells.lookup p.1=KE p.2) cl:=by repeat' first | show trivial | with_unfolding_all rfl | constructor)
  (c:(lJ a X.env).names=L:=by with_unfolding_all rfl) (d:AllP (λp=>(p.2≠.cell/\p.2≠.free)\/(cl.lookup p.1).isSome=LZ) L:=by repeat' first | show trivial | show .inl {by decide,by decide} | show .inr (by with_unfolding_all rfl) | constructor)
  (outs:OutsP X a ys fr:=by repeat' first | show trivial | with_unfolding_all rfl | constructor):og X ns ys fr a cl:=
 cs_of L clos kind nocell locs (λ_ b=>sub.mem b) c (λp b hk=>by
   rcases d.mem b with h | h
   · show MJ hk (λz=>z.elim h.1 h.2)
   · show lT.mp h) outs.get.1 outs.get.2
def fsN (a:h.kind=.function:=by rfl)(b:h.isCoroutine=MA:=by rfl)(c:h.isGenerator=MA:=by rfl)(d:N.Nodup:=by decide +kernel)(e:N.take ps.length=ps:=by rfl)
  (f:∀x∈ps,h.names.lookup x=KE .local\/h.names.lookup x=KE .cell:=by decide +kernel) (g:∀y∈h.names,y.2≠.free:=by decide +kernel):fq N ps h:=#v[a,b,c,d,e,f,g]
def pg2 (e:X.calm=LZ)(nd:([a,b]++ys).Nodup:=by decide +kernel)
  (f:Loc (cxC X ([a,b]++ys) c cl C s H d).env.scope a:=by show aS rfl) (g:Loc (cxC X ([a,b]++ys) c cl C s H d).env.scope b:=by show aS rfl)
  (h:(cxC X ([a,b]++ys) c cl C s H d).env.scope.names.lookup a=KE .local:=by rfl) (j:(cxC X ([a,b]++ys) c cl C s H d).env.scope.names.lookup b=KE .local:=by rfl) :
  PG (cxC X ([a,b]++ys) c cl C s H d) (.Tuple [.Name a l,.Name b m] k n) (gTup X.K 2 (J4 (Bg 0) (J4 (Bg 1) Yz))):=
 Vf e (p9 (nr (i:=0) nd rfl f (.inr h)) (p9 (nr (i:=1) nd rfl g (.inr j)) Fg))
end L2
namespace VL
open PySem L2 PySem.Deep
structure B where
 P:aV
 w:bA
 K:aG
abbrev _root_.L2.Cx.B (X:Cx):B:=#v[X.prog,X.w,X.K]
inductive Tr where
 |v (x:V)
 |tup (l:List Tr)
 |lst (l:List Tr)
 |scr (l:List Tr)
 |dct (ks:List (List I2)) (l:List Tr)
 |dk (ks:List Key) (l:List Tr)
 |obj (C:MB) (fs:List Str) (l:List Tr)
abbrev Tr.int (i:Int):Tr:=.v (.int i)
abbrev Tr.bl (b:Bool):Tr:=.v (.bl b)
abbrev Tr.str (x:Str):Tr:=.v (.str x)
abbrev Tr.non:Tr:=.v .non
mutual
inductive Rp (b:B)(F:Hp):V->Tr->Prop where
 |v {x:V}:n9 x=LZ->Rp b F x (.v x)
 |tup {a:MB}{xs:List V}{l:List Tr}:SqT b.K F a xs->Rps b F xs l->Rp b F (.ref a) (.tup l)
 |lst {a:MB}{xs:List V}{l:List Tr}:F a=KE (.lst xs)->Rps b F xs l->Rp b F (.ref a) (.lst l)
 |scr {a:MB}{xs:List V}{l:List Tr}:SqL b.K F a xs->Rps b F xs l->Rp b F (.ref a) (.scr l)
 |dct {a:MB}{kvs:DE}{ks:List (List I2)}{l:List Tr}:DictAt b.P b.w b.K F a kvs->ks=kvs.map (·.1)->Rps b F (kvs.map (·.2.2)) l->Rp b F (.ref a) (.dct ks l)
 |dk {a:MB}{kvs:List (Key×V)}{ks:List Key}{l:List Tr}:F a=KE (.dK kvs)->ks=kvs.map (·.1)->Rps b F (kvs.map (·.2)) l->Rp b F (.ref a) (.dk ks l)
 |obj {a C dx:MB}{fs:List (Str×V)}{ns:List Str}{l:List Tr}:F a=KE (.ins C dx fs)->ns=fs.map (·.1)->Rps b F (fs.map (·.2)) l->Rp b F (.ref a) (.obj C ns l)
inductive Rps (b:B)(F:Hp):List V->List Tr->Prop where
 |nil:Rps b F [] []
 |cons {x:V}{xs:List V}{d:Tr}{l:List Tr}:Rp b F x d->Rps b F xs l->Rps b F (x::xs) (d::l)
end
section
variable {b:B}{F F' H H':Hp}
def yg (h:SqL K H a xs)(e:Same H H'):SqL K H' a xs:=by
 rcases h with(h | ⟨o,h⟩) | h
 ·show .inl (.inl (e _ _ h))
 ·show .inl (.inr {o,e _ _ h})
 ·show .inr h
mutual
theorem Rp.mono (e:Same F F'):∀{x d},Rp b F x d->Rp b F' x d
 |_,_,.v h=>.v h
 |_,_,.tup h r=>.tup (h.same e) (Rps.mono e r)
 |_,_,.lst h r=>.lst (e _ _ h) (Rps.mono e r)
 |_,_,.scr h r=>.scr (yg h e) (Rps.mono e r)
 |_,_,.dct h k r=>.dct (h.mono e) k (Rps.mono e r)
 |_,_,.dk h k r=>.dk (e _ _ h) k (Rps.mono e r)
 |_,_,.obj h k r=>.obj (e _ _ h) k (Rps.mono e r)
theorem Rps.mono (e:Same F F'):∀{xs l},Rps b F xs l->Rps b F' xs l
 |_,_,.nil=>.nil
 |_,_,.cons h r=>.cons (Rp.mono e h) (Rps.mono e r)
end
theorem Rps.length:∀{xs l},Rps b F xs l->xs.length=l.length
 |_,_,.nil=>rfl
 |_,_,.cons _ r=>by rw[aZ,aZ,r.length]
theorem Rps.append:∀{xs ys l m},Rps b F xs l->Rps b F ys m->Rps b F (xs++ys) (l++m)
 |_,_,_,_,.nil,s=>s
 |_,_,_,_,.cons h r,s=>.cons h (r.append s)
theorem Rps.take:∀{xs l},Rps b F xs l->∀n,Rps b F (xs.take n) (l.take n)
 |_,_,.nil,n=>by rw[List.take_nil,List.take_nil];show .nil
 |_,_,.cons h r,0=>.nil
 |_,_,.cons h r,n+1=>.cons h (r.take n)
theorem Rps.drop:∀{xs l},Rps b F xs l->∀n,Rps b F (xs.drop n) (l.drop n)
 |_,_,.nil,n=>by rw[List.drop_nil,List.drop_nil];show .nil
 |_,_,.cons h r,0=>.cons h r
 |_,_,.cons h r,n+1=>r.drop n
theorem Rps.reverse:∀{xs l},Rps b F xs l->Rps b F xs.reverse l.reverse
 |_,_,.nil=>.nil
 |_,_,.cons h r=>by rw[iK,iK];show(r.reverse).append (.cons h .nil)
theorem Rps.get:∀{xs:List V}{l:List Tr}{i:Nat}{d:Tr},Rps b F xs l->l[i]?=KE d->∃x,xs[i]?=KE x/\Rp b F x d
 |_,_,i,_,.nil,e=>by simp at e
 |_,_,0,_,.cons h r,e=>by simp at e;subst e;show{_,rfl,h}
 |_,_,i+1,_,.cons h r,e=>by
  obtain⟨x,a,c⟩:_:=Rps.get (i:=i) r (by simpa using e);show{x,by simpa using a,c}
theorem Rps.set (h':Rp b F y e):∀{xs l} i,Rps b F xs l->Rps b F (xs.set i y) (l.set i e)
 |_,_,_,.nil=>.nil
 |_,_,0,.cons _ r=>.cons h' r
 |_,_,i+1,.cons h r=>.cons h (Rps.set h' i r)
def Rp.vI (h:Rp b F x (.v y)):x=y/\n9 y=LZ:=by cases h with | v h=>show#v[rfl,h]
def Rp.tupI (h:Rp b F x (.tup l)):∃a xs,x=.ref a/\SqT b.K F a xs/\Rps b F xs l:=by cases h with | tup h r=>show{_,_,rfl,h,r}
def Rp.scrI (h:Rp b F x (.scr l)):∃a xs,x=.ref a/\SqL b.K F a xs/\Rps b F xs l:=by cases h with | scr h r=>show{_,_,rfl,h,r}
def Rp.lstI (h:Rp b F x (.lst l)):∃a xs,x=.ref a/\F a=KE (.lst xs)/\Rps b F xs l:=by cases h with | lst h r=>show{_,_,rfl,h,r}
end
structure Wd where
 F:Hp
 H:Hp
 C:Nat->Option MB
def CellOk (b:B)(F H:Hp)(a:MB):Tr->Prop
 | .lst l=>∃xs,H a=KE (.lst xs)/\Rps b F xs l
 | .dct ks l=>∃kvs ep,H a=KE (ji b.P b.w a ep kvs)/\(∀e∈kvs,KeyAt b.K F e.2.1 e.1)/\kvs.length<=sizeLine/\(a == fZ)=MA/\ks=kvs.map (·.1)/\Rps b F (kvs.map (·.2.2)) l
 | .dk ks l=>∃kvs,H a=KE (.dK kvs)/\ks=kvs.map (·.1)/\Rps b F (kvs.map (·.2)) l
 | .obj C ns l=>∃c fs,H a=KE (.ins C c fs)/\ns=fs.map (·.1)/\Rps b F (fs.map (·.2)) l
 |_=>False
inductive Ev where
 |val (d:Tr)
 |new (d:Tr)
 |cel (j:Nat)
inductive Wt where
 |v (d:Tr)
 |c (j:Nat)
structure M where
 loc:List (Option Wt)
 cel:List (Option Tr)
def Rev (b:B)(O W:Wd)(x:V):Ev->Prop
 | .val d=>Rp b W.F x d
 | .new d=>∃a,x=.ref a/\O.H a=LY/\W.F a=LY/\(∀j,W.C j≠KE a)/\CellOk b W.F W.H a d
 | .cel j=>∃a,x=.ref a/\∀c,W.C j=KE c->c=a
def Rwt (b:B)(W:Wd)(x:V):Wt->Prop
 | .v d=>Rp b W.F x d
 | .c j=>∃a,x=.ref a/\W.C j=KE a
structure Wok (b:B)(W:Wd)(cel:List (Option Tr)):Prop where
 sub:Same W.F W.H
 cell:∀j d,cel[j]?=KE (KE d)->∃a,W.C j=KE a/\W.F a=LY/\CellOk b W.F W.H a d
 live:∀j a,W.C j=KE a->∃d,cel[j]?=KE (KE d)
 dist:∀j k a,W.C j=KE a->W.C k=KE a->j=k
structure Rel (b:B)(W:Wd)(m:M)(σ:St):Prop where
 ok:Wok b W m.cel
 loc:∀(i:Nat)(w:Wt),m.loc[i]?=KE (KE w)->∃x,σ[i]?=KE (KE x)/\Rwt b W x w
 len:m.loc.length=σ.length
def imm:HO->Prop
 | .tup _=>True
 | .frz _ _=>True
 |_=>False
structure Le (W W':Wd):Prop where
 same:Same W.F W'.F
 fr:∀a o,W.H a=KE o->(∀j,W.C j≠KE a)->W'.H a=KE o
 nw:∀a,W.F a=LY->W'.F a≠LY->W.H a=LY\/(∃j,W.C j=KE a)\/∃o,W.H a=KE o/\imm o
 cl:∀j a,W'.C j=KE a->W.C j=KE a\/(W.H a=LY/\j≠0)
 dm:∀a,W'.H a=LY->W.H a=LY
structure Lx (W W':Wd):Prop extends Le W W' where
 cx:∀j a,W'.C j=KE a->W.C j=KE a
def Le.refl (W:Wd):Le W W:={λ_ _ h=>h,λ_ _ h _=>h,λ_ h h'=>MJ h h',λ_ _ h=>.inl h,λ_ h=>h}
theorem Lx.refl (W:Wd):Lx W W:={Le.refl W,λ_ _ h=>h}
def Le.trans (h:Le A B')(k:Le B' C):Le A C where
 same:=λa o e=>k.same a o (h.same a o e)
 fr:=λa o e n=>k.fr a o (h.fr a o e n) λj e'=>(h.cl j a e').elim (n j) λz=>by rw[e]at z;cases z.1
 nw:=λa e n=>by
  cases q:B'.F a with
  |some o=>show h.nw a e (by rw[q];show λz=>by cases z)
  |none=>
   rcases k.nw a q n with z | ⟨j,z⟩ | ⟨o,z,im⟩
   ·show .inl (h.dm a z)
   ·rcases h.cl j a z with z | z
    ·show .inr (.inl #v[j,z])
    ·show .inl z.1
   ·cases qa:A.H a with
    |none=>show .inl rfl
    |some u=>
     by_cases c:∃j,A.C j=KE a
     ·show .inr (.inl c)
     ·have:=h.fr a u qa λj e'=>c #v[j,e'];rw[z]at this;cases this;show .inr (.inr #v[o,rfl,im])
 cl:=λj a e=>by
  rcases k.cl j a e with z | z
  ·show h.cl j a z
  ·show .inr {h.dm a z.1,z.2}
 dm:=λa z=>h.dm a (k.dm a z)
theorem Lx.trans (h:Lx A b)(k:Lx b C):Lx A C:={h.toLe.trans k.toLe,λj a e=>h.cx j a (k.cx j a e)}
section
variable {b:B}{W W':Wd}{x:V}
def jx (h:KeyAt K H c ks)(e:Same H H'):KeyAt K H' c ks:=h.tups (Tups.of e)
theorem CellOk.mono (h:CellOk b F H a d)(e:Same F F')(k:∀o,H a=KE o->H' a=KE o):CellOk b F' H' a d:=by
 cases d with
 |lst l=>obtain⟨xs,c,f⟩:_:=h;show{xs,k _ c,f.mono e}
 |dct ks l=>obtain⟨kvs,ep,c,f,g,i,j,m⟩:_:=h;show{kvs,ep,k _ c,λx n=>jx (f x n) e,g,i,j,m.mono e}
 |dk ks l=>obtain⟨kvs,c,f,g⟩:_:=h;show{kvs,k _ c,f,g.mono e}
 |v _=>show h.elim
 |tup _=>show h.elim
 |scr _=>show h.elim
 |obj C ns l=>obtain⟨p,fs,c,f,g⟩:_:=h;show{p,fs,k _ c,f,g.mono e}
def CellOk.has (h:CellOk b F H a d):∃o,H a=KE o:=by
 cases d with
 |lst l=>obtain⟨xs,c,e⟩:_:=h;show{_,c}
 |dct ks l=>obtain⟨kvs,ep,c,_⟩:_:=h;show{_,c}
 |dk ks l=>obtain⟨kvs,c,_⟩:_:=h;show{_,c}
 |v _=>show h.elim
 |tup _=>show h.elim
 |scr _=>show h.elim
 |obj C ns l=>obtain⟨f,fs,c,_⟩:_:=h;show{_,c}
def CellOk.nimm (h:CellOk b F H a d):∀o,H a=KE o->¬imm o:=λo e=>by
 cases d with
 |lst l=>obtain⟨xs,c,f⟩:_:=h;rw[c]at e;cases e;show λz=>z
 |dct ks l=>obtain⟨kvs,ep,c,_⟩:_:=h;rw[c]at e;cases e;show λz=>z
 |dk ks l=>obtain⟨kvs,c,_⟩:_:=h;rw[c]at e;cases e;show λz=>z
 |v _=>show h.elim
 |tup _=>show h.elim
 |scr _=>show h.elim
 |obj C ns l=>obtain⟨g,fs,c,_⟩:_:=h;rw[c]at e;cases e;show λz=>z
def CellOk.rp (h:CellOk b F H a d)(e:Same F H):Rp b H (.ref a) d:=by
 cases d with
 |lst l=>obtain⟨xs,c,f⟩:_:=h;show .lst c (f.mono e)
 |dct ks l=>obtain⟨kvs,ep,c,f,g,i,j,m⟩:_:=h;show .dct {#v[ep,c],λx n=>jx (f x n) e,g,i} j (m.mono e)
 |dk ks l=>obtain⟨kvs,c,f,g⟩:_:=h;show .dk c f (g.mono e)
 |v _=>show h.elim
 |tup _=>show h.elim
 |scr _=>show h.elim
 |obj C ns l=>obtain⟨o,fs,c,f,g⟩:_:=h;show .obj c f (g.mono e)
def dz (F H:Hp)(a:MB):Hp:=λx=>if x=a then H a else F x
def q5 (h:F a=LY):Same F (dz F H a):=λx o e=>by
 unfold dz;by_cases c:x=a
 ·subst c;rw[h]at e;cases e
 ·rw[MG c];show e
def v8 (h:Same F H):Same (dz F H a) H:=λx o e=>by
 unfold dz at e;by_cases c:x=a
 ·subst c;rw[MF rfl]at e;show e
 ·rw[MG c]at e;show h _ _ e
def CellOk.keep (h:CellOk b F H a d)(n:F a=LY):Rp b (dz F H a) (.ref a) d:=
 (h.mono (F':=dz F H a) (H':=dz F H a) (q5 n) λo e=>by unfold dz;rw[MF rfl];show e).rp λ_ _ e=>e
theorem Rev.mono (h:Rev b O W x i)(l:Lx W W'):Rev b O W' x i:=by
 cases i with
 |val d=>show Rp.mono l.same h
 |new d=>
  obtain⟨a,rfl,h0,c,f,g⟩:_:=h;obtain⟨o,n⟩:_:=g.has;show{a,rfl,h0,?_,λj e=>f j (l.cx j a e),g.mono l.same λo e=>l.fr a o e f};cases q:W'.F a with
  |none=>rfl
  |some r=>
   rcases l.nw a c (by rw[q];show λz=>by cases z)with z | ⟨j,z⟩ | ⟨u,z,p⟩
   ·rw[n]at z;cases z
   ·show MJ z (f j)
   ·show MJ p (g.nimm u z)
 |cel j=>obtain⟨a,rfl,c⟩:_:=h;show{a,rfl,λm e=>c m (l.cx j m e)}
def Rev.old (h:Rev b O W x c)(l:Le e O):Rev b e W x c:=by
 cases c with
 |val d=>show h
 |new d=>obtain⟨a,rfl,h0,h⟩:_:=h;show{a,rfl,l.dm a h0,h}
 |cel j=>show h
end
abbrev GE:=M->(Ev->M->Prop)->Prop
abbrev GT:=M->(Bool->M->Prop)->Prop
abbrev GA:=M->(List Ev->M->Prop)->Prop
structure v9 where
 nx:M->Prop
 rt:Ev->M->Prop
 bk:M->Prop:=λ_=>False
 ct:M->Prop:=λ_=>False
abbrev GS:=v9->M->Prop
def lf (b:B)(f:GE):TE:=λc H Q=>∃W m R,W.H=H/\Rel b W m c/\f m R/\∀d e a x,R d e->Lx W a->Rel b a e c->Rev b W a x d->Q x a.H
def lfT (b:B)(f:GT):TT:=λd H Q=>∃W m R,W.H=H/\Rel b W m d/\f m R/\∀c e a,R c e->Lx W a->Rel b a e d->Q c a.H
def lfA (b:B)(f:GA):TA:=λc H Q=>∃W m R,W.H=H/\Rel b W m c/\f m R/\∀d e a xs,R d e->Lx W a->Rel b a e c->Paired (Rev b W a) xs d->Q xs a.H
def lfS (b:B)(O:Wd)(g:GS):TS:=λD f H=>∃W m E,W.H=H/\Le O W/\Rel b W m f/\g E m/\(∀d c a,E.nx d->Le O c->Same W.F c.F->Rel b c d a->D.nx a c.H)/\
 (∀e d c a x,E.rt e d->Le O c->Rel b c d a->Rev b O c x e->D.rt x c.H)/\(∀d c a,E.bk d->Le O c->Same W.F c.F->Rel b c d a->D.bk a c.H)/\(∀d c a,E.ct d->Le O c->Same W.F c.F->Rel b c d a->D.ct a c.H)
structure VE (X:Cx)(e:MD)(f:GE):Prop where
 out:PE X e (lf X.B f)
structure VT (X:Cx)(e:MD)(f:GT):Prop where
 out:PT X e (lfT X.B f)
structure VW (X:Cx)(e:MD)(f:GT):Prop where
 out:PW X e (lfT X.B f)
structure VA (X:Cx)(es:List MD)(f:GA):Prop where
 out:PA X es (lfA X.B f)
structure VS (X:Cx)(st:ME)(g:GS):Prop where
 out:∀O,PS X st (lfS X.B O g)
structure VSs (X:Cx)(st:List ME)(g:GS):Prop where
 out:∀O,PSs X st (lfS X.B O g)
section
variable {X:Cx}
def PE.sub (h:PE X e t')(k:∀a H Q,t a H Q->t' a H Q):PE X e t:=λb s a H Q I q=>h b s a H Q I (k a H Q q)
def PT.sub (h:PT X e t')(k:∀a H Q,t a H Q->t' a H Q):PT X e t:=λb s a H Q I q=>h b s a H Q I (k a H Q q)
def PW.sub (h:PW X e t')(k:∀a H Q,t a H Q->t' a H Q):PW X e t:=λb c s a H Q I q=>h b c s a H Q I (k a H Q q)
def PA.sub (h:PA X c t')(k:∀a H Q,t a H Q->t' a H Q):PA X c t:=λb d s a H Q I q=>h b d s a H Q I (k a H Q q)
def PS.sub (h:PS X st t')(k:∀D a H,t D a H->t' D a H):PS X st t:=λb s a H D I q=>h b s a H D I (k D a H q)
def PSs.sub (h:PSs X st t')(k:∀D a H,t D a H->t' D a H):PSs X st t:=λb s a H D I q=>h b s a H D I (k D a H q)
end
def Same.tr (h:Same A b)(k:Same b C):Same A C:=λa o e=>k a o (h a o e)
def Same.id:Same A A:=λ_ _ e=>e
def lk (m:M):Ev->(Tr->Prop)->Prop
 | .val d,Q=>Q d
 | .new d,Q=>Q d
 | .cel j,Q=>match m.cel[j]? with
  |some (KE d)=>Q d
  |_=>False
def frzW (j:Nat)(d:Tr):Option Wt->Option Wt
 |some (.c k)=>if k=j then KE (.v d)else KE (.c k)
 |w=>w
def frz (m:M)(j:Nat)(d:Tr):M:={m.loc.map (frzW j d),m.cel.set j LY}
def fz (m:M):Ev->(Tr->M->Prop)->Prop
 | .val d,Q=>Q d m
 | .new d,Q=>Q d m
 | .cel j,Q=>match m.cel[j]? with
  |some (KE d)=>Q d (frz m j d)
  |_=>False
def Top (b:B)(W:Wd)(x:V):Tr->Prop
 | .lst l=>∃a xs,x=.ref a/\W.H a=KE (.lst xs)/\Rps b W.F xs l
 | .dct ks l=>∃a kvs,x=.ref a/\DictAt b.P b.w b.K W.H a kvs/\(∀e∈kvs,KeyAt b.K W.F e.2.1 e.1)/\ks=kvs.map (·.1)/\Rps b W.F (kvs.map (·.2.2)) l
 | .dk ks l=>∃a kvs,x=.ref a/\W.H a=KE (.dK kvs)/\ks=kvs.map (·.1)/\Rps b W.F (kvs.map (·.2)) l
 | .obj C ns l=>∃a c fs,x=.ref a/\W.H a=KE (.ins C c fs)/\ns=fs.map (·.1)/\Rps b W.F (fs.map (·.2)) l
 |d=>Rp b W.F x d
section
variable {b:B}{W W':Wd}{x:V}{d:Tr}{cel:List (Option Tr)}{σ:St}{m:M}
def Top.of (h:Rp b W.F x d)(e:Same W.F W.H):Top b W x d:=by
 cases h with
 |v h=>show .v h
 |tup h r=>show .tup h r
 |scr h r=>show .scr h r
 |obj h k r=>show{_,_,_,rfl,e _ _ h,k,r}
 |lst h r=>show{_,_,rfl,e _ _ h,r}
 |dct h k r=>show{_,_,rfl,h.mono e,h.keys,k,r}
 |dk h k r=>show{_,_,rfl,e _ _ h,k,r}
def Top.rp (h:Top b W x d)(e:Same W.F W.H):Rp b W.H x d:=by
 cases d with
 |v _=>show Rp.mono e h
 |tup _=>show Rp.mono e h
 |scr _=>show Rp.mono e h
 |obj C ns l=>obtain⟨a,c,fs,rfl,h,k,r⟩:_:=h;show .obj h k (r.mono e)
 |lst l=>obtain⟨a,xs,rfl,h,r⟩:_:=h;show .lst h (r.mono e)
 |dct ks l=>obtain⟨a,kvs,rfl,h,_,k,r⟩:_:=h;show .dct h k (r.mono e)
 |dk ks l=>obtain⟨a,kvs,rfl,h,k,r⟩:_:=h;show .dk h k (r.mono e)
def CellOk.top (h:CellOk b W.F W.H a d)(e:Same W.F W.H):Top b W (.ref a) d:=by
 cases d with
 |lst l=>obtain⟨xs,f,c⟩:_:=h;show#v[a,xs,rfl,f,c]
 |dct ks l=>obtain⟨kvs,ep,f,c,g,i,j,n⟩:_:=h;show{a,kvs,rfl,{#v[ep,f],λx o=>jx (c x o) e,g,i},c,j,n}
 |dk ks l=>obtain⟨kvs,f,c,g⟩:_:=h;show#v[a,kvs,rfl,f,c,g]
 |v _=>show h.elim
 |tup _=>show h.elim
 |scr _=>show h.elim
 |obj C ns l=>obtain⟨p,fs,f,c,g⟩:_:=h;show#v[a,p,fs,rfl,f,c,g]
def rf (e:lk m (.cel j) Q):∃d,m.cel[j]?=KE (KE d)/\Q d:=by
 change (match m.cel[j]? with | some (KE d)=>Q d | _=>False)at e
 rcases h:m.cel[j]? with _ | _ | d
 ·rw[h]at e;show e.elim
 ·rw[h]at e;show e.elim
 ·rw[h]at e;show#v[d,rfl,e]
def ajm (e:fz m (.cel j) Q):∃d,m.cel[j]?=KE (KE d)/\Q d (frz m j d):=by
 change (match m.cel[j]? with | some (KE d)=>Q d (frz m j d) | _=>False)at e
 rcases h:m.cel[j]? with _ | _ | d
 ·rw[h]at e;show e.elim
 ·rw[h]at e;show e.elim
 ·rw[h]at e;show#v[d,rfl,e]
variable {O:Wd}
def gr (ok:Wok b W m.cel)(h:Rev b O W x c)(e:lk m c Q):∃d,Top b W x d/\Q d:=by
 cases c with
 |val d=>show{d,Top.of h ok.sub,e}
 |new d=>
  obtain⟨a,rfl,_,_,_,f⟩:_:=h;show{d,f.top ok.sub,e}
 |cel j=>
  obtain⟨a,rfl,g⟩:_:=h;obtain⟨d,i,e⟩:_:=rf e;obtain⟨l,n,f,o⟩:_:=ok.cell j d i;cases g l n;show{d,o.top ok.sub,e}
def km (n:c≠a):dz F H a c=F c:=by unfold dz;rw[MG n]
def mr (l:Lx O W)(f:Rel b W m σ)(h:Rev b O W x Y)(e:fz m Y Q):∃d m' W',Q d m'/\Lx O W'/\W'.H=W.H/\Rel b W' m' σ/\Rp b W'.F x d:=by
 cases Y with
 |val d=>show#v[d,m,W,e,l,rfl,f,h]
 |new d=>
  obtain⟨a,rfl,h0,s,L,G⟩:_:=h;have E:Same W.F (dz W.F W.H a):=q5 s;show{d,m,{dz W.F W.H a,W.H,W.C},e,{{λc o z=>E c o (l.same c o z),l.fr,λc z n=>?_,l.cl,l.dm},l.cx},rfl,{{v8 f.ok.sub,λj d' N=>?_,f.ok.live,f.ok.dist},λi w hw=>?_,f.len},G.keep s}
  ·by_cases q:c=a
   ·subst q;show .inl h0
   ·have I:dz W.F W.H a c≠LY:=n;rw[km q]at I;show l.nw c z I
  ·obtain⟨u,r,g,A⟩:_:=f.ok.cell j d' N;show{u,r,?_,A.mono E λ_ z=>z};change dz W.F W.H a u=LY;rw[km (λz=>L j (by rw[<-z];show r))];show g
  ·obtain⟨y,r,g⟩:_:=f.loc i w hw;show{y,r,?_};cases w with
   |v d'=>show Rp.mono E g
   |c j=>show g
 |cel j=>
  obtain⟨a,rfl,s⟩:_:=h;obtain⟨d,N,e⟩:_:=ajm e;obtain⟨u,L,G,h4⟩:_:=f.ok.cell j d N;cases s u L;have s:=L;have E:Same W.F (dz W.F W.H a):=q5 G;have J:∀k c,(if k=j then LY else W.C k)=KE c->k≠j/\W.C k=KE c:=λk c z=>by
   by_cases q:k=j
   ·rw[MF q]at z;cases z
   ·rw[MG q]at z;show#v[q,z]
  show{d,frz m j d,{dz W.F W.H a,W.H,λk=>if k=j then LY else W.C k},e,{{λc o z=>E c o (l.same c o z),l.fr,λc z n=>?_,λk c z=>l.cl k c (J k c z).2,l.dm},λk c z=>l.cx k c (J k c z).2},rfl,{{v8 f.ok.sub,λk d' hk=>?_,λk c z=>?_,λk k' c z z'=>f.ok.dist k k' c (J k c z).2 (J k' c z').2},λi w hw=>?_,by change(m.loc.map _).length=_;rw[aC];show f.len},h4.keep G}
  ·by_cases q:c=a
   ·subst q;show .inr (.inl {j,l.cx j c s})
   ·have I:dz W.F W.H a c≠LY:=n;rw[km q]at I;show l.nw c z I
  ·have T:(m.cel.set j LY)[k]?=KE (KE d'):=hk;have p:k≠j:=λz=>by
    subst z;rw[cY (bH.mp N).1]at T;cases T
   rw[cM (λz=>p z.symm)]at T;obtain⟨u,r,g,A⟩:_:=f.ok.cell k d' T;show{u,by change(if k=j then LY else W.C k)=_;rw[MG p];show r,?_,A.mono E λ_ z=>z}
   change dz W.F W.H a u=LY;rw[km (λz=>p (f.ok.dist k j u r (by rw[z];show s)))];show g
  ·obtain⟨p,z⟩:_:=J k c z;obtain⟨d',q⟩:_:=f.ok.live k c z;show{d',by change(m.cel.set j LY)[k]?=_;rw[cM (λz=>p z.symm)];show q}
  ·have D:(m.loc.map (frzW j d))[i]?=KE (KE w):=hw;rw[aK]at D;rcases q:m.loc[i]? with _ | _ | w0
   ·rw[q]at D;cases D
   ·rw[q]at D;cases D
   ·rw[q]at D;obtain⟨y,r,g⟩:_:=f.loc i w0 q;show{y,r,?_};cases w0 with
    |v d'=>cases D;show Rp.mono E g
    |c k=>
     have U:(if k=j then KE (Wt.v d)else KE (.c k))=KE w:=by simpa[frzW]using D
     by_cases p:k=j
     ·rw[MF p]at U;cases U;obtain⟨c,rfl,A⟩:_:=g;rw[p,s]at A;cases A;show h4.keep G
     ·rw[MG p]at U;cases U;obtain⟨c,rfl,A⟩:_:=g;show{c,rfl,by change(if k=j then LY else W.C k)=_;rw[MG p];show A}
def qe (ok:Wok b W cel)(c:W.H p=LY)(l:CellOk b W.F (upd W.H p o) p d) :
  Lx W {W.F,upd W.H p o,W.C}/\Wok b {W.F,upd W.H p o,W.C} cel/\Rev b W {W.F,upd W.H p o,W.C} (.ref p) (.new d):=by
 have k:∀a u,W.H a=KE u->upd W.H p o a=KE u:=λa u e=>(by rw[bc (cf e c)];show e);have Fn:W.F p=LY:=by
  cases q:W.F p with
  |none=>rfl
  |some u=>have:=ok.sub _ _ q;rw[c]at this;cases this
 have r:∀j,W.C j≠KE p:=λj e=>by
  obtain⟨d',q⟩:_:=ok.live j p e;obtain⟨a,f,h,g⟩:_:=ok.cell j d' q;rw[e]at f;cases f;obtain⟨u,i⟩:_:=g.has;rw[c]at i;cases i
 show{{{λ_ _ z=>z,λa u e _=>k a u e,λ_ z n=>MJ z n,λ_ _ z=>.inl z,λa z=>?_},λ_ _ z=>z},{λa u z=>k a u (ok.sub a u z),λj d' s=>?_,ok.live,ok.dist},p,rfl,c,Fn,r,l}
 ·cases q:W.H a with
  |none=>rfl
  |some u=>have:=k a u q;rw[show upd W.H p o a=LY from z]at this;cases this
 ·obtain⟨a,f,h,g⟩:_:=ok.cell j d' s;show{a,f,h,g.mono (λ_ _ z=>z) λu e=>k a u e}
def Fv (ok:Wok b W cel)(c:W.H p=LY)(l:Rp b (upd W.F p o) (.ref p) d) :
  Lx W {upd W.F p o,upd W.H p o,W.C}/\Wok b {upd W.F p o,upd W.H p o,W.C} cel/\Rev b W {upd W.F p o,upd W.H p o,W.C} (.ref p) (.val d):=by
 have k:∀a u,W.H a=KE u->upd W.H p o a=KE u:=λa u e=>(by rw[bc (cf e c)];show e);have Fn:W.F p=LY:=by
  cases q:W.F p with
  |none=>rfl
  |some u=>have:=ok.sub _ _ q;rw[c]at this;cases this
 have g:Same W.F (upd W.F p o):=λa u e=>(by rw[bc (cf e Fn)];show e);have h:∀{a},a≠p->upd W.F p o a=W.F a:=λn=>bc n;show{{{g,λa u e _=>k a u e,λa z n=>?_,λ_ _ z=>.inl z,λa z=>?_},λ_ _ z=>z},{λa u z=>?_,λj d' r=>?_,ok.live,ok.dist},l}
 ·by_cases q:a=p
  ·subst q;show .inl c
  ·show MJ z (by rw[<-h q];show n)
 ·cases q:W.H a with
  |none=>rfl
  |some u=>have:=k a u q;rw[show upd W.H p o a=LY from z]at this;cases this
 ·have f:upd W.F p o a=KE u:=z;change upd W.H p o a=KE u;by_cases q:a=p
  ·subst q;rw[bp]at f ⊢;show f
  ·rw[bc q]at f ⊢;show ok.sub a u f
 ·obtain⟨a,s,w,i⟩:_:=ok.cell j d' r;obtain⟨u,y⟩:_:=i.has;show{a,s,by change upd W.F p o a=LY;rw[h (cf y c)];show w,i.mono g λu e=>k a u e}
open Classical in
noncomputable def lq (F H:Hp):Hp:=λa=>if (∃o,H a=KE o/\imm o)then H a else F a
def afn (ok:Wok b W cel):Lx W {lq W.F W.H,W.H,W.C}/\Wok b {lq W.F W.H,W.H,W.C} cel/\Same W.F (lq W.F W.H):=by
 have g:Same W.F (lq W.F W.H):=λa u e=>by
  unfold lq
  split
  ·show ok.sub a u e
  ·show e
 show{{{g,λ_ _ h _=>h,λa z n=>?_,λ_ _ z=>.inl z,λ_ z=>z},λ_ _ z=>z},{λa u z=>?_,λj d' p=>?_,ok.live,ok.dist},g}
 ·have i:lq W.F W.H a≠LY:=n;unfold lq at i
  split at i
  ·rename_i c;show .inr (.inr c)
  ·show MJ z i
 ·have f:lq W.F W.H a=KE u:=z;unfold lq at f
  split at f
  ·show f
  ·show ok.sub a u f
 ·obtain⟨a,q,r,l⟩:_:=ok.cell j d' p;show{a,q,?_,l.mono g λ_ e=>e};change lq W.F W.H a=LY;unfold lq;rw[MG (λ⟨o,z,s⟩=>l.nimm o z s)];show r
def aab (h:SqT K H a xs):SqT K (lq F H) a xs:=by
 rcases h with(h | ⟨o,h⟩) | h
 ·show .inl (.inl (by unfold lq;rw[MF {_,h,trivial}];show h))
 ·show .inl (.inr {o,by unfold lq;rw[MF {_,h,trivial}];show h})
 ·show .inr h
def Rel.lift (f:Rel b W m σ)(l:Lx W W')(e:∀j,W'.C j=W.C j)(ok:Wok b W' m.cel):Rel b W' m σ:=⟨ok,λi w hw=>by
  obtain⟨y,h,g⟩:_:=f.loc i w hw;show{y,h,?_};cases w with
  |v d'=>show Rp.mono l.same g
  |c j=>obtain⟨a,n,o⟩:_:=g;show{a,n,by rw[e];show o},f.len⟩
end
section
variable {X:Cx}
def aa (i:Nat):GE:=λm Q=>match m.loc[i]? with
 |some (KE (.v d))=>Q (.val d) m
 |some (KE (.c j))=>Q (.cel j) m
 |_=>False
def ajn (g:X.N[i]?=KE x)(l:Vis X.env.scope x)(hd:(x == ("__debug__":Str))=MA:=by decide)(n:(x == ("__classdict__":Str))=MA:=by decide):VE X (.Name x o) (aa i):=⟨PE.sub (ug g l hd n) λu H Q ⟨W,m,R,p,b,h,q⟩=>by
    subst p;change (match m.loc[i]? with | some (KE (.v d))=>R (.val d) m | some (KE (.c j))=>R (.cel j) m | _=>False)at h
    rcases e:m.loc[i]? with _ | _ | w
    · rw[e]at h;show h.elim
    · rw[e]at h;show h.elim
    · rw[e]at h;obtain⟨y,r,f⟩:=b.loc i w e;show{y,r,?_};cases w with
      |v d=>show q _ m W y h (Lx.refl W) b f
      |c j=>
        obtain⟨a,rfl,s⟩:=f;show q _ m W _ h (Lx.refl W) b {a,rfl,λz e=>by rw[s]at e;cases e;rfl}⟩
def gC (d:Tr):GE:=λm Q=>Q (.val d) m
def Aj (h:∀F,Rp b F v d):∀a H Q,lf b (gC d) a H Q->tC v a H Q:=λa H Q ⟨W,m,R,c,e,f,q⟩=>by
 subst c;show q _ m W v f (Lx.refl W) e (h W.F)
def ag:VE X (.Constant (.int i) j a) (gC (.v (.int i))):=#v[PE.sub Kg (Aj λ_=>.v rfl)]
def ft:VE X (.Constant (.bool c) j a) (gC (.v (.bl c))):=#v[PE.sub pe_bl (Aj λ_=>.v rfl)]
def om:VE X (.Constant .none j a) (gC (.v .non)):=#v[PE.sub ahn (Aj λ_=>.v rfl)]
def bz:VE X (.Constant (.str x) j a) (gC (.v (.str x))):=#v[PE.sub aho (Aj λ_=>.v rfl)]
def afo (a:Gl X x)(b:X.mg x=KE u)(r:RelV v u)(h:∀F,Rp X.B F v d)(hd:(x == ("__debug__":Str))=MA:=by decide):VE X (.Name x c) (gC d):=#v[PE.sub (adq a b r hd) (Aj h)]
abbrev G2:=Tr->Tr->(Ev->Prop)->Prop
def gOp (r:G2)(fa b:GE):GE:=λm Q=>fa m λc d=>b d λe a=>lk a c λx=>lk a e λy=>r x y λf=>Q f a
structure After (b:B)(W:Wd)(cel:List (Option Tr))(W':Wd):Prop where
 lx:Lx W W'
 cs:∀j,W'.C j=W.C j
 ok:Wok b W' cel
def rG (b:B)(r:G2):R2:=λx y H Q=>∃W cel c d R,W.H=H/\Wok b W cel/\Top b W x c/\Top b W y d/\r c d R/\∀e a z,R e->After b W cel a->Rev b W a z e->Q z a.H
def OpG (X:Cx)(f:aE->aE->Sem aE)(r:G2):Prop:=OpR X f (rG X.B r)
theorem After.refl (ok:Wok b W cel):After b W cel W:={Lx.refl W,λ_=>rfl,ok}
def xr (h:lf b (gOp r fa f) d H Q):lf b fa d H λx g=>lf b f d g λy i=>rG b r x y i Q:=by
 obtain⟨W,m,R,j,l,h,q⟩:=h;show{W,m,_,j,l,h,λT n o x p l1 s u=>{o,n,_,rfl,s,p,λU e W2 y w l2 a A=>?_}};obtain⟨C,D,E⟩:=gr a.ok (u.mono l2) w;obtain⟨G,ty,I⟩:=gr a.ok A E;show{W2,e.cel,C,G,_,rfl,a.ok,D,ty,I,λJ L z N c O=>q J e L z N (l1.trans (l2.trans c.lx)) (a.lift c.lx c.cs c.ok) (O.old (l1.trans l2).toLe)}
def aq (c:OpG X (eA op) r)(d:VE X a fa)(e:VE X b f):VE X (.BinOp a op b g) (gOp r fa f):=#v[PE.sub (pe_op c d.out e.out) λ_ _ _ h=>xr h]
def uv (c:OpG X (eJ op) r)(d:VE X a fa)(e:VE X b f)(g:pP op b=MA:=by rfl):VE X (.Compare a [op] [b] i) (gOp r fa f):=#v[PE.sub (aea c d.out e.out g) λ_ _ _ h=>xr h]
def gT (f:GE):GT:=λm Q=>f m λa b=>match a with
 | .val (.v (.bl c))=>Q c b
 |_=>False
def Rk (h:lfT b (gT f) c H Q):lf b f c H λx H'=>∃k,x=.bl k/\Q k H':=by
 obtain⟨W,m,R,d,e,h,q⟩:=h;show{W,m,_,d,e,h,λn g i x a l1 j l=>?_}
 split at a
 ·obtain⟨rfl,_⟩:=Rp.vI l;show{_,rfl,q _ g i a l1 j}
 ·show a.elim
def az (ho:OpG X (eJ op) r)(ha:VE X a fa)(hb:VE X b fb)(hm:pP op b=MA:=by rfl):VT X (.Compare a [op] [b] pos) (gT (gOp r fa fb)):=#v[PT.sub (aeb ho ha.out hb.out hm) λσ H Q h=>op_lift (Rk h)]
where op_lift {b:B}{r:G2}{fa fb:GE}{σ:St}{H:Hp}{Q:VK}(h:lf b (gOp r fa fb) σ H Q):tOp (rG b r) (lf b fa) (lf b fb) σ H Q:=xr h
def oo (f:GT):GT:=λm Q=>f m λc a=>Q (!c) a
def uw (f g:GT):GT:=λm Q=>f m λc a=>if c=LZ then g a Q else Q MA a
def gOr (f g:GT):GT:=λm Q=>f m λc a=>if c=LZ then Q LZ a else g a Q
def jm (h:VT X a f):VT X (.UnaryOp .Not a b) (oo f):=#v[PT.sub (ahr h.out) λn H Q ⟨W,m,R,d,e,h,q⟩=>{W,m,_,d,e,h,λc g i j l1 l=>q _ g i j l1 l}]
def gu (h:VT X a f):VW X (.BoolOp op [a] b) f:=by
 show#v[?_];cases op
 ·show adt h.out
 ·show ahp h.out
def aac (h:lfT b (uw f g) a H Q):lfT b f a H λc d=>if c=LZ then lfT b g a d Q else Q MA d:=by
 obtain⟨W,m,R,n,o,h,q⟩:=h;show{W,m,_,n,o,h,λc e i j l1 l=>?_};cases c with
 |true=>show{i,e,_,rfl,l,j,λc p W2 r l2 s=>q c p W2 r (l1.trans l2) s}
 |false=>show q _ e i j l1 l
def afp (h:lfT b (gOr f g) a H Q):lfT b f a H λc d=>if c=LZ then Q LZ d else lfT b g a d Q:=by
 obtain⟨W,m,R,n,o,h,q⟩:=h;show{W,m,_,n,o,h,λc e i j l1 l=>?_};cases c with
 |false=>show{i,e,_,rfl,l,j,λc p W2 r l2 s=>q c p W2 r (l1.trans l2) s}
 |true=>show q _ e i j l1 l
def oq {rest:List MD}(d:VT X a f)(e:VW X (.BoolOp .And (b::rest) c) g):VW X (.BoolOp .And (a::b::rest) c) (uw f g):=#v[PW.sub (ahq d.out e.out) λ_ _ _ h=>aac h]
def ou {rest:List MD}(d:VT X a f)(e:VW X (.BoolOp .Or (b::rest) c) g):VW X (.BoolOp .Or (a::b::rest) c) (gOr f g):=#v[PW.sub (pw_or d.out e.out) λ_ _ _ h=>afp h]
def j7 (h:VW X e f):VT X e f:=#v[h.out.pt]
def acw (fa b:GE):GE:=λm Q=>gT fa m λc a=>if c=LZ then b a Q else Q (.val (.v (.bl MA))) a
def ajo (h:VE X a fa):VE X (.BoolOp op [a] b) fa:=#v[ahs h.out]
def ajp {rest:List MD}(n:VE X a fa)(o:VE X (.BoolOp .And (b::rest) d) e):VE X (.BoolOp .And (a::b::rest) d) (acw fa e):=⟨PE.sub (aht n.out o.out) λp H Q ⟨W,m,R,r,s,h,q⟩=>by
  show Rk (Q:=λc f=>if c=LZ then lf _ e p f Q else Q (.bl MA) f) {W,m,_,r,s,h,λc g i j l1 l=>?_}
  cases c with
  |true=>show{i,g,_,rfl,l,j,λu w W2 x y l2 z A=>q u w W2 x y (l1.trans l2) z (A.old l1.toLe)}
  |false=>show q _ g i _ j l1 l (Rp.v rfl)⟩
def gIf (t:GT)(fa b:GE):GE:=λm Q=>t m λc a=>if c=LZ then fa a Q else b a Q
def Ek (p:VT X c t)(r:VE X a fa)(s:VE X b u):VE X (.IfExp c a b w) (gIf t fa u):=⟨PE.sub (Yy p.out r.out s.out) λA H Q ⟨W,m,R,y,z,h,q⟩=>by
  show{W,m,_,y,z,h,λc j l n l1 o=>?_};cases c with
  |true=>show{l,j,_,rfl,o,n,λd e W2 x f l2 g i=>q d e W2 x f (l1.trans l2) g (i.old l1.toLe)}
  |false=>show{l,j,_,rfl,o,n,λd e W2 x f l2 g i=>q d e W2 x f (l1.trans l2) g (i.old l1.toLe)}⟩
def truG:Tr->(Bool->Prop)->Prop
 | .v .non,Q=>Q MA
 | .v (.bl c),Q=>Q c
 | .v (.int i),Q=>Q (i != 0)
 | .tup l,Q=>Q (!l.isEmpty)
 | .lst l,Q=>Q (!l.isEmpty)
 |_,_=>False
def gn (f:GE):GT:=λm Q=>f m λb a=>lk a b λd=>truG d λc=>Q c a
theorem Top.tup {b:B}{W:Wd}{x:V}{l:List Tr}(h:Top b W x (.tup l))(e:Same W.F W.H):∃a xs,x=.ref a/\SqT b.K W.H a xs/\Rps b W.F xs l:=by
 obtain⟨a,xs,rfl,c,d⟩:=Rp.tupI h;show{a,xs,rfl,c.same e,d}
theorem Top.v {b:B}{W:Wd}{x y:V}(h:Top b W x (.v y)):x=y:=(Rp.vI h).1
def Cu {a b:Type}{xs:List a}{l:List b}(h:xs.length=l.length):xs.isEmpty=l.isEmpty:=by
 cases xs<;>cases l<;>first | rfl | simp at h
def afq {Q:Bool->Prop}(e:Same W.F W.H)(h:Top b W x d)(q:truG d Q):∃k,Y6 b.K x W.H k/\Q k:=by
 unfold truG at q
 split at q
 ·cases h.v;show{_,rfl,q}
 ·cases h.v;show{_,rfl,q}
 ·cases h.v;show{_,rfl,q}
 ·obtain⟨a,xs,rfl,c,f⟩:=h.tup e;show{_,.inr (.inl {xs,c,by rw[Cu f.length]}),q}
 ·obtain⟨a,xs,rfl,c,f⟩:=h;show{_,.inl {xs,SqL.of c,by rw[Cu f.length]},q}
 ·show q.elim
def di (e:VE X a f)(g:∀c,sL a X.env c=(do let v <-c;oV a.pos;jZ [v] (truthy v)):=by intro _;rfl):VT X a (gn f):=⟨PT.sub (Y7 e.out g) λy H Q ⟨W,m,R,i,j,h,q⟩=>⟨W,m,_,i,j,h,λz l n x o l1 b p=>by
    obtain⟨d,r,s⟩:=gr b.ok p o;obtain⟨k,u,w⟩:=afq b.ok.sub r s;show{k,u,q k l n w l1 b}⟩⟩
def gaN:GA:=λm Q=>Q [] m
def gaE (f:GE)(r:GA):GA:=λm Q=>f m λa b=>r b λc d=>Q (a::c) d
def gaV (f:GE)(r:GA):GA:=λm Q=>f m λa b=>fz b a λd c=>r c λe g=>Q (.val d::e) g
def ab:VA X [] gaN:=#v[PA.sub Kl λc H Q ⟨W,m,R,a,b,h,q⟩=>by subst a;show q [] m W [] h (Lx.refl W) b .nil]
def bq (b:VE X e f)(c:VA X a r)(hs:aN (e::a) X.env=(MA,eval e X.env)::aN a X.env:=by rfl):VA X (e::a) (gaE f r):=⟨PA.sub (xn b.out c.out hs) λy H Q ⟨W,m,R,d,g,h,q⟩=>⟨W,m,_,d,g,h,λA i j x l l1 n o=>⟨j,i,_,rfl,n,l,λC p W2 xs s l2 u w=>
    q _ p W2 _ s (l1.trans l2) u (.cons (o.mono l2) (Paired.mapP w λ_ _ z=>z.old l1.toLe))⟩⟩⟩
def ae (b:VE X e f)(c:VA X a r)(hs:aN (e::a) X.env=(MA,eval e X.env)::aN a X.env:=by rfl):VA X (e::a) (gaV f r):=⟨PA.sub (xn b.out c.out hs) λG H Q ⟨W,m,R,g,i,h,q⟩=>⟨W,m,_,g,i,h,λI J L x j l1 l n=>by
    obtain⟨d,o,W2,p,l2,s,u,w⟩:=mr l1 l n j;show{W2,o,_,s,u,p,λN y A xs C l3 D E=>q _ y A _ C (l2.trans l3) D (.cons (Rp.mono l3.same w) (Paired.mapP E λ_ _ z=>z.old l2.toLe))}⟩⟩
def wt:List Ev->(List Tr->Prop)->Prop
 | [],Q=>Q []
 | .val d::r,Q=>wt r λds=>Q (d::ds)
 |_::_,_=>False
theorem nv:∀{a xs Q},Paired (Rev b O W) xs a->wt a Q->∃ds,Rps b W.F xs ds/\Q ds
 |_,_,_,.nil,h=>{[],.nil,h}
 | .val d::_,_::_,_,.cons h t,q=>by
  obtain⟨ds,r,q⟩:=nv t q;show{d::ds,.cons h r,q}
 | .new _::_,_,_,_,q=>q.elim
 | .cel _::_,_,_,_,q=>q.elim
def big (n:Nat)(h:n<=1000000):n<=sizeLine:=bK h (by decide)
def gTup (r:GA):GE:=λm Q=>r m λa b=>wt a λds=>ds.length<=1000000/\Q (.val (.tup ds)) b
def gLst (r:GA):GE:=λm Q=>r m λa b=>wt a λds=>ds.length<=1000000/\Q (.new (.lst ds)) b
def dj (h:VA X j r):VE X (.Tuple j k l) (gTup r):=⟨PE.sub (aim h.out) λE H Q ⟨W,m,R,n,s,h,q⟩=>⟨W,m,_,n,s,h,λG w f xs x l1 b y=>by
  obtain⟨ds,g,z,A⟩:=nv y x;show{by rw[g.length];show big _ z,λp i=>?_};have fn:f.F p=LY:=by
    cases c:f.F p with
    |none=>rfl
    |some u=>have:=b.ok.sub _ _ c;rw[i]at this;cases this
  obtain⟨l2,C,D⟩:=Fv (d:=.tup ds) (o:=.tup xs) b.ok i (.tup (SqT.of bp) (g.mono λa u e=>by rw[bc (cf e fn)];show e));show q _ w _ _ A (l1.trans l2) (b.lift l2 (λ_=>rfl) C) D⟩⟩
def ba (h:VA X c r):VE X (.List c e) (gLst r):=⟨PE.sub (ain h.out) λx H Q ⟨W,m,R,f,g,h,q⟩=>⟨W,m,_,f,g,h,λy i A xs j l1 a l=>by
  obtain⟨ds,b,z,n⟩:=nv l j;show{by rw[b.length];show big _ z,λp s=>?_};obtain⟨l2,u,w⟩:=qe (d:=.lst ds) (o:=.lst xs) a.ok s #v[xs,bp,b];show q _ i _ _ n (l1.trans l2) (a.lift l2 (λ_=>rfl) u) (w.old l1.toLe)⟩⟩
def kn {a:Type}(o:Option a)(Q:a->Prop):Prop:=match o with
 |some x=>Q x
 |none=>False
def i7 {a:Type}{o:Option a}{Q:a->Prop}(h:kn o Q):∃x,o=KE x/\Q x:=by
 cases o with
 |some x=>show#v[x,rfl,h]
 |none=>show h.elim
def aw {a:Type}{o:Option a}{Q:a->Prop}{x:a}(e:o=KE x)(h:Q x):kn o Q:=by subst e;show h
def ixG:G2
 | .lst l,.v (.int i),R=>kn (atI l i) λd=>R (.val d)
 | .scr l,.v (.int i),R=>kn (atI l i) λd=>R (.val d)
 | .tup l,.v (.int i),R=>kn (atI l i) λd=>R (.val d)
 | .v (.str z),.v (.int i),R=>z.length<=1000000/\kn (atI z.cps.toList i) λc=>R (.val (.v (.str #v[#[c]])))
 |_,_,_=>False
theorem Rps.atI {b:B}{F:Hp}{xs:List V}{l:List Tr}{i:Int}{d:Tr}(r:Rps b F xs l)(h:L2.atI l i=KE d):∃x,L2.atI xs i=KE x/\Rp b F x d:=by
 unfold L2.atI at h ⊢;rw[r.length];cases q:ixN l.length i with
 |none=>rw[q]at h;cases h
 |some j=>rw[q]at h;show r.get h
def acx:IxR X (rG X.B ixG):=by
 intro value slice j s l H x y v u Q I m n h hs;obtain⟨W,cel,p,r,R,rfl,ok,o,ty,h,q⟩:=h;unfold ixG at h
 split at h
 ·obtain⟨a,xs,rfl,b,f⟩:=o;cases ty.v;obtain⟨d,e,h⟩:=i7 h;obtain⟨z,g,i⟩:=f.atI e;show Fm value slice j s l W.H _ _ v u Q I m n {a,xs,_,z,rfl,rfl,SqL.of b,g,q _ W z h (After.refl ok) i} hs
 ·obtain⟨a,xs,rfl,b,f⟩:=Rp.scrI o;cases ty.v;obtain⟨d,e,h⟩:=i7 h;obtain⟨z,g,i⟩:=f.atI e;show Fm value slice j s l W.H _ _ v u Q I m n {a,xs,_,z,rfl,rfl,yg b ok.sub,g,q _ W z h (After.refl ok) i} hs
 ·obtain⟨a,xs,rfl,b,f⟩:=o.tup ok.sub;cases ty.v;obtain⟨d,e,h⟩:=i7 h;obtain⟨z,g,i⟩:=f.atI e;show air value slice j s l W.H _ _ v u Q I m n {a,xs,_,z,rfl,rfl,b,g,q _ W z h (After.refl ok) i} hs
 ·cases o.v;cases ty.v;obtain⟨hz,h⟩:=h;obtain⟨c,e,h⟩:=i7 h;show ais value slice j s l W.H _ _ v u Q I m n {_,_,c,rfl,rfl,big _ hz,e,q _ W _ h (After.refl ok) (Rp.v rfl)} hs
 ·show h.elim
def ar (c:VE X a fa)(d:VE X b e)(hs:Fl b:=by show λ_ _=>rfl):VE X (.Subscript a b f) (gOp ixG fa e):=#v[PE.sub (S7 acx c.out d.out hs) λ_ _ _ h=>xr h]
abbrev GO:=M->(Option Int->M->Prop)->Prop
def lfO (b:B)(f:GO):TO:=λc H Q=>∃W m R,W.H=H/\Rel b W m c/\f m R/\∀o d a,R o d->Lx W a->Rel b a d c->Q o a.H
structure VO (X:Cx)(e:Option MD)(f:GO):Prop where
 out:PO X e (lfO X.B f)
def goN:GO:=λm Q=>Q LY m
def goS (f:GE):GO:=λm Q=>f m λa b=>match a with
 | .val (.v (.int i))=>Q (KE i) b
 |_=>False
def bw:VO X LY goN:=#v[λa s b H Q I ⟨W,m,R,c,d,h,q⟩=>by subst c;show aei a s b W.H Q I (q LY m W h (Lx.refl W) d)]
def bu (b:VE X e f):VO X (KE e) (goS f):=⟨λc s d H Q I ⟨W,m,R,g,i,h,q⟩=>aej b.out c s d H Q I ⟨W,m,_,g,i,h,λp j l x a l1 n o=>by
  split at a
  · cases(Rp.vI o).1;show{_,rfl,q _ j l a l1 n}
  · show a.elim⟩⟩
def slG (d:Tr)(lo hi:Option Int)(R:Ev->Prop):Prop:=match d with
 | .lst l=>R (.new (.lst (au l lo hi)))
 | .scr l=>R (.new (.lst (au l lo hi)))
 | .tup l=>R (.val (.tup (au l lo hi)))
 | .v (.str z)=>z.length<=1000000/\R (.val (.v (.str (gQ z lo hi))))
 |_=>False
def gSl (fa:GE)(b c:GO):GE:=λm Q=>fa m λd e=>b e λlo f=>c f λhi a=>lk a d λx=>slG x lo hi λg=>Q g a
def rSl (b:B):V->Option Int->Option Int->Hp->VK->Prop:=λx lo hi H Q=>∃W cel c R,W.H=H/\Wok b W cel/\Top b W x c/\slG c lo hi R/\∀d a z,R d->After b W cel a->Rev b W a z d->Q z a.H
def Rps.cut {b:B}{F:Hp}{xs:List V}{l:List Tr}(r:Rps b F xs l)(lo hi:Option Int):Rps b F (wm xs lo hi) (au l lo hi):=by
 unfold wm au;rw[r.length];show(r.drop _).take _
def Wok.Fn (ok:Wok b W cel)(a:W.H p=LY):W.F p=LY:=by
 cases c:W.F p with
 |none=>rfl
 |some u=>have:=ok.sub _ _ c;rw[a]at this;cases this
def Wok.sameU (ok:Wok b W cel)(c:W.H p=LY):Same W.F (upd W.F p o):=λa u e=>by rw[bc (cf e (ok.Fn c))];show e
def ua {b:B}{W:Wd}{cel:List (Option Tr)}{R:Ev->Prop}{Q:VK}{xs:List V}{l:List Tr}(ok:Wok b W cel)(q:∀c a z,R c->After b W cel a->Rev b W a z c->Q z a.H)(h:R (.new (.lst l)))(r:Rps b W.F xs l) :
  ∀p,W.H p=LY->Q (.ref p) (upd W.H p (.lst xs)):=λp e=>by
 obtain⟨l2,f,g⟩:=qe (d:=.lst l) (o:=.lst xs) ok e #v[xs,bp,r];show q _ _ _ h {l2,λ_=>rfl,f} g
def Bo {b:B}{W:Wd}{cel:List (Option Tr)}{R:Ev->Prop}{Q:VK}{xs:List V}{l:List Tr}(ok:Wok b W cel)(q:∀c a z,R c->After b W cel a->Rev b W a z c->Q z a.H)(h:R (.val (.tup l)))(r:Rps b W.F xs l) :
  ∀p,W.H p=LY->Q (.ref p) (upd W.H p (.tup xs)):=λp e=>by
 obtain⟨l2,f,g⟩:=Fv (d:=.tup l) (o:=.tup xs) ok e (.tup (SqT.of bp) (r.mono (ok.sameU e)));show q _ _ _ h {l2,λ_=>rfl,f} g
def sl_ok:SlR X (rSl X.B):=by
 intro f s g H x v i j lo hi l Q I m hs pl n h;obtain⟨W,cel,u,R,rfl,ok,o,h,q⟩:=h;unfold slG at h
 split at h
 ·obtain⟨a,xs,rfl,b,d⟩:=o;show Ra f s g W.H _ v i j lo hi l Q I m hs pl n {a,xs,rfl,SqL.of b,ua ok q h (d.cut lo hi)}
 ·obtain⟨a,xs,rfl,b,d⟩:=Rp.scrI o;show Ra f s g W.H _ v i j lo hi l Q I m hs pl n {a,xs,rfl,yg b ok.sub,ua ok q h (d.cut lo hi)}
 ·obtain⟨a,xs,rfl,b,d⟩:=o.tup ok.sub;by_cases c:Wi xs lo hi
  ·show afd f s g W.H _ v i j lo hi l Q I m hs pl n {a,xs,rfl,b,c,q _ W _ h (After.refl ok) ?_};obtain⟨w,ys,e,p,y⟩:=Rp.tupI o;cases e;have r:xs=ys:=I.tuple_inj b (p.same ok.sub);subst r;have z:=d.cut lo hi;rw[show wm xs lo hi=xs by unfold wm;rw[c.1,c.2,rM,Nat.sub_zero,cX]]at z;show Rp.tup p z
  ·show aip f s g W.H _ v i j lo hi l Q I m hs pl n {a,xs,rfl,b,c,Bo ok q h (d.cut lo hi)}
 ·cases o.v;obtain⟨hz,h⟩:=h;show aja f s g W.H _ v i j lo hi l Q I m hs pl n {_,rfl,big _ hz,q _ W _ h (After.refl ok) (Rp.v rfl)}
 ·show h.elim
def cz (e:VE X a fa)(f:VO X lo g)(i:VO X hi j):VE X (.Subscript a (.Slice lo hi LY U) l) (gSl fa g j):=⟨PE.sub (Zd sl_ok e.out f.out i.out) λY H Q ⟨W,m,R,n,o,h,q⟩=>⟨W,m,_,n,o,h,λea p r x s l1 u w=>⟨r,p,_,rfl,u,s,λlo y W2 A l2 C=>⟨W2,y,_,rfl,C,A,λhi d D E l3 c=>by
    obtain⟨G,I,J⟩:=gr c.ok (w.mono (l2.trans l3)) E;show{D,d.cel,G,_,rfl,c.ok,I,J,λL N z O b T=>q L d N z O (l1.trans (l2.trans (l3.trans b.lx))) (c.lift b.lx b.cs b.ok) (T.old (l1.trans (l2.trans l3)).toLe)}⟩⟩⟩⟩
end
open PySem.SeqAt
section
variable {X:Cx}
def ie (C:Int->Int->Prop)(g:Int->Int->V):G2
 | .v (.int i),.v (.int j),R=>C i j/\R (.val (.v (g i j)))
 |_,_,_=>False
def du (g:Int->Int->V):G2
 | .v (.int i),.v (.int j),R=>R (.val (.v (g i j)))
 |_,_,_=>False
def El (h:OpR X f (rI C g))(a:∀i j,n9 (g i j)=LZ):OpG X f (ie C g):=by
 intro b s c H x y v u Q I d e h';obtain⟨W,cel,m,n,R,rfl,ok,l,ty,h',q⟩:=h';unfold ie at h'
 split at h'
 ·cases l.v;cases ty.v;show h b s c W.H _ _ v u Q I d e {_,_,rfl,rfl,h'.1,q _ W _ h'.2 (After.refl ok) (Rp.v (a _ _))}
 ·show h'.elim
def ub (h:OpR X f (rI0 g))(a:∀i j,n9 (g i j)=LZ):OpG X f (du g):=by
 intro b s c H x y v u Q I d e h';obtain⟨W,cel,m,n,R,rfl,ok,l,ty,h',q⟩:=h';unfold du at h'
 split at h'
 ·cases l.v;cases ty.v;show h b s c W.H _ _ v u Q I d e {_,_,rfl,rfl,q _ W _ h' (After.refl ok) (Rp.v (a _ _))}
 ·show h'.elim
def Lb:OpG X (eA .Sub) (du λi j=>.int (i - j)):=ub aib λ_ _=>rfl
def ox:OpG X (eA .Mod) (ie (λ_ j=>0 < j) λi j=>.int (i % j)):=El aid λ_ _=>rfl
def Fw:OpG X (eA .FloorDiv) (ie Kj λi j=>.int (i / j)):=El adz λ_ _=>rfl
def Em:OpG X (eA .LShift) (ie Fh λi j=>.int (i * 2 ^ j.toNat)):=El aie λ_ _=>rfl
def W4:OpG X (eA .RShift) (ie (λ_ j=>0<=j) λi j=>.int (i / 2 ^ j.toNat)):=El aif λ_ _=>rfl
def Lc:OpG X (eA .BitAnd) (du λi j=>.int (eC i j)):=ub aih λ_ _=>rfl
def Tu:OpG X (eA .BitOr) (du λi j=>.int (dR i j)):=ub op_or λ_ _=>rfl
def yh:OpG X (eJ .Lt) (du λi j=>.bl (decide (i < j))):=ub op_lt λ_ _=>rfl
def Bp:OpG X (eJ .Gt) (du λi j=>.bl (decide (j < i))):=ub op_gt λ_ _=>rfl
def acy:OpG X (eJ .GtE) (du λi j=>.bl (decide (j<=i))):=ub op_ge λ_ _=>rfl
def b9:G2
 | .v (.int i),.v (.int j),R=>R (.val (.v (.int (i+j))))
 | .v (.str i),.v (.str j),R=>i.length+j.length<=1000000/\R (.val (.v (.str (i++j))))
 | .tup l,.tup m,R=>l.length+m.length<=1000000/\R (.val (.tup (l++m)))
 | .lst l,.lst m,R=>l.length+m.length<=1000000/\R (.new (.lst (l++m)))
 |_,_,_=>False
def bf:OpG X (eA .Add) b9:=by
 intro g s i H x y v u Q I j l h;obtain⟨W,cel,p,r,R,rfl,ok,f,ty,h,q⟩:=h;unfold b9 at h
 split at h
 ·cases f.v;cases ty.v;show aia g s i W.H _ _ v u Q I j l {_,_,rfl,rfl,q _ W _ h (After.refl ok) (Rp.v rfl)}
 ·cases f.v;cases ty.v;show Sx g s i W.H _ _ v u Q I j l {_,_,rfl,rfl,big _ h.1,q _ W _ h.2 (After.refl ok) (Rp.v rfl)}
 ·obtain⟨a,xs,rfl,m,d⟩:=f.tup ok.sub;obtain⟨b,ys,rfl,n,e⟩:=ty.tup ok.sub;obtain⟨hz,h⟩:=h;have o:xs.length+ys.length<=sizeLine:=(by rw[d.length,e.length];show big _ hz);show Zj g s i W.H _ _ v u Q I j l ?_;by_cases c:xs=[]
  ·subst c;cases d;show .inr {a,b,ys,rfl,rfl,m,n,q _ W _ h (After.refl ok) ty}
  ·show .inl {a,b,xs,ys,rfl,rfl,m,n,c,o,λz=>?_,λ_=>Bo ok q h (d.append e)};subst z;cases e;rw[bX]at h;show q _ W _ h (After.refl ok) f
 ·obtain⟨a,xs,rfl,m,d⟩:=f;obtain⟨b,ys,rfl,n,e⟩:=ty;show aiw g s i W.H _ _ v u Q I j l {a,b,xs,ys,rfl,rfl,m,n,by rw[d.length,e.length];show big _ h.1,ua ok q h.2 (d.append e)}
 ·show h.elim
def ux:G2
 | .v (.int i),.v (.int j),R=>CMul i j/\R (.val (.v (.int (i * j))))
 | .lst l,.v (.int k),R=>-1000000<=k/\k<=1000000/\l.length * k.toNat<=1000000/\R (.new (.lst (aY k.toNat l).flatten))
 |_,_,_=>False
theorem Rps.rep (r:Rps b F xs l):∀n,Rps b F (aY n xs).flatten (aY n l).flatten
 |0=>.nil
 |n+1=>by rw[fH,fH,iM,iM];show r.append (r.rep n)
def oy:OpG X (eA .Mult) ux:=by
 intro b s c H x y v u Q I d e h;obtain⟨W,cel,l,m,R,rfl,ok,f,ty,h,q⟩:=h;unfold ux at h
 split at h
 ·cases f.v;cases ty.v;show aic b s c W.H _ _ v u Q I d e {_,_,rfl,rfl,h.1,q _ W _ h.2 (After.refl ok) (Rp.v rfl)}
 ·obtain⟨a,xs,rfl,i,g⟩:=f;cases ty.v;obtain⟨n,o,j,h⟩:=h;show aix b s c W.H _ _ v u Q I d e {a,_,xs,rfl,rfl,i,(),(),by rw[g.length];show big _ j,ua ok q h (g.rep _)}
 ·show h.elim
def wu (a:Bool):G2
 | .v x,.v .non,R=>R (.val (.v (.bl (if a then !decide (x=.non)else decide (x=.non)))))
 | .tup _,.v .non,R=>R (.val (.v (.bl a)))
 | .lst _,.v .non,R=>R (.val (.v (.bl a)))
 |_,_,_=>False
def acz:OpG X (eJ .Is) (wu MA):=by
 intro b s c H x y v u Q I d e h;obtain⟨W,cel,j,l,R,rfl,ok,f,ty,h,q⟩:=h;unfold wu at h
 split at h
 ·cases f.v;cases ty.v;show Kk b s c W.H _ _ v u Q I d e {rfl,q _ W _ h (After.refl ok) (Rp.v rfl)}
 ·obtain⟨a,xs,rfl,g,i⟩:=f.tup ok.sub;cases ty.v;show Kk b s c W.H _ _ v u Q I d e {rfl,q _ W _ h (After.refl ok) (Rp.v rfl)}
 ·obtain⟨a,xs,rfl,g,i⟩:=f;cases ty.v;show Kk b s c W.H _ _ v u Q I d e {rfl,q _ W _ h (After.refl ok) (Rp.v rfl)}
 ·show h.elim
def yi:OpG X (eJ .IsNot) (wu LZ):=by
 intro b s c H x y v u Q I d e h;obtain⟨W,cel,j,l,R,rfl,ok,f,ty,h,q⟩:=h;unfold wu at h
 split at h
 ·cases f.v;cases ty.v;show Fi b s c W.H _ _ v u Q I d e {rfl,q _ W _ h (After.refl ok) (Rp.v rfl)}
 ·obtain⟨a,xs,rfl,g,i⟩:=f.tup ok.sub;cases ty.v;show Fi b s c W.H _ _ v u Q I d e {rfl,q _ W _ h (After.refl ok) (Rp.v rfl)}
 ·obtain⟨a,xs,rfl,g,i⟩:=f;cases ty.v;show Fi b s c W.H _ _ v u Q I d e {rfl,q _ W _ h (After.refl ok) (Rp.v rfl)}
 ·show h.elim
def Kb:V->V->Bool
 | .int _,.int _=>LZ
 | .str _,.str _=>LZ
 | .bl _,.bl _=>LZ
 | .non,.non=>LZ
 | .non,.int _=>LZ
 | .int _,.non=>LZ
 | .non,.str _=>LZ
 | .str _,.non=>LZ
 |_,_=>MA
mutual
def gv:Nat->Tr->Tr->Bool
 |_,.v x,.v y=>Kb x y
 |n+1,.tup l,.tup m=>cmpL n l m
 |n+1,.lst l,.lst m=>cmpL n l m
 |_,_,_=>MA
def cmpL:Nat->List Tr->List Tr->Bool
 |n,a::l,b::m=>gv n a b && cmpL n l m
 |_,_,_=>LZ
end
theorem Bq:∀{n:Nat}{l m:List Tr}{j:Nat}{a b:Tr},cmpL n l m=LZ->l[j]?=KE a->m[j]?=KE b->gv n a b=LZ
 |n,[],_,_,_,_,_,e,_=>by simp at e
 |n,_::_,[],_,_,_,_,_,e=>by simp at e
 |n,a::l,b::m,0,_,_,h,c,d=>by
  simp at c d;subst c d;rw[cmpL,cO]at h;show h.1
 |n,a::l,b::m,j+1,_,_,h,c,d=>by
  rw[cmpL,cO]at h;show Bq h.2 (by simpa using c) (by simpa using d)
def aae (h:Kb x y=LZ):eqV x y=LZ↔x=y:=by
 unfold Kb at h
 split at h<;>first | (cases h;done) | simp[eqV]
theorem Rps.paired {b:B}{F:Hp}:∀{xs:List V}{l:List Tr},Rps b F xs l->Paired (Rp b F) xs l
 |_,_,.nil=>.nil
 |_,_,.cons h r=>.cons h r.paired
mutual
theorem Rp.inj (h:∀a xs ys,SqT b.K F a xs->SqT b.K F a ys->xs=ys)(i:∀a xs ys,SqL b.K F a xs->SqL b.K F a ys->xs=ys):∀{n x d e},gv n d e=LZ->Rp b F x d->Rp b F x e->d=e
 |_,_,.v _,.v _,_,f,g=>by rw[<-(Rp.vI f).1,<-(Rp.vI g).1]
 |n+1,_,.tup l,.tup m,c,f,g=>by
  obtain⟨a,xs,rfl,j,o⟩:=Rp.tupI f;obtain⟨r,ys,e,p,q⟩:=Rp.tupI g;cases e;have:=h _ _ _ j p;subst this;rw[Rps.inj h i (n:=n) (by simpa[gv]using c) o q]
 |n+1,_,.lst l,.lst m,c,f,g=>by
  obtain⟨a,xs,rfl,j,o⟩:=Rp.lstI f;obtain⟨r,ys,e,p,q⟩:=Rp.lstI g;cases e;have:=i _ _ _ (SqL.of j) (SqL.of p);subst this;rw[Rps.inj h i (n:=n) (by simpa[gv]using c) o q]
theorem Rps.inj (d:∀a xs ys,SqT b.K F a xs->SqT b.K F a ys->xs=ys)(e:∀a xs ys,SqL b.K F a xs->SqL b.K F a ys->xs=ys):∀{n xs l m},cmpL n l m=LZ->Rps b F xs l->Rps b F xs m->l=m
 |_,_,_,_,_,.nil,.nil=>rfl
 |n,_,_::_,_::_,c,.cons f g,.cons h i=>by
  rw[cmpL,cO]at c;rw[Rp.inj d e c.1 f h,Rps.inj d e c.2 g i]
end
open Classical in
def Rm {w:List (MB×Obj)}{C:St}{H:Hp}{s:aH}{A:bV}{d:Type}{R:V->d->Prop}(I:Inv X w C H s){a b:MB}{xs ys:List V}{ks ls:List d}(D:SqL X.K H a xs)(E:SqL X.K H b ys)(g:Paired R xs ks)(h:Paired R ys ls)(i:A.units < dJ)
  (G:∀(j:Nat)(k l:d),ks[j]?=KE k->ls[j]?=KE l->∀(x y:V)(u v:aE),R x k->R y l->RelV x u->RelV y v->EqAt A.in1 s u v (decide (k=l))):RcAt A s (.ref a) (.ref b) (decide (ks=ls)):=by
 obtain⟨its,m,n,_⟩:=I.list D;obtain⟨J,o,p,_⟩:=I.list E;have f:its.toArray.size=ks.length:=(by rw[aM,<-m.length,Paired.length g]);have r:J.toArray.size=ls.length:=(by rw[aM,<-o.length,Paired.length h]);by_cases c:ks.length=ls.length
 ·have q:=RcAt.lists (s:=s) (A:=A) n.isList p.isList (by rw[f,r,c]) i (qz g h m o G);have e:(bE its.toArray.size).all (λj=>decide (ks[j]?=ls[j]?))=decide (ks=ls):=by
   rw[f,<-uu ks ls,c,mB];simp
  rw[e]at q;show q
 ·have q:=RcAt.lists_lengths (A:=A) (s:=s) n.isList p.isList (by rw[f,r];simpa using c) i;rw[MH (λz=>c (by rw[z]))];show q
open Classical in
def W8 {w:List (MB×Obj)}{C:St}{H:Hp}{s:aH}{A:bV}{d:Type}{R:V->d->Prop}(I:Inv X w C H s){a b:MB}{xs ys:List V}{ks ls:List d}(D:SqL X.K H a xs)(E:SqL X.K H b ys)(g:Paired R xs ks)(h:Paired R ys ls)(i:A.units < dJ)
  (G:∀(j:Nat)(k l:d),ks[j]?=KE k->ls[j]?=KE l->∀(x y:V)(u v:aE),R x k->R y l->RelV x u->RelV y v->EqAt A.in1 s u v (decide (k=l))):RcNeAt A s (.ref a) (.ref b) (!decide (ks=ls)):=by
 obtain⟨its,m,n,_⟩:=I.list D;obtain⟨J,o,p,_⟩:=I.list E;have f:its.toArray.size=ks.length:=(by rw[aM,<-m.length,Paired.length g]);have r:J.toArray.size=ls.length:=(by rw[aM,<-o.length,Paired.length h]);by_cases c:ks.length=ls.length
 ·have q:=RcNeAt.lists (s:=s) (A:=A) n.isList p.isList (by rw[f,r,c]) i (qz g h m o G);have e:(bE its.toArray.size).all (λj=>decide (ks[j]?=ls[j]?))=decide (ks=ls):=by
   rw[f,<-uu ks ls,c,mB];simp
  rw[e]at q;show q
 ·have q:=RcNeAt.lists_lengths (A:=A) (s:=s) n.isList p.isList (by rw[f,r];simpa using c) i;rw[MH (λz=>c (by rw[z]))];show q
open Classical in
def Xa {r:List (MB×Obj)}{w:St}{H:Hp}{s:aH}{A:bV}{c:Type}{R:V->c->Prop}(I:Inv X r w H s){a b:MB}{xs ys:List V}{ks ls:List c}(z:SqT X.K H a xs)(C:SqT X.K H b ys)(d:Paired R xs ks)(e:Paired R ys ls)(i:A.units < dJ)
  (m:∀(j:Nat)(k l:c),ks[j]?=KE k->ls[j]?=KE l->∀(x y:V)(u v:aE),R x k->R y l->RelV x u->RelV y v->EqAt A.in1 s u v (decide (k=l))):RcAt A s (.ref a) (.ref b) (decide (ks=ls))/\RcNeAt A s (.ref a) (.ref b) (!decide (ks=ls)):=by
 obtain⟨its,f,n,_⟩:=I.tuple z;obtain⟨g,h,o,_⟩:=I.tuple C;have D:its.toArray.size=ks.length:=(by rw[aM,<-f.length,Paired.length d]);have E:g.toArray.size=ls.length:=(by rw[aM,<-h.length,Paired.length e]);have q:=RcAt.tuples (s:=s) (A:=A) (show s.heap.IsTuple a its.toArray from n) (show s.heap.IsTuple b g.toArray from o) i (qz d e f h m);have p:=RcNeAt.tuples (s:=s) (A:=A) (show s.heap.IsTuple a its.toArray from n) (show s.heap.IsTuple b g.toArray from o) i (qz d e f h m);rw[D,E,uu]at q p;show#v[q,p]
open Classical in
def Bk {Y:List (MB×Obj)}{σ:St}{H:Hp}{s:aH}(I:Inv X Y σ H s):∀(n:Nat) {d e:Tr}{x y:V}{u v:aE}{A:bV},gv n d e=LZ->A.units+n < dJ->Rp X.B H x d->Rp X.B H y e->RelV x u->RelV y v->EqAt A s u v (decide (d=e)):=by
 intro n;have Q:∀a xs ys,SqT X.B.K H a xs->SqT X.B.K H a ys->xs=ys:=λa xs ys=>I.tuple_inj;have G:∀a xs ys,SqL X.B.K H a xs->SqL X.B.K H a ys->xs=ys:=λa xs ys=>I.list_inj;have flat:∀{d e:V}{x y:V}{u v:aE}{A:bV},Kb d e=LZ->Rp X.B H x (.v d)->Rp X.B H y (.v e)->RelV x u->RelV y v->EqAt A s u v (decide (Tr.v d=Tr.v e)):=λ{d e x y u v A} c g h b f=>by
  obtain⟨rfl,f1⟩:=Rp.vI g;obtain⟨rfl,f2⟩:=Rp.vI h;have z:=Vu (A:=A) (s:=s) b f f1 f2;have k:=aae c;have i:eqV x y=decide (Tr.v x=Tr.v y):=by
   by_cases w:x=y
   ·rw[k.mpr w,MI (by rw[w])]
   ·have:eqV x y=MA:=by
     cases q:eqV x y with
     |false=>rfl
     |true=>show MJ (k.mp q) w
    rw[this,MH (λz=>w (by injection z))]
  rw[i]at z;show z
 induction n with
 |zero=>
  intro d e x y u v A c hu g h b f;cases d with
  |v d=>
   cases e with
   |v e=>show flat (by simpa[gv]using c) g h b f
   |_=>simp[gv]at c
  |_=>simp[gv]at c
 |succ n T=>
  intro d e x y u v A c hu g h b f;cases d with
  |v d=>
   cases e with
   |v e=>show flat (by simpa[gv]using c) g h b f
   |_=>simp[gv]at c
  |tup l=>
   cases e with
   |tup m=>
    obtain⟨a,xs,rfl,C,o⟩:=Rp.tupI g;obtain⟨D,ys,rfl,E,p⟩:=Rp.tupI h;cases(show u=.ref a from b);cases(show v=.ref D from f);have r:cmpL n l m=LZ:=(by simpa[gv]using c);have z:=afm (A:=A) (R:=Rp X.B H) (ks:=l) (ls:=m) I (λz=>by subst z;show Rps.inj Q G r o p) C E o.paired p.paired () λj k l' J L x y u v N O b f=>
     T (A:=A.in1) (Bq r J L) (by rw[mZ];lia) N O b f
    have i:decide (l=m)=decide (Tr.tup l=Tr.tup m):=(by rw[decide_eq_decide];show{λz=>by rw[z],λz=>by injection z});rw[i]at z;show z
   |_=>simp[gv]at c
  |lst l=>
   cases e with
   |lst m=>
    obtain⟨a,xs,rfl,C,o⟩:=Rp.lstI g;obtain⟨D,ys,rfl,E,p⟩:=Rp.lstI h;cases(show u=.ref a from b);cases(show v=.ref D from f);have r:cmpL n l m=LZ:=(by simpa[gv]using c);have i:decide (l=m)=decide (Tr.lst l=Tr.lst m):=(by rw[decide_eq_decide];show{λz=>by rw[z],λz=>by injection z});rw[<-i];by_cases U:a=D
    ·subst U;have e4:=G _ _ _ (SqL.of C) (SqL.of E);subst e4;rw[MI (Rps.inj Q G r o p)];show EqAt.same _
    ·show EqAt.of_refs U (Rm I (SqL.of C) (SqL.of E) o.paired p.paired () λj k l' J L x y u v N O b f=>
       T (A:=A.in1) (Bq r J L) (by rw[mZ];lia) N O b f)
   |_=>simp[gv]at c
  |_=>simp[gv]at c
def Br {b:List (MB×Obj)}{d:St}{H:Hp}{s:aH}(I:Inv X b d H s)(o:X.A.units+64 < dJ){l m:List Tr}(c:cmpL 39 l m=LZ)(j:Nat)(k a:Tr)(e:l[j]?=KE k)(f:m[j]?=KE a)(x y:V)(u v:aE)
  (g:Rp X.B H x k) (h:Rp X.B H y a) (i:RelV x u) (n:RelV y v):EqAt X.A.in1 s u v (@decide (k=a) (Classical.propDecidable _)):=Bk I 39 (A:=X.A.in1) (Bq c e f) (by rw[mZ];lia) g h i n
def eqG (a:Bool):G2
 | .v x,.v y,R=>Y5 x y=LZ/\R (.val (.v (.bl (if a then !decide (x=y)else decide (x=y)))))
 | .tup l,.tup m,R=>cmpL 39 l m=LZ/\∀c:Bool,(c=LZ↔l=m)->R (.val (.v (.bl (if a then !c else c))))
 | .lst l,.lst m,R=>cmpL 39 l m=LZ/\∀c:Bool,(c=LZ↔l=m)->R (.val (.v (.bl (if a then !c else c))))
 |_,_,_=>False
open Classical in
def d6 (i:X.A.units+64 < dJ):OpG X (eJ .Eq) (eqG MA):=by
 intro n s o H x y v u Q I b c h;obtain⟨W,cel,r,w,R,rfl,ok,j,ty,h,q⟩:=h;have l:=j.rp ok.sub;have m:=ty.rp ok.sub;unfold eqG at h
 split at h
 ·cases j.v;cases ty.v;show op_eq n s o W.H _ _ v u Q I b c {h.1,q _ W _ h.2 (After.refl ok) (Rp.v rfl)}
 ·obtain⟨a,xs,rfl,d,e⟩:=Rp.tupI l;obtain⟨p,ys,rfl,f,g⟩:=Rp.tupI m;cases b;cases c;show(Xa (A:=X.A) I d f e.paired g.paired () (Br I i h.1)).1 _ _ _ _ {.bl _,W.H,I,rfl,q _ W _ (h.2 _ decide_eq_true_iff) (After.refl ok) (Rp.v rfl)}
 ·obtain⟨a,xs,rfl,d,e⟩:=Rp.lstI l;obtain⟨p,ys,rfl,f,g⟩:=Rp.lstI m;cases b;cases c;show Rm (A:=X.A) I (SqL.of d) (SqL.of f) e.paired g.paired () (Br I i h.1) _ _ _ _ {.bl _,W.H,I,rfl,q _ W _ (h.2 _ decide_eq_true_iff) (After.refl ok) (Rp.v rfl)}
 ·show h.elim
open Classical in
def tq (i:X.A.units+64 < dJ):OpG X (eJ .NotEq) (eqG LZ):=by
 intro n s o H x y v u Q I b c h;obtain⟨W,cel,r,w,R,rfl,ok,j,ty,h,q⟩:=h;have l:=j.rp ok.sub;have m:=ty.rp ok.sub;unfold eqG at h
 split at h
 ·cases j.v;cases ty.v;show op_ne n s o W.H _ _ v u Q I b c {h.1,q _ W _ h.2 (After.refl ok) (Rp.v rfl)}
 ·obtain⟨a,xs,rfl,d,e⟩:=Rp.tupI l;obtain⟨p,ys,rfl,f,g⟩:=Rp.tupI m;cases b;cases c;show(Xa (A:=X.A) I d f e.paired g.paired () (Br I i h.1)).2 _ _ _ _ {.bl _,W.H,I,rfl,q _ W _ (h.2 _ decide_eq_true_iff) (After.refl ok) (Rp.v rfl)}
 ·obtain⟨a,xs,rfl,d,e⟩:=Rp.lstI l;obtain⟨p,ys,rfl,f,g⟩:=Rp.lstI m;cases b;cases c;show W8 (A:=X.A) I (SqL.of d) (SqL.of f) e.paired g.paired () (Br I i h.1) _ _ _ _ {.bl _,W.H,I,rfl,q _ W _ (h.2 _ decide_eq_true_iff) (After.refl ok) (Rp.v rfl)}
 ·show h.elim
def inL (a:Bool)(d:Tr)(l:List Tr)(R:Ev->Prop):Prop:=(∀e∈l,gv 39 e d=LZ)/\∀c:Bool,(c=LZ↔d∈l)->R (.val (.v (.bl (if a then !c else c))))
def inG (a:Bool):G2
 |d,.lst l,R=>inL a d l R
 |d,.tup l,R=>inL a d l R
 |_,_,_=>False
open Classical in
noncomputable def isT (b:B)(H:Hp)(d:Tr)(u:aE):Bool:=decide (∃z,RelV z u/\Rp b H z d)
open Classical in
def Xb (I:Inv X g i H s)(c:gv 39 e d=LZ)(r:RelV x u)(h:Rp X.B H x e):isT X.B H d u=decide (e=d):=by
 unfold isT;rw[decide_eq_decide];constructor
 ·intro b;obtain⟨z,f,hz⟩:=b;cases r.inj f;show Rp.inj (λa xs ys=>I.tuple_inj) (λa xs ys=>I.list_inj) c h hz
 ·intro b;subst b;show#v[x,r,h]
open Classical in
theorem xt (I:Inv X f g H s):∀{xs l its},Rps X.B H xs l->Vals xs its->(∀e∈l,gv 39 e d=LZ)->its.any (isT X.B H d)=decide (d∈l)
 |_,_,_,.nil,.nil,_=>by simp
 |_,_,_,.cons h t,.cons r rt,c=>by
  rw[jG,Xb I (c _ aQ) r h,xt I t rt λe b=>c e (aP _ b)]
  rename_i e l _ _
  by_cases a:e=d
  ·simp[a]
  ·have:¬d=e:=λz=>a z.symm;simp[a,this]
theorem Ak (I:Inv X i j H s)(f:A.units+40 < dJ)(a:Rp X.B H y d)(b:RelV y v):∀{xs l its},Rps X.B H xs l->Vals xs its->(∀e∈l,gv 39 e d=LZ)->∀u∈its,EqAt A s u v (isT X.B H d u)
 |_,_,_,.nil,.nil,_,_,h=>nomatch h
 |_,_,_,.cons h t,.cons r rt,c,u,AS=>by
  rcases aW.mp AS with rfl | AS
  ·rw[Xb I (c _ aQ) r h];show Bk I 39 (c _ aQ) () h a r b
  ·show Ak I f a b t rt (λe g=>c e (aP _ g)) u AS
open Classical in
def Tv (l:X.A.units+64 < dJ):OpG X (eJ .In) (inG MA):=by
 intro m s n H x y v u Q I d e h;obtain⟨W,cel,b,o,R,rfl,ok,i,ty,h,q⟩:=h;have f:=i.rp ok.sub;have g:=ty.rp ok.sub;unfold inG at h
 split at h
 ·obtain⟨j,ys,rfl,c,a⟩:=Rp.lstI g;cases e;obtain⟨its,r,pl,hz⟩:=I.list (SqL.of c);show in_listAt (isT X.B W.H b) pl.isList (λw hw=>Ak I (by change X.A.units+1+40 < dJ;lia) f d a r h.1 w (by simpa using hw)) {.bl _,W.H,I,rfl,?_};show q _ W _ (h.2 (its.toArray.any (isT X.B W.H b)) (by rw[nL,xt I a r h.1];show decide_eq_true_iff)) (After.refl ok) (Rp.v rfl)
 ·obtain⟨j,ys,rfl,c,a⟩:=Rp.tupI g;cases e;obtain⟨its,r,pl,hz⟩:=I.tuple c;show in_tupleAt (isT X.B W.H b) pl (λw hw=>Ak I (by change X.A.units+1+40 < dJ;lia) f d a r h.1 w (by simpa using hw)) {.bl _,W.H,I,rfl,?_};show q _ W _ (h.2 (its.toArray.any (isT X.B W.H b)) (by rw[nL,xt I a r h.1];show decide_eq_true_iff)) (After.refl ok) (Rp.v rfl)
 ·show h.elim
open Classical in
def aaf (l:X.A.units+64 < dJ):OpG X (eJ .NotIn) (inG LZ):=by
 intro m s n H x y v u Q I d e h;obtain⟨W,cel,b,o,R,rfl,ok,i,ty,h,q⟩:=h;have f:=i.rp ok.sub;have g:=ty.rp ok.sub;unfold inG at h
 split at h
 ·obtain⟨j,ys,rfl,c,a⟩:=Rp.lstI g;cases e;obtain⟨its,r,pl,hz⟩:=I.list (SqL.of c);show notIn_listAt (isT X.B W.H b) pl.isList (λw hw=>Ak I (by change X.A.units+1+40 < dJ;lia) f d a r h.1 w (by simpa using hw)) {.bl _,W.H,I,rfl,?_};show q _ W _ (h.2 (its.toArray.any (isT X.B W.H b)) (by rw[nL,xt I a r h.1];show decide_eq_true_iff)) (After.refl ok) (Rp.v rfl)
 ·obtain⟨j,ys,rfl,c,a⟩:=Rp.tupI g;cases e;obtain⟨its,r,pl,hz⟩:=I.tuple c;show notIn_tupleAt (isT X.B W.H b) pl (λw hw=>Ak I (by change X.A.units+1+40 < dJ;lia) f d a r h.1 w (by simpa using hw)) {.bl _,W.H,I,rfl,?_};show q _ W _ (h.2 (its.toArray.any (isT X.B W.H b)) (by rw[nL,xt I a r h.1];show decide_eq_true_iff)) (After.refl ok) (Rp.v rfl)
 ·show h.elim
def uy (f:GE):GE:=λm Q=>f m λa b=>match a with
 | .val (.v (.int i))=>Q (.val (.v (.int (-i)))) b
 |_=>False
def mi (h:VE X a f):VE X (.UnaryOp .USub a c) (uy f):=⟨PE.sub (pe_un aii h.out) λn H Q ⟨W,m,R,d,e,h,q⟩=>⟨W,m,_,d,e,h,λo g i x b l1 j l=>by
  split at b
  · cases(Rp.vI l).1;show{_,rfl,q _ g i _ b l1 j (Rp.v rfl)}
  · show b.elim⟩⟩
def lks (m:M):List Ev->(List Tr->Prop)->Prop
 | [],Q=>Q []
 |e::r,Q=>lk m e λd=>lks m r λds=>Q (d::ds)
theorem Bs (ok:Wok b W m.cel):∀{a xs Q},Paired (Rev b O W) xs a->lks m a Q->∃ds,Paired (Top b W) xs ds/\Q ds
 |_,_,_,.nil,h=>{[],.nil,h}
 |_,_,_,.cons h t,q=>by
  obtain⟨d,c,q⟩:=gr ok h q;obtain⟨ds,r,q⟩:=Bs ok t q;show{d::ds,.cons c r,q}
abbrev GL:=List Tr->(Ev->Prop)->Prop
def gCB (r:GL)(ga:GA):GE:=λm Q=>ga m λb a=>lks a b λds=>r ds λc=>Q c a
def rGA (b:B)(r:GL):List V->Hp->VK->Prop:=λxs H Q=>∃W cel ds R,W.H=H/\Wok b W cel/\Paired (Top b W) xs ds/\r ds R/\∀c a z,R c->After b W cel a->Rev b W a z c->Q z a.H
def oz (X:Cx)(f:aE)(r:GL):Prop:=j9 X f (rGA X.B r)
def Rn (h:lf b (gCB r ga) e H Q):lfA b ga e H λxs f=>rGA b r xs f Q:=by
 obtain⟨W,m,R,g,i,h,q⟩:=h;show{W,m,_,g,i,h,λy d j xs l l1 c n=>?_};obtain⟨ds,o,p⟩:=Bs c.ok n l;show{j,d.cel,ds,_,rfl,c.ok,o,p,λs u z w a x=>q s d u z w (l1.trans a.lx) (c.lift a.lx a.cs a.ok) (x.old l1.toLe)}
def bj {x:Str}{id:String}{r:GL}{e:MD}{a:List MD}{ga:GA}{p b:Pos}(c:oz X (.builtin id) r)(d:Gl X x)(f:X.mg x=LY)(g:dW x=KE (.builtin id))(i:VA X (e::a) ga)(j:x≠"__name__":=by decide)(l:(x == ("__debug__":Str))=MA:=by decide)
  (m:aN (e::a) X.env=(MA,eval e X.env)::aN a X.env:=by rfl) (n:(dP b (aN a X.env)).any (·.1)=MA:=by rfl):VE X (.Call (.Name x p) (e::a) [] b) (gCB r ga):=#v[PE.sub (Kp c d f g i.out j l m n) λ_ _ _ h=>Rn h]
def jr (c:oz X (.type T) r)(d:Gl X x)(f:X.mg x=LY)(g:dW x=KE (.type T))(i:VA X (e::a) ga)(j:x≠"__name__":=by decide)(l:(x == ("__debug__":Str))=MA:=by decide)
  (m:aN (e::a) X.env=(MA,eval e X.env)::aN a X.env:=by rfl) (n:(dP b (aN a X.env)).any (·.1)=MA:=by rfl):VE X (.Call (.Name x p) (e::a) [] b) (gCB r ga):=#v[PE.sub (Vt c d f g i.out j l m n) λ_ _ _ h=>Rn h]
def dq {a b:Type}{F:a->b->Prop}{xs:List a}{d:b}(h:Paired F xs [d]):∃x,xs=[x]/\F x d:=by
 cases h with
 |cons h t=>cases t;show{_,rfl,h}
def xu {a b:Type}{F:a->b->Prop}{xs:List a}{d e:b}(h:Paired F xs [d,e]):∃x y,xs=[x,y]/\F x d/\F y e:=by
 cases h with
 |cons h t=>
  obtain⟨y,rfl,k⟩:=dq t;show{_,y,rfl,h,k}
def ff:GL
 | [.lst l],R=>R (.val (.v (.int l.length)))
 | [.scr l],R=>R (.val (.v (.int l.length)))
 | [.tup l],R=>R (.val (.v (.int l.length)))
 | [.v (.str z)],R=>z.length<=1000000/\R (.val (.v (.int z.length)))
 |_,_=>False
def cw:oz X (.builtin "len") ff:=by
 intro d s e H xs us Q I r h;obtain⟨W,cel,ds,R,rfl,ok,f,h,q⟩:=h;unfold ff at h
 split at h
 ·obtain⟨x,rfl,a,xs,rfl,b,c⟩:=dq f;show um d s e W.H _ us Q I r {a,xs,rfl,.inl (SqL.of b),by rw[c.length];show q _ W _ h (After.refl ok) (Rp.v rfl)}
 ·obtain⟨x,rfl,t⟩:=dq f;obtain⟨a,xs,rfl,b,c⟩:=Rp.scrI t;show um d s e W.H _ us Q I r {a,xs,rfl,.inl (yg b ok.sub),by rw[c.length];show q _ W _ h (After.refl ok) (Rp.v rfl)}
 ·obtain⟨x,rfl,t⟩:=dq f;obtain⟨a,xs,rfl,b,c⟩:=t.tup ok.sub;show um d s e W.H _ us Q I r {a,xs,rfl,.inr b,by rw[c.length];show q _ W _ h (After.refl ok) (Rp.v rfl)}
 ·obtain⟨x,rfl,t⟩:=dq f;cases t.v;show Kt d s e W.H _ us Q I r {_,rfl,big _ h.1,q _ W _ h.2 (After.refl ok) (Rp.v rfl)}
 ·show h.elim
def absG:GL
 | [.v (.int i)],R=>R (.val (.v (.int (if i < 0 then -i else i))))
 |_,_=>False
def ajq:oz X (.builtin "abs") absG:=by
 intro a s b H xs us Q I r h;obtain⟨W,cel,ds,R,rfl,ok,c,h,q⟩:=h;unfold absG at h
 split at h
 ·obtain⟨x,rfl,t⟩:=dq c;cases t.v;show Y8 a s b W.H _ us Q I r {_,rfl,q _ W _ h (After.refl ok) (Rp.v rfl)}
 ·show h.elim
def Tw:GL
 | [.v (.int i)],R=>R (.val (.v (.int i)))
 | [.v (.bl k)],R=>R (.val (.v (.int (if k then 1 else 0))))
 |_,_=>False
def Xc:oz X (.type "int") Tw:=by
 intro a s b H xs us Q I r h;obtain⟨W,cel,ds,R,rfl,ok,c,h,q⟩:=h;unfold Tw at h
 split at h
 ·obtain⟨x,rfl,t⟩:=dq c;cases t.v;show Hi a s b W.H _ us Q I r (.inl {_,rfl,q _ W _ h (After.refl ok) (Rp.v rfl)})
 ·obtain⟨x,rfl,t⟩:=dq c;cases t.v;show Hi a s b W.H _ us Q I r (.inr {_,rfl,q _ W _ h (After.refl ok) (Rp.v rfl)})
 ·show h.elim
def two (g:Int->Int->Int):GL
 | [.v (.int i),.v (.int j)],R=>R (.val (.v (.int (g i j))))
 |_,_=>False
def Xd (a:X.calm=LZ):oz X (.builtin "max") (two λi j=>if j > i then j else i):=by
 intro b s c H xs us Q I r h;obtain⟨W,cel,ds,R,rfl,ok,d,h,q⟩:=h;unfold two at h
 split at h
 ·obtain⟨x,y,rfl,e,f⟩:=xu d;cases e.v;cases f.v;show Vn a b s c W.H _ us Q I r {_,_,rfl,q _ W _ h (After.refl ok) (Rp.v rfl)}
 ·show h.elim
def Xe (a:X.calm=LZ):oz X (.builtin "min") (two λi j=>if j < i then j else i):=by
 intro b s c H xs us Q I r h;obtain⟨W,cel,ds,R,rfl,ok,d,h,q⟩:=h;unfold two at h
 split at h
 ·obtain⟨x,y,rfl,e,f⟩:=xu d;cases e.v;cases f.v;show Vo a b s c W.H _ us Q I r {_,_,rfl,q _ W _ h (After.refl ok) (Rp.v rfl)}
 ·show h.elim
theorem Rps.flat {b:B}{F:Hp}{a:Type}{g:a->V}:∀{xs:List V}{ns:List a},Rps b F xs (ns.map λn=>Tr.v (g n))->xs=ns.map g
 |_,[],.nil=>rfl
 |_,_::ns,.cons h t=>by rw[(Rp.vI h).1,Rps.flat t];rfl
def sumG:GL
 | [.lst l],R=>∃ns:List Int,l=ns.map (λn=>Tr.v (.int n))/\ns.length<=1000/\(∀n∈ns,-1000000<=n/\n<=1000000)/\R (.val (.v (.int ns.sum)))
 |_,_=>False
def ajr (b:X.calm=LZ):oz X (.builtin "sum") sumG:=by
 intro c s d H xs us Q I r h;obtain⟨W,cel,ds,R,rfl,ok,e,h,q⟩:=h;unfold sumG at h
 split at h
 ·obtain⟨ns,rfl,f,g,h⟩:=h;obtain⟨x,rfl,a,xs,rfl,i,j⟩:=dq e;cases j.flat;show Wj b c s d W.H _ us Q I r {a,ns,rfl,SqL.of i,f,g,q _ W _ h (After.refl ok) (Rp.v rfl)}
 ·show h.elim
def blsG (g:List Bool->Bool):GL
 | [.lst l],R=>∃bs:List Bool,l=bs.map (λn=>Tr.v (.bl n))/\R (.val (.v (.bl (g bs))))
 |_,_=>False
def ajs (b:X.calm=LZ):oz X (.builtin "all") (blsG λbs=>bs.all id):=by
 intro c s d H xs us Q I r h;obtain⟨W,cel,ds,R,rfl,ok,e,h,q⟩:=h;unfold blsG at h
 split at h
 ·obtain⟨bs,rfl,h⟩:=h;obtain⟨x,rfl,a,xs,rfl,f,g⟩:=dq e;cases g.flat;show V4 b c s d W.H _ us Q I r {a,bs,rfl,SqL.of f,q _ W _ h (After.refl ok) (Rp.v rfl)}
 ·show h.elim
def uz:GL
 | [.lst l],R=>R (.val (.tup l))
 | [.tup l],R=>R (.val (.tup l))
 |_,_=>False
def u6:oz X (.type "tuple") uz:=by
 intro c s d H xs us Q I r h;obtain⟨W,cel,ds,R,rfl,ok,e,h,q⟩:=h;unfold uz at h
 split at h
 ·obtain⟨x,rfl,a,xs,rfl,b,f⟩:=dq e;show zi c s d W.H _ us Q I r {a,xs,rfl,.inl {SqL.of b,Bo ok q h f}}
 ·obtain⟨x,rfl,t⟩:=dq e;obtain⟨a,xs,rfl,b,f⟩:=t.tup ok.sub;show zi c s d W.H _ us Q I r {a,xs,rfl,.inr {b,q _ W _ h (After.refl ok) t}}
 ·show h.elim
def Tx:GL
 | [.lst l],R=>R (.new (.lst l))
 | [.tup l],R=>R (.new (.lst l))
 |_,_=>False
def afr:oz X (.type "list") Tx:=by
 intro d s e H xs us Q I r h;obtain⟨W,cel,ds,R,rfl,ok,f,h,q⟩:=h;unfold Tx at h
 split at h
 ·obtain⟨x,rfl,a,xs,rfl,b,c⟩:=dq f;show zx d s e W.H _ us Q I r {a,xs,rfl,.inl (SqL.of b),ua ok q h c}
 ·obtain⟨x,rfl,t⟩:=dq f;obtain⟨a,xs,rfl,b,c⟩:=t.tup ok.sub;show zx d s e W.H _ us Q I r {a,xs,rfl,.inr b,ua ok q h c}
 ·show h.elim
def tyT (n:String):Tr->Option Bool
 | .v .non=>KE MA
 | .v (.bl _)=>KE (n == "bool" || n == "int")
 | .v (.int _)=>KE (n == "int")
 | .v (.str _)=>KE (n == "str")
 | .tup _=>KE (n == "tuple")
 | .lst _=>KE (n == "list")
 |_=>LY
structure Kit (K:aG)(n:String):Prop where
 non:bO K (.type "NoneType") (.type n)=KE MA
 bl:bO K (.type "bool") (.type n)=KE (n == "bool" || n == "int")
 int:bO K (.type "int") (.type n)=KE (n == "int")
 str:bO K (.type "str") (.type n)=KE (n == "str")
 tup:bO K (.type "tuple") (.type n)=KE (n == "tuple")
 lst:bO K (.type "list") (.type n)=KE (n == "list")
def Al (n:String)(f:GE):GE:=λm Q=>f m λb a=>lk a b λd=>kn (tyT n d) λc=>Q (.val (.v (.bl c))) a
def u7 (b:Kit X.K n)(u:Gl X x)(w:X.mg x=LY)(A:dW x=KE (.builtin "isinstance"))(C:Gl X y)(D:X.mg y=LY)(E:dW y=KE (.type n))(G:VE X e f)
  (I:x≠"__name__":=by decide) (J:(x == ("__debug__":Str))=MA:=by decide) (L:y≠"__name__":=by decide) (N:(y == ("__debug__":Str))=MA:=by decide)
  (hs:aN [e,.Name y j] X.env=(MA,eval e X.env)::aN [.Name y j] X.env:=by rfl) (O:(dP l (aN [.Name y j] X.env)).any (·.1)=MA:=by rfl):VE X (.Call (.Name x p) [e,.Name y j] [] l) (Al n f):=⟨PE.sub (Kp Zk u w A (xn G.out (xn (ads (v:=.ty n) C D E rfl L N) Kl) hs) I J hs O) λσ H Q ⟨W,m,R,T,U,h,q⟩=>⟨W,m,_,T,U,h,λev Y s x i l1 o r1=>by
  obtain⟨d,g,r⟩:=gr o.ok r1 i;obtain⟨c,e,h3⟩:=i7 r;have wF:=q _ Y s (.bl c) h3 l1 o (Rp.v rfl);have z:∃t,TyQ X.K s.H x t/\bO X.K t (.type n)=KE c:=by
    unfold tyT at e
    split at e
    · cases g.v;show{_,.of .non,by rw[b.non];show e}
    · cases g.v;show{_,.of (.bl _),by rw[b.bl];show e}
    · cases g.v;show{_,.of (.int _),by rw[b.int];show e}
    · cases g.v;show{_,.of (.str _),by rw[b.str];show e}
    · obtain⟨a,xs,rfl,i,r⟩:=g.tup o.ok.sub;show{_,.sqt i,by rw[b.tup];show e}
    · obtain⟨a,xs,rfl,i,r⟩:=g;show{_,.sql (SqL.of i),by rw[b.lst];show e}
    · cases e
  obtain⟨t,t1,t2⟩:=z;show#v[x,t,n,c,rfl,t1,t2,wF]⟩⟩
abbrev tI (x:List Int):Tr:=.tup (x.map λn=>Tr.v (.int n))
def srtD (g:List (List Int)->List (List Int))(d:Tr)(R:Ev->Prop):Prop:=match d with
 | .lst l=>∃L:List (List Int),l=L.map tI/\L.length < 64/\(∀x∈L,x≠[])/\R (.new (.lst ((g L).map tI)))
 |_=>False
def Dg (g:List (List Int)->List (List Int))(f:GE):GE:=λm Q=>f m λa b=>lk b a λd=>srtD g d λa=>Q a b
theorem yj {b:B}{F H:Hp}(e:Same F H):∀{xs:List V}{L:List (List Int)},Rps b F xs (L.map tI)->TupsV b.K H xs L
 |_,[],.nil=>.nil
 |_,x::L,.cons h t=>by
  obtain⟨a,ys,rfl,c,d⟩:=Rp.tupI h;cases d.flat;show .cons {a,rfl,c.same e} (yj e t)
theorem Ld:∀ns:List Int,Rps b F (ns.map V.int) (ns.map λn=>Tr.v (.int n))
 | []=>.nil
 |_::ns=>.cons (.v rfl) (Ld ns)
theorem Lf:∀{xs L},TupsV b.K F xs L->Rps b F xs (L.map tI)
 |_,_,.nil=>.nil
 |_,_,.cons h t=>by
  obtain⟨a,rfl,c⟩:=h;show .cons (.tup c (Ld _)) (Lf t)
theorem H0:∀{xs L},TupsV K H xs L->TupsV K (lq F H) xs L
 |_,_,.nil=>.nil
 |_,_,.cons ⟨a,e,h⟩ t=>.cons {a,e,aab h} (H0 t)
def Ro {b:B}{W:Wd}{cel:List (Option Tr)}{R:Ev->Prop}{Q:VK}{L:List (List Int)}(ok:Wok b W cel)(q:∀f c z,R f->After b W cel c->Rev b W c z f->Q z c.H)(h:R (.new (.lst (L.map tI)))) :
  ∀d a,W.H d=LY->TupsV b.K W.H a L->Q (.ref d) (upd W.H d (.lst a)):=λd a hd g=>by
 obtain⟨l1,e,l⟩:=afn ok;obtain⟨l2,i,j⟩:=qe (d:=.lst (L.map tI)) (o:=.lst a) (p:=d) e hd {a,bp,Lf (H0 g)};show q _ _ _ h {l1.trans l2,λ_=>rfl,i} (j.old l1.toLe)
def Fx {x y:Str}{e:MD}{f:GE}{p n b c:Pos}(s:X.calm=LZ)(hu:X.A.units+64 < dJ)(u:Gl X x)(w:X.mg x=LY)(C:dW x=KE (.builtin "sorted"))(D:Gl X y)(E:X.mg y=LY)(G:dW y=KE (.type "set"))(I:VE X e f)
  (J:x≠"__name__":=by decide) (N:(x == ("__debug__":Str))=MA:=by decide) (O:y≠"__name__":=by decide) (T:(y == ("__debug__":Str))=MA:=by decide)
  (hs:aN [.Call (.Name y n) [e] [] c] X.env=(MA,eval (.Call (.Name y n) [e] [] c) X.env)::aN [] X.env:=by rfl) (U:(dP b (aN [] X.env)).any (·.1)=MA:=by rfl)
  (Y:aN [e] X.env=(MA,eval e X.env)::aN [] X.env:=by rfl) (ET:(dP c (aN [] X.env)).any (·.1)=MA:=by rfl) :
  VE X (.Call (.Name x p) [.Call (.Name y n) [e] [] c] [] b) (Dg TupG.srtG f):=⟨PE.sub (afl s () u w C D E G I.out J N O T hs U Y ET) λσ H Q ⟨W,m,R,hW,uS,h,q⟩=>⟨W,m,_,hW,uS,h,λg r W1 x h1 l1 i r1=>by
  obtain⟨d,td,j⟩:=gr i.ok r1 h1;unfold srtD at j
  split at j
  · obtain⟨L,rfl,z1,z2,o⟩:=j;obtain⟨a,ys,rfl,k1,k2⟩:=td;show{a,ys,L,rfl,SqL.of k1,yj i.ok.sub k2,z1,z2,Ro (R:=λg=>R g r) i.ok (λg W' z o l rz=>q g r W' z o (l1.trans l.lx) (i.lift l.lx l.cs l.ok) (rz.old l1.toLe)) o}
  · show j.elim⟩⟩
def Rq {x:Str}{e:MD}{f:GE}{p b:Pos}(o:Gl X x)(r:X.mg x=LY)(s:dW x=KE (.builtin "sorted"))(u:VE X e f)
  (w:x≠"__name__":=by decide) (y:(x == ("__debug__":Str))=MA:=by decide)
  (hs:aN [e] X.env=(MA,eval e X.env)::aN [] X.env:=by rfl) (A:(dP b (aN [] X.env)).any (·.1)=MA:=by rfl):VE X (.Call (.Name x p) [e] [] b) (Dg TupSet.isort f):=⟨PE.sub (Z8 o r s u.out w y hs A) λσ H Q ⟨W,m,R,C,D,h,q⟩=>⟨W,m,_,C,D,h,λc n W1 x E l1 g G=>by
  obtain⟨d,I,i⟩:=gr g.ok G E;unfold srtD at i
  split at i
  · obtain⟨L,rfl,J,N,l⟩:=i;obtain⟨a,ys,rfl,O,T⟩:=I;show{a,ys,L,rfl,SqL.of O,yj g.ok.sub T,J,N,Ro (R:=λc=>R c n) g.ok (λc U z l j Y=>q c n U z l (l1.trans j.lx) (g.lift j.lx j.cs j.ok) (Y.old l1.toLe)) l}
  · show i.elim⟩⟩
abbrev GM:=Tr->List Tr->(Ev->Prop)->Prop
def rGM (b:B)(r:GM):V->List V->Hp->VK->Prop:=λx xs H Q=>∃W cel d ds R,W.H=H/\Wok b W cel/\Top b W x d/\Paired (Top b W) xs ds/\r d ds R/\∀c a z,R c->After b W cel a->Rev b W a z c->Q z a.H
def MtG (X:Cx)(id:String)(r:GM):Prop:=MtR X id (rGM X.B r)
def kin (T:String):Tr->Prop
 | .lst _=>T="list"
 | .v (.str _)=>T="str"
 | .v (.int _)=>T="int"
 |_=>False
def Am (t:Top b W x d)(h:kin T d):tyV b.K T x W.H:=by
 unfold kin at h
 split at h
 ·obtain⟨a,xs,rfl,c,_⟩:=t;show .inl {h,xs,SqL.of c}
 ·cases t.v;show h
 ·cases t.v;show h
 ·show h.elim
def gMt (T:String)(r:GM)(e:GE)(ga:GA):GE:=λm Q=>e m λb c=>lk c b λf=>kin T f/\ga c λg a=>lk a b λd=>lks a g λds=>r d ds λh=>Q h a
def Tz {T:String}{name:Str}{id:String}{r:GM}{o e:MD}{a:List MD}{i:GE}{ga:GA}{j b:Pos}(s:oA T)(slot:Slot T name id)(u:sT (.builtin id)=pure (.type "method_descriptor"))(w:MtG X id r)(y:VE X o i)(A:VA X (e::a) ga)
  (C:hU o name X.env (eval o X.env)=eval o X.env:=by rfl)
  (D:((dP b (aN (e::a) X.env)).all (λx=>!x.1) && (nI b (kN [] X.env)).all (λx=>x.1.isSome) && decide ((e::a).length+([]:List nP).length+(if ([]:List nP).isEmpty then 0 else 1) < 30))=LZ:=by rfl)
  (E:(j.endLine == b.line)=LZ:=by rfl) (hs:aN (e::a) X.env=(MA,eval e X.env)::aN a X.env:=by rfl) (G:(dP b (aN a X.env)).any (·.1)=MA:=by rfl) :
  VE X (.Call (.Attribute o name j) (e::a) [] b) (gMt T r i ga):=⟨PE.sub (S9 s slot u w y.out A.out C D E hs G) λσ H Q ⟨W,m,R,I,J,h,q⟩=>⟨W,m,_,I,J,h,λeo L N x g l1 l n=>by
  obtain⟨d1,O,U,g⟩:=gr l.ok n g;show{Am O U,N,L,_,rfl,l,g,λvM p W2 xs Y l2 c r2=>?_};obtain⟨d,t2,h3⟩:=gr c.ok (n.mono l2) Y;obtain⟨ds,ts,h4⟩:=Bs c.ok r2 h3;show{W2,p.cel,d,ds,_,rfl,c.ok,t2,ts,h4,λev W' z h5 f rz=>q ev p W' z h5 (l1.trans (l2.trans f.lx)) (c.lift f.lx f.cs f.ok) (rz.old (l1.trans l2).toLe)}⟩⟩
def ajt {T:String}{name:Str}{id:String}{r:GM}{o:MD}{e:GE}{f g:Pos}(l:oA T)(slot:Slot T name id)(n:sT (.builtin id)=pure (.type "method_descriptor"))(p:MtG X id r)(s:VE X o e)
  (u:hU o name X.env (eval o X.env)=eval o X.env:=by rfl) (w:(f.endLine == g.line)=LZ:=by rfl):VE X (.Call (.Attribute o name f) [] [] g) (gMt T r e gaN):=⟨PE.sub (Vx l slot n p s.out u w) λU H Q ⟨W,m,R,y,A,h,q⟩=>⟨W,m,_,y,A,h,λY i C x c l1 a j=>by
  obtain⟨d1,D,E,c⟩:=gr a.ok j c;show{Am D E,?_};obtain⟨d,G,I⟩:=gr a.ok j c;show{C,i.cel,d,[],_,rfl,a.ok,G,.nil,I,λJ L z N b O=>q J i L z N (l1.trans b.lx) (a.lift b.lx b.cs b.ok) (O.old l1.toLe)}⟩⟩
def T1:GM
 | .v (.int i),[],R=>R (.val (.v (.int (jW i:Nat))))
 |_,_,_=>False
def afs:MtG X "int.bit_length" T1:=by
 intro a s b H x xs v us Q I c e h;obtain⟨W,cel,d,ds,R,rfl,ok,t,f,h,q⟩:=h;unfold T1 at h
 split at h
 ·cases t.v;cases f;show aew a s b W.H _ [] v us Q I c e {_,rfl,rfl,q _ W _ h (After.refl ok) (Rp.v rfl)}
 ·show h.elim
def An:GM
 | .lst l,[.tup t],R=>∃(L:List (List Int))(x:List Int),l=L.map tI/\t=x.map (λn=>Tr.v (.int n))/\x∈L/\R (.val (.v (.int (L.idxOf x:Nat))))
 | .lst l,[.v (.str t)],R=>∃ss:List Str,l=ss.map (λn=>Tr.v (.str n))/\t∈ss/\R (.val (.v (.int (ss.idxOf t:Nat))))
 |_,_,_=>False
def Dh (p:X.A.units+64 < dJ):MtG X "list.index" An:=by
 intro g s i H x xs v us Q I j l h;obtain⟨W,cel,d,ds,R,rfl,ok,t,m,h,q⟩:=h;unfold An at h
 split at h
 ·obtain⟨a,ys,rfl,c,e⟩:=t;obtain⟨y,rfl,ty⟩:=dq m;obtain⟨L,w,rfl,rfl,f,h⟩:=h;obtain⟨b,r,rfl,n,o⟩:=ty.tup ok.sub;cases o.flat;show Zo () g s i W.H _ _ v us Q I j l {a,b,ys,L,w,rfl,rfl,SqL.of c,yj ok.sub e,n,f,q _ W _ h (After.refl ok) (Rp.v rfl)}
 ·obtain⟨a,ys,rfl,c,e⟩:=t;obtain⟨y,rfl,ty⟩:=dq m;obtain⟨ss,rfl,f,h⟩:=h;cases ty.v;cases e.flat;show Wh g s i W.H _ _ v us Q I j l {a,ss,_,rfl,rfl,SqL.of c,f,q _ W _ h (After.refl ok) (Rp.v rfl)}
 ·show h.elim
def jf (ok:Wok b W cel)(f:W.C j=KE a)(g:cel[j]?=KE (KE d))(h':CellOk b W.F (upd W.H a o) a d') :
  Lx W {W.F,upd W.H a o,W.C}/\Wok b {W.F,upd W.H a o,W.C} (cel.set j (KE d')):=by
 obtain⟨s,h,i,w⟩:=ok.cell j d g;rw[f]at h;cases h;have l:j < cel.length:=(bH.mp g).1;have ne:∀{x u},W.F x=KE u->x≠a:=λe z=>(by subst z;rw[i]at e;cases e);show{{{λ_ _ z=>z,λx u e n=>?_,λ_ z n=>MJ z n,λ_ _ z=>.inl z,λx z=>?_},λ_ _ z=>z},{λx u z=>?_,λk e hk=>?_,λk x z=>?_,ok.dist}}
 ·change upd W.H a o x=KE u;rw[bc (λz=>n j (by rw[f,z]))];show e
 ·by_cases c:x=a
  ·subst c;rw[show({W.F,upd W.H x o,W.C}:Wd).H x=upd W.H x o x from rfl,bp]at z;cases z
  ·rw[show({W.F,upd W.H a o,W.C}:Wd).H x=upd W.H a o x from rfl,bc c]at z;show z
 ·change upd W.H a o x=KE u;rw[bc (ne z)];show ok.sub x u z
 ·by_cases c:k=j
  ·subst c;rw[cY l]at hk;cases hk;show#v[a,f,i,h']
  ·rw[cM (λz=>c z.symm)]at hk;obtain⟨x,m,p,q⟩:=ok.cell k e hk;show{x,m,p,q.mono (λ_ _ z=>z) λu z=>?_};change upd W.H a o x=KE u;rw[bc (λz=>c (ok.dist k j x m (by rw[z];show f)))];show z
 ·obtain⟨e,r⟩:=ok.live k x z;by_cases c:k=j
  ·subst c;show{d',cY l}
  ·show{e,by rw[cM (λz=>c z.symm)];show r}
abbrev GMc:=Tr->List Tr->(Ev->Tr->Prop)->Prop
def rMC (b:B)(r:GMc):V->List V->Hp->VK->Prop:=λx xs H Q=>∃W cel j a d ds R,W.H=H/\Wok b W cel/\x=.ref a/\W.C j=KE a/\cel[j]?=KE (KE d)/\Paired (Top b W) xs ds/\r d ds R/\
 ∀e d' c z,R e d'->Lx W c->(∀j,c.C j=W.C j)->Wok b c (cel.set j (KE d'))->Rev b W c z e->Q z c.H
def MtC (X:Cx)(id:String)(r:GMc):Prop:=MtR X id (rMC X.B r)
def gMc (T:String)(i:Nat)(r:GMc)(ga:GA):GE:=λm Q=>match m.loc[i]? with
 |some (KE (.c j))=>lk m (.cel j) λb=>kin T b/\ga m λe a=>lk a (.cel j) λd=>lks a e λds=>r d ds λf d'=>Q f {a.loc,a.cel.set j (KE d')}
 |_=>False
def Xf (h:gMc T i r ga m Q):∃j,m.loc[i]?=KE (KE (.c j))/\lk m (.cel j) λb=>kin T b/\ga m λe a=>lk a (.cel j) λd=>lks a e λds=>r d ds λf d'=>Q f {a.loc,a.cel.set j (KE d')}:=by
 unfold gMc at h
 split at h
 ·show{_,by assumption,h}
 ·show h.elim
def Rel.setc (f:Rel b W m h)(l:Lx W d)(e:∀j,d.C j=W.C j)(ok:Wok b d (m.cel.set j (KE d'))):Rel b d {m.loc,m.cel.set j (KE d')} h:=⟨ok,λi w hw=>by
  obtain⟨y,n,g⟩:=f.loc i w hw;show{y,n,?_};cases w with
  |v d'=>show Rp.mono l.same g
  |c j=>obtain⟨a,o,p⟩:=g;show{a,o,by rw[e];show p},f.len⟩
def ada {T:String}{name:Str}{id:String}{r:GMc}{i:Nat}{x:Str}{e:MD}{b:List MD}{ga:GA}{p n c:Pos}(u:oA T)(slot:Slot T name id)(w:sT (.builtin id)=pure (.type "method_descriptor"))(A:MtC X id r)(C:X.N[i]?=KE x)(D:Vis X.env.scope x)(E:VA X (e::b) ga)
  (G:hU (.Name x p) name X.env (eval (.Name x p) X.env)=eval (.Name x p) X.env:=by rfl)
  (I:((dP c (aN (e::b) X.env)).all (λx=>!x.1) && (nI c (kN [] X.env)).all (λx=>x.1.isSome) && decide ((e::b).length+([]:List nP).length+(if ([]:List nP).isEmpty then 0 else 1) < 30))=LZ:=by rfl)
  (J:(n.endLine == c.line)=LZ:=by rfl) (hs:aN (e::b) X.env=(MA,eval e X.env)::aN b X.env:=by rfl) (L:(dP c (aN b X.env)).any (·.1)=MA:=by rfl)
  (hd:(x == ("__debug__":Str))=MA:=by decide) (O:(x == ("__classdict__":Str))=MA:=by decide) :
  VE X (.Call (.Attribute (.Name x p) name n) (e::b) [] c) (gMc T i r ga):=⟨PE.sub (S9 u slot w A (ug C D hd O) E.out G I J hs L) λσ H Q ⟨W,m,R,U,l,h,q⟩=>by
  subst U;obtain⟨j,Y,h⟩:=Xf h;obtain⟨y,q1,a,rfl,o⟩:=l.loc i _ Y;have rv:Rev X.B W W (.ref a) (.cel j):={a,rfl,λf e=>by rw[o]at e;cases e;rfl};obtain⟨d1,t1,k1,h1⟩:=gr l.ok rv h;show{_,q1,Am t1 k1,W,m,_,rfl,l,h1,λvM m2 W2 xs h2 l2 g r2=>?_};obtain⟨d,hd,h3⟩:=rf h2;obtain⟨ds,ts,h4⟩:=Bs g.ok r2 h3;obtain⟨f,s,_⟩:=g.ok.cell j d hd;have ea:f=a:=(by have:=l2.cx j f s;rw[o]at this;cases this;rfl);subst ea;show{W2,m2.cel,j,f,d,ds,_,rfl,g.ok,rfl,s,hd,ts,h4,λev d' W' z h5 l3 cs yK rz=>q ev _ W' z h5 (l2.trans l3) (g.setc l3 cs yK) (rz.old l2.toLe)}⟩
def En {T:String}{name:Str}{id:String}{r:GMc}{i:Nat}{x:Str}{p c f:Pos}(l:oA T)(slot:Slot T name id)(n:sT (.builtin id)=pure (.type "method_descriptor"))(o:MtC X id r)(s:X.N[i]?=KE x)(u:Vis X.env.scope x)
  (w:hU (.Name x p) name X.env (eval (.Name x p) X.env)=eval (.Name x p) X.env:=by rfl) (A:(c.endLine == f.line)=LZ:=by rfl)
  (hd:(x == ("__debug__":Str))=MA:=by decide) (C:(x == ("__classdict__":Str))=MA:=by decide) :
  VE X (.Call (.Attribute (.Name x p) name c) [] [] f) (gMc T i r gaN):=⟨PE.sub (Vx l slot n o (ug s u hd C) w A) λσ H Q ⟨W,m,R,D,b,h,q⟩=>by
  subst D;obtain⟨j,E,h⟩:=Xf h;obtain⟨y,G,a,rfl,g⟩:=b.loc i _ E;have I:Rev X.B W W (.ref a) (.cel j):={a,rfl,λa' e=>by rw[g]at e;cases e;rfl};obtain⟨d1,J,L,O⟩:=gr b.ok I h;obtain⟨d,hd,U⟩:=rf O;show{_,G,Am J L,W,m.cel,j,a,d,[],_,rfl,b.ok,rfl,g,hd,.nil,U,λY d' W' z h5 l3 cs yK rz=>q Y _ W' z h5 l3 (b.setc l3 cs yK) rz}⟩
theorem Wok.lst {b:B}{W:Wd}{cel:List (Option Tr)}{j:Nat}{a:MB}{l:List Tr}(ok:Wok b W cel)(d:W.C j=KE a)(e:cel[j]?=KE (KE (.lst l))):∃xs,W.H a=KE (.lst xs)/\Rps b W.F xs l:=by
 obtain⟨g,c,h,xs,f⟩:=ok.cell j _ e;rw[d]at c;cases c;show#v[xs,f]
def Ao (i:Nat)(f:GE):GE:=λm Q=>match m.loc[i]? with
 |some (KE (.c j))=>lk m (.cel j) λb=>kin "list" b/\f m λg h=>fz h g λd a=>lk a (.cel j) λe=>match e with
  | .lst l=>l.length < 1000000/\Q (.val (.v .non)) {a.loc,a.cel.set j (KE (.lst (l++[d])))}
  |_=>False
 |_=>False
def Ap (L:X.N[i]?=KE x)(O:Vis X.env.scope x)(T:VE X e f)
  (U:hU (.Name x p) "append" X.env (eval (.Name x p) X.env)=eval (.Name x p) X.env:=by rfl)
  (Y:((dP s (aN [e] X.env)).all (λx=>!x.1) && (nI s (kN [] X.env)).all (λx=>x.1.isSome) && decide ([e].length+([]:List nP).length+(if ([]:List nP).isEmpty then 0 else 1) < 30))=LZ:=by rfl)
  (xH:(vX.endLine == s.line)=LZ:=by rfl) (hs:aN [e] X.env=(MA,eval e X.env)::aN [] X.env:=by rfl)
  (hd:(x == ("__debug__":Str))=MA:=by decide) (yZ:(x == ("__classdict__":Str))=MA:=by decide) :
  VE X (.Call (.Attribute (.Name x p) "append" vX) [e] [] s) (Ao i f):=⟨PE.sub (S9 dU PySem.F.slot_list_append PySem.F.type_list_append zy (ug L O hd yZ) (xn T.out Kl hs) U Y xH hs) λσ H Q ⟨W,m,R,hW,u,h,q⟩=>by
  subst hW;have h':∃j,m.loc[i]?=KE (KE (.c j))/\lk m (.cel j) λC=>kin "list" C/\f m λD E=>fz E D λd g=>lk g (.cel j) λe=>match e with
    | .lst l=>l.length < 1000000/\R (.val (.v .non)) {g.loc,g.cel.set j (KE (.lst (l++[d])))}
    |_=>False:=by
    unfold Ao at h
    split at h
    · show{_,by assumption,h}
    · show h.elim
  obtain⟨j,hj,h⟩:=h';obtain⟨y,q1,a,rfl,G⟩:=u.loc i _ hj;have rv:Rev X.B W W (.ref a) (.cel j):={a,rfl,λn e=>by rw[G]at e;cases e;rfl};obtain⟨C,t1,k1,h1⟩:=gr u.ok rv h;show{_,q1,Am t1 k1,W,m,_,rfl,u,h1,λD E W1 z h2 l1 uR r1=>?_};obtain⟨d,g,W2,h3,l2,I,r,r2⟩:=mr l1 uR r1 h2;obtain⟨d0,w,b⟩:=rf h3
  split at b
  · obtain⟨hz,b⟩:=b;obtain⟨n,A,_⟩:=r.ok.cell j _ w;have ea:n=a:=(by have:=l2.cx j n A;rw[G]at this;cases this;rfl);subst ea;obtain⟨xs,g1,J⟩:=r.ok.lst A w;show{n,xs,z,rfl,rfl,by rw[<-I];show g1,by rw[J.length];show bQ hz (by decide),?_};obtain⟨l3,yK⟩:=jf (d':=.lst _) (o:=.lst (xs++[z])) r.ok A w {_,bp,J.append (.cons r2 .nil)};rw[<-I];show q _ _ _ .non b (l2.trans l3) (r.setc l3 (λ_=>rfl) yK) (Rp.v rfl)
  · show b.elim⟩
def Bt:GMc
 | .lst l,[.lst m],R=>l.length+m.length<=1000000/\R (.val (.v .non)) (.lst (l++m))
 | .lst l,[.tup m],R=>l.length+m.length<=1000000/\R (.val (.v .non)) (.lst (l++m))
 |_,_,_=>False
def Ia:MtC X "list.extend" Bt:=by
 intro n s p H x xs v us Q I r u h;obtain⟨W,cel,j,a,d,ds,R,rfl,ok,rfl,g,hd,w,h,q⟩:=h;unfold Bt at h
 split at h
 ·obtain⟨ys,i,c⟩:=ok.lst g hd;obtain⟨y,rfl,b,e,rfl,l,f⟩:=dq w;obtain⟨l3,m⟩:=jf (d':=.lst _) (o:=.lst (ys++e)) ok g hd {_,bp,c.append f};show Vy n s p W.H _ _ v us Q I r u {a,b,ys,e,rfl,rfl,i,l,by rw[c.length,f.length];show big _ h.1,q _ _ _ .non h.2 l3 (λ_=>rfl) m (Rp.v rfl)}
 ·obtain⟨ys,i,c⟩:=ok.lst g hd;obtain⟨y,rfl,t⟩:=dq w;obtain⟨b,e,rfl,l,f⟩:=t.tup ok.sub;obtain⟨l3,m⟩:=jf (d':=.lst _) (o:=.lst (ys++e)) ok g hd {_,bp,c.append f};show aeu n s p W.H _ _ v us Q I r u {a,b,ys,e,rfl,rfl,i,l,by rw[c.length,f.length];show big _ h.1,q _ _ _ .non h.2 l3 (λ_=>rfl) m (Rp.v rfl)}
 ·show h.elim
def Lg:GMc
 | .lst _,[],R=>R (.val (.v .non)) (.lst [])
 |_,_,_=>False
def aak:MtC X "list.clear" Lg:=by
 intro c s e H x xs v us Q I f g h;obtain⟨W,cel,j,a,d,ds,R,rfl,ok,rfl,b,hd,i,h,q⟩:=h;unfold Lg at h
 split at h
 ·obtain⟨ys,l,n⟩:=ok.lst b hd;cases i;obtain⟨l3,m⟩:=jf (d':=.lst _) (o:=.lst []) ok b hd {_,bp,.nil};show Zf c s e W.H _ _ v us Q I f g {a,ys,rfl,rfl,l,q _ _ _ .non h l3 (λ_=>rfl) m (Rp.v rfl)}
 ·show h.elim
def Aq:GMc
 | .lst l,[],R=>kn l.getLast? λd=>R (.val d) (.lst l.dropLast)
 | .lst l,[.v (.int i)],R=>kn (ixN l.length i) λk=>kn l[k]? λd=>R (.val d) (.lst (l.eraseIdx k))
 |_,_,_=>False
theorem Rps.dropLast (r:Rps b F xs l):Rps b F xs.dropLast l.dropLast:=by
 rw[List.dropLast_eq_take,List.dropLast_eq_take,r.length];show r.take _
theorem Rps.erase:∀{xs l} k,Rps b F xs l->Rps b F (xs.eraseIdx k) (l.eraseIdx k)
 |_,_,_,.nil=>.nil
 |_,_,0,.cons _ r=>r
 |_,_,k+1,.cons h r=>.cons h (Rps.erase k r)
def Lh:MtC X "list.pop" Aq:=by
 intro n s p H x xs v us Q I r u h;obtain⟨W,cel,j,a,d,ds,R,rfl,ok,rfl,c,hd,w,h,q⟩:=h;unfold Aq at h
 split at h
 ·obtain⟨ys,f,b⟩:=ok.lst c hd;cases w;obtain⟨e,g,h⟩:=i7 h;rw[List.getLast?_eq_getElem?]at g;obtain⟨y,i,l⟩:=b.get g;obtain⟨l3,m⟩:=jf (d':=.lst _) (o:=.lst ys.dropLast) ok c hd {_,bp,b.dropLast};show ait n s p W.H _ _ v us Q I r u {a,ys,y,rfl,rfl,f,by rw[b.length];show i,q _ _ _ y h l3 (λ_=>rfl) m (Rp.mono l3.same l)}
 ·obtain⟨ys,f,b⟩:=ok.lst c hd;obtain⟨y,rfl,t⟩:=dq w;cases t.v;obtain⟨k,hk,h⟩:=i7 h;obtain⟨e,g,h⟩:=i7 h;obtain⟨y,i,l⟩:=b.get g;obtain⟨z,D,A,C⟩:=Fj hk;have hz:ys.length<=sizeLine:=(I.lst f).choose_spec.choose_spec.2.2;have E:=mf;rw[<-b.length]at z A C;obtain⟨l3,m⟩:=jf (d':=.lst _) (o:=.lst (ys.eraseIdx k)) ok c hd {_,bp,b.erase k};show Ze n s p W.H _ _ v us Q I r u {a,ys,_,k,y,rfl,rfl,f,(),(),z,i,q _ _ _ y h l3 (λ_=>rfl) m (Rp.mono l3.same l)}
 ·show h.elim
def cu:GS:=λE m=>E.nx m
def ak (s t:GS):GS:=λE m=>s { E with nx:=t E } m
def bt:VSs X [] cu:=#v[λO=>PSs.sub adu λD a H ⟨W,m,E,b,l,c,h,n,_⟩=>by subst b;show n m W a h l Same.id c]
def Li (h:lfS b O (ak s t) D f H):lfS b O s { D with nx:=lfS b O t D } f H:=by
 obtain⟨W,m,E,g,l,i,h,n,r,bk,ct⟩:=h;show⟨W,m,{ E with nx:=t E },g,l,i,h,λj o p h' q s' u=>{o,j,E,rfl,q,u,h',λc W2 a d l2 e=>n c W2 a d l2 (Same.tr s' e),r,λc W2 a d l2 e=>bk c W2 a d l2 (Same.tr s' e),λc W2 a d l2 e=>ct c W2 a d l2 (Same.tr s' e)},r,bk,ct⟩
def ah {rest:List ME}(a:VS X st s)(b:VSs X rest t):VSs X (st::rest) (ak s t):=#v[λO=>PSs.sub (Cw (a.out O) (b.out O)) λ_ _ _ h=>Li h]
def ai (a:VS X st s):VSs X [st] s:=#v[λO=>adw (a.out O)]
def ig (f:GE):GS:=λE m=>f m λ_ a=>E.nx a
def gm (b:VE X e f)(hs:kA e LY a.line X.env=pure MA:=by rfl):VS X (.Expr e a) (ig f):=⟨λO=>PS.sub (adx b.out hs) λD c H ⟨W,m,E,d,l,g,h,n,_⟩=>
  {W,m,_,d,g,h,λq i j x o l1 p _=>n i j c o (l.trans l1.toLe) l1.same p}⟩
def ax (f:GE):GS:=λE m=>f m λa b=>E.rt a b
def ao (a:VE X e f):VS X (.Return (KE e) b) (ax f):=⟨λO=>PS.sub (ahu a.out) λD c H ⟨W,m,E,d,l,g,h,_,r,_⟩=>
  {W,m,_,d,g,h,λi j n x o l1 p q=>r i j n c x o (l.trans l1.toLe) p (q.old l)}⟩
def sIf (c:GT)(s t:GS):GS:=λE m=>c m λk a=>if k=LZ then s E a else t E a
def bx (u:VT X c f)(w:VSs X a s)(x:VSs X b t):VS X (.If c a b y) (sIf f s t):=⟨λO=>PS.sub (ps_if u.out (w.out O) (x.out O)) λD C H ⟨W,m,E,z,l,A,h,n,r,bk,ct⟩=>
  ⟨W,m,_,z,A,h,λk j o p l1 q=>by
    cases k with
    |true=>show{o,j,E,rfl,l.trans l1.toLe,q,p,λe W2 d g l2 i=>n e W2 d g l2 (Same.tr l1.same i),r,λe W2 d g l2 i=>bk e W2 d g l2 (Same.tr l1.same i),λe W2 d g l2 i=>ct e W2 d g l2 (Same.tr l1.same i)}
    |false=>show{o,j,E,rfl,l.trans l1.toLe,q,p,λe W2 d g l2 i=>n e W2 d g l2 (Same.tr l1.same i),r,λe W2 d g l2 i=>bk e W2 d g l2 (Same.tr l1.same i),λe W2 d g l2 i=>ct e W2 d g l2 (Same.tr l1.same i)}⟩⟩
def yk:VS X st (λ_ _=>False):=#v[λO=>λ_ _ _ _ _ _ ⟨_,_,_,_,_,_,h,_⟩=>h.elim]
theorem Rel.set (d:Rel b W m f)(hw:Rwt b W x w):Rel b W {m.loc.set i (KE w),m.cel} (f.set i (KE x)):=⟨d.ok,λk u hk=>by
  by_cases c:k=i
  · subst c;have a:(m.loc.set k (KE w))[k]?=KE (KE u):=hk;by_cases e:k < m.loc.length
    · rw[cY e]at a;cases a;show{x,cY (by rw[<-d.len];show e),hw}
    · rw[bR (by rw[eF];lia)]at a;cases a
  · have a:(m.loc.set i (KE w))[k]?=KE (KE u):=hk;rw[cM (λz=>c z.symm)]at a;obtain⟨y,g,h⟩:=d.loc k u a;show{y,by rw[cM (λz=>c z.symm)];show g,h},by change(m.loc.set i (KE w)).length=_;rw[eF,eF];show d.len⟩
def bo (i:Nat)(f:GE):GS:=λE m=>f m λb c=>fz c b λd a=>E.nx {a.loc.set i (KE (.v d)),a.cel}
def Lj (j:Nat):Option Wt->Option Wt
 |some (.c k)=>if k=j then LY else KE (.c k)
 |w=>w
def setC (i j:Nat)(m:M):Ev->(M->Prop)->Prop
 | .val d,Q=>Q {m.loc.set i (KE (.v d)),m.cel}
 | .cel k,Q=>match m.cel[k]? with
  |some (KE _)=>Q {m.loc.set i (KE (.c k)),m.cel}
  |_=>False
 | .new d,Q=>match m.cel[j+1]? with
  |some _=>Q {(m.loc.map (Lj (j+1))).set i (KE (.c (j+1))),m.cel.set (j+1) (KE d)}
  |none=>False
def aft (l:Le O W)(g:Rel b W m σ)(r:Rev b O W x N)(h:setC i j m N Q):∃T s,Q T/\Le O s/\s.F=W.F/\s.H=W.H/\Rel b s T (σ.set i (KE x)):=by
 cases N with
 |val d=>show{_,W,h,l,rfl,rfl,g.set r}
 |cel k=>
  change (match m.cel[k]? with | some (KE _)=>Q {m.loc.set i (KE (.c k)),m.cel} | _=>False)at h
  rcases e:m.cel[k]? with _ | _ | d
  ·rw[e]at h;show h.elim
  ·rw[e]at h;show h.elim
  ·rw[e]at h;obtain⟨a,rfl,r⟩:=r;obtain⟨E,U,_⟩:=g.ok.cell k d e;cases r E U;show{_,W,h,l,rfl,rfl,g.set {_,rfl,U}}
 |new d=>
  change (match m.cel[j+1]? with | some _=>Q {(m.loc.map (Lj (j+1))).set i (KE (.c (j+1))),m.cel.set (j+1) (KE d)} | none=>False)at h
  have Y:j+1≠0:=();generalize j+1=j at h Y;rcases e:m.cel[j]? with _ | d0
  ·rw[e]at h;show h.elim
  ·rw[e]at h;obtain⟨a,rfl,h0,h1,h2,h3⟩:=r;have jl:j < m.cel.length:=(bH.mp e).1;have o:∀k c,(if k=j then KE a else W.C k)=KE c->(k=j/\a=c)\/(k≠j/\W.C k=KE c):=λk c z=>by
    by_cases q:k=j
    ·rw[MF q]at z;cases z;show .inl #v[q,rfl]
    ·rw[MG q]at z;show .inr #v[q,z]
   show⟨_,{W.F,W.H,λk=>if k=j then KE a else W.C k},h,{l.same,l.fr,l.nw,λk c z=>?_,l.dm},rfl,rfl,Rel.set (m:={m.loc.map (Lj j),m.cel.set j (KE d)}) {{g.ok.sub,λk d' hk=>?_,λk c z=>?_,λk u c z n=>?_},λk w hk=>?_,by change(m.loc.map _).length=_;rw[aC];show g.len} {a,rfl,MF rfl}⟩
   ·rcases o k c z with⟨rfl,rfl⟩ | ⟨_,z⟩
    ·show .inr #v[h0,Y]
    ·show l.cl k c z
   ·by_cases q:k=j
    ·subst q;have f:(m.cel.set k (KE d))[k]?=KE (KE d'):=hk;rw[cY jl]at f;cases f;show{a,MF rfl,h1,h3}
    ·have f:(m.cel.set j (KE d))[k]?=KE (KE d'):=hk;rw[cM (λz=>q z.symm)]at f;obtain⟨E,G,A,I⟩:=g.ok.cell k d' f;show{E,by change(if k=j then KE a else W.C k)=_;rw[MG q];show G,A,I}
   ·rcases o k c z with⟨rfl,_⟩ | ⟨q,z⟩
    ·show{d,cY jl}
    ·obtain⟨d',J⟩:=g.ok.live k c z;show{d',by change(m.cel.set j (KE d))[k]?=_;rw[cM (λz=>q z.symm)];show J}
   ·rcases o k c z with⟨rfl,rfl⟩ | ⟨q,z1⟩
    ·rcases o u _ n with⟨rfl,_⟩ | ⟨J,n⟩
     ·rfl
     ·show MJ n (h2 u)
    ·skip
     rcases o u _ n with⟨rfl,rfl⟩ | ⟨J,n⟩
     ·show MJ z1 (h2 k)
     ·show g.ok.dist k u c z1 n
   ·have f:(m.loc.map (Lj j))[k]?=KE (KE w):=hk;rw[aK]at f;rcases q:m.loc[k]? with _ | _ | w0
    ·rw[q]at f;cases f
    ·rw[q]at f;cases f
    ·rw[q]at f;obtain⟨y,G,A⟩:=g.loc k w0 q;show{y,G,?_};cases w0 with
     |v d'=>cases f;show A
     |c p=>
      have D:(if p=j then LY else KE (Wt.c p))=KE w:=by simpa[Lj]using f
      by_cases L:p=j
      ·rw[MF L]at D;cases D
      ·rw[MG L]at D;cases D;obtain⟨c,rfl,I⟩:=A;show{c,rfl,by change(if p=j then KE a else W.C p)=_;rw[MG L];show I}
def kf (i j:Nat)(f:GE):GS:=λE m=>f m λa b=>setC i j b a E.nx
def cb {a:Type}{l:List a}{i:Nat}{x:a}(h:l[i]?=KE x):i < l.length:=(bH.mp h).1
def Lk (h:lfS b O (bo i f) D a H):lf b f a H λx c=>D.nx (a.set i (KE x)) c:=by
 obtain⟨W,m,E,e,l,g,h,n,_⟩:_:=h;show{W,m,_,e,g,h,λw y z x j l1 o p=>?_};obtain⟨d,A,W2,q,l2,r,s,u⟩:_:=mr l1 o p j;rw[<-r];show n _ W2 _ q (l.trans l2.toLe) l2.same (s.set u)
def Xg (h:lfS b O (kf i j f) D a H):lf b f a H λx c=>D.nx (a.set i (KE x)) c:=by
 obtain⟨W,m,E,d,l,e,h,n,_⟩:_:=h;show{W,m,_,d,e,h,λw y z x g l1 o p=>?_};obtain⟨A,W2,q,l2,r,s,u⟩:_:=aft (l.trans l1.toLe) o (p.old l) g;rw[<-s];show n _ W2 _ q l2 (by rw[r];show l1.same) u
def ay (b:X.N.Nodup)(hi:X.N[i]?=KE x)(c:Loc X.env.scope x)(d:VE X e f)(hs:kA e (KE (.Name x g)) a.line X.env=pure MA:=by rfl)(j:X.fn x=LZ\/X.env.scope.names.lookup x=KE .local:=by first | show .inl rfl | show .inr rfl | assumption) :
  VS X (.Assign [.Name x g] e a) (bo i f):=#v[λO=>PS.sub (Vh b hi c d.out hs j) λD l H h=>Lk h]
def i8 (b:X.N.Nodup)(hi:X.N[i]?=KE x)(c:Loc X.env.scope x)(d:VE X e f)(hs:kA e (KE (.Name x g)) a.line X.env=pure MA:=by rfl)(l:X.fn x=LZ\/X.env.scope.names.lookup x=KE .local:=by first | show .inl rfl | show .inr rfl | assumption) :
  VS X (.Assign [.Name x g] e a) (kf i j f):=#v[λO=>PS.sub (Vh b hi c d.out hs l) λD m H h=>Xg h]
inductive Tg where
 |one (i:Nat)
 |tup (is:List Nat)
 |lst (is:List Nat)
def Ll:List Nat->List Tr->M->(M->Prop)->Prop
 | [],[],m,Q=>Q m
 |i::is,d::ds,m,Q=>Ll is ds {m.loc.set i (KE (.v d)),m.cel} Q
 |_,_,_,_=>False
def gTg:Tg->Tr->M->(M->Prop)->Prop
 | .one i,d,m,Q=>Q {m.loc.set i (KE (.v d)),m.cel}
 | .tup is,.tup ds,m,Q=>Ll is ds m Q
 | .lst is,.lst ds,m,Q=>Ll is ds m Q
 |_,_,_,_=>False
def Eo:List Nat->TGs
 | []=>Yz
 |i::is=>J4 (Bg i) (Eo is)
def gOf (K:aG):Tg->TG
 | .one i=>Bg i
 | .tup is=>L2.gTup K is.length (Eo is)
 | .lst is=>L2.gLst K is.length (Eo is)
structure VG (X:Cx)(tg:MD)(t:Tg):Prop where
 out:PG X tg (gOf X.K t)
def Di (n:Nat):Tg->Prop
 | .one i=>i < n
 | .tup is=>∀i∈is,i < n
 | .lst is=>∀i∈is,i < n
theorem Fy:∀{is ds xs m c},Rel b W m c->Rps b W.F xs ds->Ll is ds m Q->∀{P} H,(∀e a,Q e->Rel b W e a->a.length=c.length->(∀k,k ∉ is->a[k]?=c[k]?)->P a H)->Eo is xs c H P
 | [],[],_,m,c,f,.nil,h,P,H,q=>{rfl,q m c h f rfl λ_ _=>rfl}
 |i::is,d::ds,_,m,c,f,.cons r t,h,P,H,q=>by
  show{_,_,rfl,?_};show Fy (f.set (i:=i) (w:=.v d) r) t h H λe a h' g j l=>q e a h' g (by rw[j,eF]) λk hk=>?_;rw[l k λz=>hk (aP _ z),cM (λz=>hk (by rw[z];show aQ))]
 | [],_::_,_,_,_,_,_,h,_,_,_=>h.elim
 |_::_,[],_,_,_,_,_,h,_,_,_=>h.elim
def adb:Tg->Nat->Prop
 | .one i,k=>k=i
 | .tup is,k=>k∈is
 | .lst is,k=>k∈is
theorem Dj:∀{is ds m Q},Ll is ds m Q->ds.length=is.length
 | [],[],_,_,_=>rfl
 |_::_,_::_,_,_,h=>ML (·+1) (Dj h)
 | [],_::_,_,_,h=>h.elim
 |_::_,[],_,_,h=>h.elim
def Ar (e:Rel b W m g)(r:Rp b W.F x d)(h:gTg t d m Q)
  (q:∀j c,Q j->Rel b W j c->c.length=g.length->(∀k,¬adb t k->c[k]?=g[k]?)->P c W.H):gOf b.K t x g W.H P:=by
 unfold gTg at h
 split at h
 ·show q _ _ h (e.set (w:=.v _) r) (by rw[eF]) λk hk=>by rw[cM (λz=>hk z.symm)]
 ·obtain⟨a,xs,rfl,i,f⟩:_:=Rp.tupI r;show{a,xs,rfl,i.same e.ok.sub,by rw[f.length];show Dj h,Fy e f h W.H q}
 ·obtain⟨a,xs,rfl,i,f⟩:_:=Rp.lstI r;show{a,xs,rfl,SqL.of (e.ok.sub _ _ i),by rw[f.length];show Dj h,Fy e f h W.H q}
 ·show h.elim
def de (a:X.N.Nodup)(hi:X.N[i]?=KE x)(b:Loc X.env.scope x)(c:X.fn x=LZ\/X.env.scope.names.lookup x=KE .local:=by first | show .inl rfl | show .inr rfl | assumption):VG X (.Name x d) (.one i):=#v[nr a hi b c]
def Lm (t:Tg)(f:GE):GS:=λE m=>f m λa b=>fz b a λd c=>gTg t d c E.nx
def Ep (i:VE X e f)(j:VG X a t)(hs:rY [a] e b.line X.env=pure MA:=by rfl)(hw:rZ [a] e X.env=pure LY:=by rfl)
  (c:(jJ [a] X.env).map (·.2)=[lO a X.env]:=by rfl):VS X (.Assign [a] e b) (Lm t f):=⟨λO=>PS.sub (Ki i.out j.out hs hw c) λD C H ⟨W,m,E,o,l,p,h,n,_⟩=>⟨W,m,_,o,p,h,λG I J x c l1 q r=>by
obtain⟨d,L,W2,s,l2,u,w,y⟩:_:=mr l1 q r c;rw[<-u];show Ar w y s λz g h' A _ _=>n z W2 g h' (l.trans l2.toLe) l2.same A⟩⟩
abbrev GI:=M->(List Tr->M->Prop)->Prop
def Sq (b:B)(F:Hp)(J:It)(ds:List Tr):Prop:=∀c a:Hp,Same F c->Same c a->∀i:Nat,(ds.length<=i->J.stop i a)/\
 ∀d,ds[i]?=KE d->J.go i a/\∀x e,J.yld i a x e->(e=a/\Rp b c x d)\/∃p xs l,a p=LY/\e=upd a p (.tup xs)/\x=.ref p/\Rps b c xs l/\d=.tup l
def lfI (b:B)(f:GI):TI:=λc H R=>∃W m d,W.H=H/\Rel b W m c/\f m d/\∀ds e a J,d ds e->Lx W a->Rel b a e c->Sq b a.F J ds->R J a.H
structure VI (X:Cx)(tg iter:MD)(f:GI):Prop where
 out:PI X tg iter (lfI X.B f)
def PI.sub (h:PI X b iter t')(k:∀a H R,t a H R->t' a H R):PI X b iter t:=λc s a H R I q=>h c s a H R I (k a H R q)
def giL (f:GE):GI:=λm Q=>f m λa b=>fz b a λd c=>match d with
 | .lst l=>Q l c
 |_=>False
def giT (f:GE):GI:=λm Q=>f m λa b=>fz b a λd c=>match d with
 | .tup l=>Q l c
 |_=>False
def ajv (h:F a=KE (.lst xs))(r:Rps b F xs l):Sq b F (Itl b.K a) l:=λo g e j i=>by
 have c:SqL b.K g a xs:=SqL.of (j _ _ (e _ _ h));show{λhi=>{xs,c,by rw[r.length];show hi},λd hd=>?_};obtain⟨x,f,m⟩:_:=r.get hd;show{#v[xs,x,c,f],?_};rintro y p ⟨rfl,n⟩;have:=n xs c;rw[f]at this;cases this;show .inl {rfl,m.mono e}
def ajw (h:SqT b.K F a xs)(r:Rps b F xs l):Sq b F (Itt b.K a) l:=λo g e j i=>by
 have c:SqT b.K g a xs:=(h.same e).same j;show{λhi=>{xs,c,by rw[r.length];show hi},λd hd=>?_};obtain⟨x,f,m⟩:_:=r.get hd;show{#v[xs,x,c,f],?_};rintro y p ⟨rfl,n⟩;have:=n xs c;rw[f]at this;cases this;show .inl {rfl,m.mono e}
def cy (i:VE X e f):VI X y e (giL f):=⟨PI.sub (ady i.out) λz H R ⟨W,m,A,j,l,h,q⟩=>⟨W,m,_,j,l,h,λC D E x n l1 o p=>by
  obtain⟨d,r,W2,b,l2,s,c,u⟩:_:=mr l1 o p n
  split at b
  · obtain⟨a,xs,rfl,g,w⟩:_:=Rp.lstI u;rw[<-s];show{a,rfl,{xs,SqL.of (c.ok.sub _ _ g)},q _ r W2 _ b l2 c (ajv g w)}
  · show b.elim⟩⟩
def o3 (i:VE X e f):VI X y e (giT f):=⟨PI.sub (ahy i.out) λz H R ⟨W,m,A,j,l,h,q⟩=>⟨W,m,_,j,l,h,λC D E x n l1 o p=>by
  obtain⟨d,r,W2,b,l2,s,c,u⟩:_:=mr l1 o p n
  split at b
  · obtain⟨a,xs,rfl,g,w⟩:_:=Rp.tupI u;rw[<-s];show{a,rfl,{xs,g.same c.ok.sub},q _ r W2 _ b l2 c (ajw g w)}
  · show b.elim⟩⟩
def jg (lo:Int)(n:Nat):List Tr:=(bE n).map λi:Nat=>Tr.v (.int (lo+(i:Int)))
def afu (h:(jg lo n)[i]?=KE d):i < n/\d=.v (.int (lo+i)):=by
 unfold jg at h;rw[aK]at h;by_cases hi:i < n
 ·rw[cG hi]at h;cases h;show#v[hi,rfl]
 ·rw[bR (by simpa using hi)]at h;cases h
def aal (lo:Int)(n:Nat):(jg lo n).length=n:=by unfold jg;simp
def ajx (lo:Int)(n:Nat):Sq b F (Itr lo n) (jg lo n):=λa c e f i=>by
 show{λhi=>by rw[aal]at hi;show hi,λd hd=>?_};obtain⟨hi,rfl⟩:_:=afu hd;show{hi,?_};rintro y g ⟨rfl,rfl⟩;show .inl {rfl,.v rfl}
def giR (ga:GA):GI:=λm Q=>ga m λa b=>match a with
 | [.val (.v (.int j))]=>-1000000<=j/\j<=1000000/\Q (jg 0 j.toNat) b
 |_=>False
def g9 (c:Gl X "range")(d:X.mg "range"=LY)(e:VA X [a] ga)(hs:aN [a] X.env=[(MA,eval a X.env)]:=by rfl):VI X s (.Call (.Name "range" p) [a] [] f) (giR ga):=⟨PI.sub (Vk c d e.out hs) λu H R ⟨W,m,w,g,i,h,q⟩=>⟨W,m,_,g,i,h,λy j l xs b l1 n o=>by
    split at b
    · obtain⟨x,rfl,r⟩:_:=dq o;cases(Rp.vI r).1;show{_,rfl,(),(),q _ j l _ b.2.2 l1 n (ajx 0 _)}
    · show b.elim⟩⟩
end
end VL
namespace L2
open PySem PySem.Spec PyProof.Rows
open Sem (wp)
def itN (c:Bool):String:=if c then "tuple_iterator" else "list_iterator"
def ItK (c:Bool)(h:MC)(it l:MB)(k:Nat):Prop:=∃o,h.get? it=KE o/\o.cls=.type (itN c)/\o.data=.fields #[.ref l,.int k 0]
def SqK (c:Bool)(h:MC)(l:MB)(xs:Array aE):Prop:=match c with
 |true=>h.IsTuple l xs
 |false=>h.IsList l xs
def ItK.extBut (x:ItK c h it l k)(hs:kO b h h')(n:it≠b):ItK c h' it l k:=by
 obtain⟨o,a,r⟩:_:=x;show{o,hs it o n a,r}
theorem SqK.extBut (x:SqK c h l xs)(hs:kO b h h')(n:l≠b):SqK c h' l xs:=by
 cases c with
 |true=>show Heap.IsTuple.extBut (show h.IsTuple l xs from x) hs n
 |false=>show Heap.IsList.extBut (show h.IsList l xs from x) hs n
def SqK.lt (x:SqK c h l xs):l < h.objs.size:=by
 cases c with
 |true=>obtain⟨_,e,_⟩:_:=(show h.IsTuple l xs from x);show aU e
 |false=>obtain⟨_,e,_⟩:_:=(show h.IsList l xs from x);show aU e
section
variable {prog:aV}{w:bA}{A:bV}{E:aE->aH->Prop}{s:aH}
def yn (hi:ItK c s.heap it t k)(a:SqK c s.heap t its)(b:its[k]?=KE y)(d:∀h',ItK c h' it t (k+1)->dZ it s.heap h'->Q y { s with heap:=h' }):aL (aX prog w) A (dM (.ref it)) Q E s:=by
 cases c with
 |true=>show drawT hi a b d
 |false=>show wpAny_nextOf_list_item hi a b d
def Fz (a:A.handled=LY)(hi:ItK c s.heap it t k)(b:SqK c s.heap t its)(d:its[k]?=LY)(f:∀h' e,kO it s.heap h'->(∃o,h'.get? e=KE o/\o.cls=.type "StopIteration")->E (.ref e) { s with heap:=h' }):aL (aX prog w) A (dM (.ref it)) Q E s:=by
 cases c with
 |true=>show V3 a hi b d f
 |false=>show wpAny_nextOf_list_end a hi b d f
end
def SqV (c:Bool)(K:aG)(H:Hp)(a:MB)(xs:List V):Prop:=match c with
 |true=>SqT K H a xs
 |false=>SqL K H a xs
def Inv.sqv (I:Inv X b d H s)(h:SqV c X.K H a xs):∃its,Vals xs its/\SqK c s.heap a its.toArray/\xs.length<=sizeLine:=by
 cases c with
 |true=>obtain⟨its,r,p,z⟩:_:=I.tuple (show SqT X.K H a xs from h);show#v[its,r,p,z]
 |false=>obtain⟨its,r,p,z⟩:_:=I.list (show SqL X.K H a xs from h);show#v[its,r,p.isList,z]
def F0 (I:Inv X b d H s)(h:SqV c X.K H a xs)(k:SqV c X.K H a ys):xs=ys:=by
 cases c with
 |true=>show I.tuple_inj h k
 |false=>show I.list_inj h k
section
variable {prog:aV}{w:bA}{A:bV}{E:aE->aH->Prop}{s:aH}
structure Zp (c d:Bool)(h:MC)(z TI TO i1 i2 l1 l2:MB)(k:Nat):Prop where
 zip:pE h z TI TO .none
 its:lF h TI (.ref i1) (.ref i2)
 out:∃a b,lF h TO a b
 one:ItK c h i1 l1 k
 two:ItK d h i2 l2 k
def afv {c d:Bool}{z TI TO g h l1 l2:MB}{k:Nat}{xs ys:Array aE}{x y:aE}{Q:aE->aH->Prop}(D:rX z TI TO g h l1 l2)(Z:Zp c d s.heap z TI TO g h l1 l2 k)
  (AN:SqK c s.heap l1 xs) (AA:SqK d s.heap l2 ys) (hx:xs[k]?=KE x) (hy:ys[k]?=KE y)
  (hQ:∀h',pE h' z TI TO (iU ‹s›)->lF h' TO x y->ItK c h' g l1 (k+1)->ItK d h' h l2 (k+1)->lF h' ‹s› x y->(∀c o,c≠z->c≠TO->c≠g->c≠h->s.heap.get? c=KE o->h'.get? c=KE o)->Q (.ref ‹s›) { s with heap:=h' }) :
  aL (aX prog w) A (iP.«zip.__next__» {[.ref z],[]}) (λwF s'=>∃v,wF=.done (.ret v)/\Q v s') E s:=by
 obtain⟨hz,JD,⟨a,b,JE⟩,h1,h2⟩:_:=Z;change aL _ _ (oG (.ref z) 2 >>= _) _ _ _;show aA (dE hz rfl (x:=.bool MA) rfl ?_);change aL _ _ (oG (.ref z) 3 >>= _) _ _ _;show aA (dE hz rfl (x:=.ref TI) rfl ?_);show aA (fN JD rfl ?_);change aL _ _ (eG (.ref z) >>= _) _ _ _;show aA ?_;unfold eG;show aA (dE hz rfl (x:=.none) rfl (wpAny_pure ?_));simp only[if_true];show aA (mI ?_);show aA (dE hz rfl (x:=.ref TO) rfl ?_);show aA (eP hz ∅ λha C sa=>?_)
 replace C:pE ha z TI TO .ellipsis:=C
 show aA ?_;simp only[List.zipIdx_cons,List.zipIdx_nil,List.forIn_cons,List.forIn_nil];show aA (aA (pS ?_));change aL _ _ (dM (.ref g) >>= _) _ _ _;show aA (yn (h1.extBut sa.extBut D.i1z) (AN.extBut sa.extBut D.l1z) hx λhb LN j=>wpAny_pure ?_);have N:lF hb TO a b:=j.extBut _ _ D.TOi1 (sa.extBut _ _ D.TOz JE);show aA (fN N rfl ?_);show aA (oM N λhc G l=>?_)
 replace G:lF hc TO x b:=G
 show aA (rK (wpAny_pure ?_));show aA (aA (pS ?_));change aL _ _ (dM (.ref h) >>= _) _ _ _;show aA (yn (((h2.extBut sa.extBut D.i2z).extBut j.extBut D.i12.symm).extBut l.extBut D.TOi2.symm) (((AA.extBut sa.extBut D.l2z).extBut j.extBut D.l2i1).extBut l.extBut D.l2TO) hy λhd H m=>wpAny_pure ?_);have O:lF hd TO x b:=m.extBut _ _ D.TOi2 G;show aA (fN O rfl ?_);show aA (oM O λf p n=>?_)
 replace p:lF f TO x y:=p
 show aA (rK (wpAny_pure (wpAny_pure ?_)));show aA (fN p rfl ?_);show aA (rP ?_);have T:f.objs.size=‹s›:=(by rw[n.1,m.1,l.1,j.1,sa.1]);have U:pE f z TI TO .ellipsis:=n.extBut _ _ D.TOz.symm (m.extBut _ _ D.i2z.symm (l.extBut _ _ D.TOz.symm (j.extBut _ _ D.i1z.symm C)));have ke:∀c o,c≠z->c≠TO->c≠g->c≠h->s.heap.get? c=KE o->f.get? c=KE o:=λe o i r I J q=>
  n.extBut _ _ r (m.extBut _ _ J (l.extBut _ _ r (j.extBut _ _ I (sa.extBut _ _ i q))))
 have e1:ItK c f g l1 (k+1):=((LN.extBut l.extBut D.TOi1.symm).extBut m.extBut D.i12).extBut n.extBut D.TOi1.symm;have e2:ItK d f h l2 (k+1):=H.extBut n.extBut D.TOi2.symm;have Y:z < f.objs.size:=aU U;change aL _ _ (gJ (.ref z) (.ref f.objs.size) >>= _) _ _ _;show aA ?_;unfold gJ;have zf:pE (f.push { cls:=.type "tuple",data:=.seq #[x,y] }) z TI TO .ellipsis:=aF _ U;show aA (eP zf ∅ λhg L sg=>?_)
 replace L:pE hg z TI TO (iU f.objs.size):=L
 show eP L ∅ λhk u sk=>?_
 replace u:pE hk z TI TO (iU f.objs.size):=u
 have up:∀c o,c≠z->f.get? c=KE o->hk.get? c=KE o:=λc o i q=>sk.extBut _ _ i (sg.extBut _ _ i (aF _ q));have tk:lF hk f.objs.size x y:=sk.extBut _ _ (eZ Y) (sg.extBut _ _ (eZ Y) (aT _ rfl));rw[T]at u tk;show wpAny_pure {_,rfl,?_};change Q (.ref f.objs.size) _;rw[T];obtain⟨w1,v1,r1⟩:_:=e1;obtain⟨w2,v2,r2⟩:_:=e2;show hQ hk u (up _ _ D.TOz p) {w1,up _ _ D.i1z v1,r1} {w2,up _ _ D.i2z v2,r2} tk λe o i r I J q=>up e o i (ke e o i r I J q)
def afw {c d:Bool}{z TI TO a b l1 l2:MB}{k:Nat}{xs ys:Array aE}{x y:aE}{Q:Option aE->aH->Prop}(D:rX z TI TO a b l1 l2)(Z:Zp c d s.heap z TI TO a b l1 l2 k)
  (f:SqK c s.heap l1 xs) (g:SqK d s.heap l2 ys) (h:xs[k]?=KE x) (i:ys[k]?=KE y)
  (j:∀h',pE h' z TI TO (iU ‹s›)->lF h' TO x y->ItK c h' a l1 (k+1)->ItK d h' b l2 (k+1)->lF h' ‹s› x y->(∀c o,c≠z->c≠TO->c≠a->c≠b->s.heap.get? c=KE o->h'.get? c=KE o)->Q (KE (.ref ‹s›)) { s with heap:=h' }):aL (aX prog w) A (gU (.ref z)) Q E s:=by
 have e:s.TypeIs (.ref z) "zip":={_,Z.zip,rfl};unfold gU;show aA (jH (cS (name:=cW "__next__") e F.slot_zip_next (cN F.slot_zip_next e F.entry_zip_next (afv D Z f g h i λh' l m n p q r=>wpAny_pure (j h' l m n p q r)) (F.args_zip_next_1 _))))
def afx {c d:Bool}{z TI TO l m l1 l2:MB}{k:Nat}{xs ys:Array aE}{Q:Fin->aH->Prop}(H:A.handled=LY)(D:rX z TI TO l m l1 l2)(Z:Zp c d s.heap z TI TO l m l1 l2 k)
  (I:SqK c s.heap l1 xs) (AA:SqK d s.heap l2 ys) (AI:xs[k]?=LY\/ys[k]?=LY)
  (J:∀h' e,(∀c o,c≠z->c≠TO->c≠l->c≠m->s.heap.get? c=KE o->h'.get? c=KE o)->(∃o,h'.get? e=KE o/\o.cls=.type "StopIteration")->E (.ref e) { s with heap:=h' }) :
  aL (aX prog w) A (iP.«zip.__next__» {[.ref z],[]}) Q E s:=by
 obtain⟨hz,JD,⟨a,b,JE⟩,L,h2⟩:_:=Z;change aL _ _ (oG (.ref z) 2 >>= _) _ _ _;show aA (dE hz rfl (x:=.bool MA) rfl ?_);change aL _ _ (oG (.ref z) 3 >>= _) _ _ _;show aA (dE hz rfl (x:=.ref TI) rfl ?_);show aA (fN JD rfl ?_);change aL _ _ (eG (.ref z) >>= _) _ _ _;show aA ?_;unfold eG;show aA (dE hz rfl (x:=.none) rfl (wpAny_pure ?_));simp only[if_true];show aA (mI ?_);show aA (dE hz rfl (x:=.ref TO) rfl ?_);show aA (eP hz ∅ λha n sa=>?_)
 replace n:pE ha z TI TO .ellipsis:=n
 show aA ?_;simp only[List.zipIdx_cons,List.zipIdx_nil,List.forIn_cons,List.forIn_nil];show aA (aA (pS ?_));change aL _ _ (dM (.ref l) >>= _) _ _ _;cases p:xs[k]? with
 |none=>
  show aA (Fz H (L.extBut sa.extBut D.i1z) (I.extBut sa.extBut D.l1z) p λr e f u=>?_);obtain⟨y,g,i⟩:_:=u;have N:pE r z TI TO .ellipsis:=f _ _ D.i1z.symm n;have C:e≠z:=λq=>(by subst q;rw[N]at g;cases g;simp at i);show eP N ∅ λO _ h=>J O e (λc o j _ G _ q=>h.extBut _ _ j (f _ _ G (sa.extBut _ _ j q))) {y,h.extBut _ _ C g,i}
 |some x=>
  have hy:ys[k]?=LY:=by
   rcases AI with q | q
   ·rw[p]at q;cases q
   ·show q
  show aA (yn (L.extBut sa.extBut D.i1z) (I.extBut sa.extBut D.l1z) p λr LN f=>wpAny_pure ?_);have T:lF r TO a b:=f.extBut _ _ D.TOi1 (sa.extBut _ _ D.TOz JE);show aA (fN T rfl ?_);show aA (oM T λO oc h=>?_);show aA (rK (wpAny_pure ?_));show aA (aA (pS ?_));change aL _ _ (dM (.ref m) >>= _) _ _ _;show aA (Fz H (((h2.extBut sa.extBut D.i2z).extBut f.extBut D.i12.symm).extBut h.extBut D.TOi2.symm) (((AA.extBut sa.extBut D.l2z).extBut f.extBut D.l2i1).extBut h.extBut D.l2TO) hy λhd e U u=>?_);obtain⟨y,g,i⟩:_:=u;have Y:pE hd z TI TO .ellipsis:=U _ _ D.i2z.symm (h.extBut _ _ D.TOz.symm (f.extBut _ _ D.i1z.symm n));have C:e≠z:=λq=>(by subst q;rw[Y]at g;cases g;simp at i);show eP Y ∅ λhf _ sf=>J hf e (λe o j c2 G c4 q=>sf.extBut _ _ j (U _ _ c4 (h.extBut _ _ c2 (f.extBut _ _ G (sa.extBut _ _ j q))))) {y,sf.extBut _ _ C g,i}
def ajy {c d:Bool}{z TI TO a f l1 l2:MB}{k:Nat}{xs ys:Array aE}{Q:Option aE->aH->Prop}(h:A.handled=LY)(D:rX z TI TO a f l1 l2)(Z:Zp c d s.heap z TI TO a f l1 l2 k)
  (i:SqK c s.heap l1 xs) (j:SqK d s.heap l2 ys) (l:xs[k]?=LY\/ys[k]?=LY)
  (m:∀h',(∀c o,c≠z->c≠TO->c≠a->c≠f->s.heap.get? c=KE o->h'.get? c=KE o)->Q LY { s with heap:=h' }):aL (aX prog w) A (gU (.ref z)) Q E s:=by
 have g:s.TypeIs (.ref z) "zip":={_,Z.zip,rfl};unfold gU;show aA (jH (cS (name:=cW "__next__") g F.slot_zip_next (cN F.slot_zip_next g F.entry_zip_next (afx h D Z i j l λh' e n p=>?_) (F.args_zip_next_1 _))));obtain⟨o,q,r⟩:_:=p;show aA (hX (T:="StopIteration") (b:=LZ) #v[o,q,r] pB ?_);show wpAny_pure (m _ n)
end
abbrev zp1 (c:Bool)(h:MC)(a:MB):MC:=h.push { cls:=.type (itN c),data:=.fields #[.ref a,.int 0 0] }
abbrev zp2 (c d:Bool)(h:MC)(a b:MB):MC:=(zp1 c h a).push { cls:=.type (itN d),data:=.fields #[.ref b,.int 0 0] }
abbrev zp3 (c d:Bool)(h:MC)(a b:MB):MC:=(zp2 c d h a b).push { cls:=.type "tuple",data:=.seq #[.ref h.objs.size,.ref (zp1 c h a).objs.size] }
abbrev zp4 (c d:Bool)(h:MC)(a b:MB):MC:=(zp3 c d h a b).push { cls:=.type "tuple",data:=.seq #[.none,.none] }
abbrev zp5 (c d:Bool)(h:MC)(a b:MB):MC:=(zp4 c d h a b).push { cls:=.type "zip",data:=.fields #[.none,.bool MA,.bool MA,.ref (zp2 c d h a b).objs.size,.ref (zp3 c d h a b).objs.size] }
def aam (c d:Bool)(a b:MB)(xs ys:Array aE) :
  Meets (iP.«zip.__new__» {[.type "zip",.ref a,.ref b],[]}) (λ_ R s=>SqK c s.heap a xs/\SqK d s.heap b ys/\R (.ok (.ret (.ref (zp4 c d s.heap a b).objs.size))) { s with heap:=zp5 c d s.heap a b }):=
 .of_wp λprog w A R s h=>by
  obtain⟨e,f,g,i,os⟩:_:=s;obtain⟨m,n,h⟩:_:=h;have o:=sub_zip;cases c<;>cases d
  ·have j:pF (iS ⟨e,f,g,i,os⟩) a xs:=m;have l:pF (iS ⟨e.push { cls:=.type "list_iterator",data:=.fields #[.ref a,.int 0 0] },f,g,i,os⟩) b ys:=jQ n _
   wp_walk using dX j,dX l
   show{_,rfl,h}
  ·have j:pF (iS ⟨e,f,g,i,os⟩) a xs:=m;have l:oN (iS ⟨e.push { cls:=.type "list_iterator",data:=.fields #[.ref a,.int 0 0] },f,g,i,os⟩) b ys:=Heap.IsTuple.push n _
   wp_walk using dX j,fP l
   show{_,rfl,h}
  ·have j:oN (iS ⟨e,f,g,i,os⟩) a xs:=m;have l:pF (iS ⟨e.push { cls:=.type "tuple_iterator",data:=.fields #[.ref a,.int 0 0] },f,g,i,os⟩) b ys:=jQ n _
   wp_walk using fP j,dX l
   show{_,rfl,h}
  ·have j:oN (iS ⟨e,f,g,i,os⟩) a xs:=m;have l:oN (iS ⟨e.push { cls:=.type "tuple_iterator",data:=.fields #[.ref a,.int 0 0] },f,g,i,os⟩) b ys:=Heap.IsTuple.push n _
   wp_walk using fP j,fP l
   show{_,rfl,h}
section
variable {prog:aV}{w:bA}{A:bV}{E:aE->aH->Prop}{s:aH}
def afy (p:SqK c s.heap a xs)(r:SqK d s.heap b ys)
  (h:∀h',Zp c d h' (‹s›+4) (‹s›+2) (‹s›+3) ‹s› (‹s›+1) a b 0->(∀c o,s.heap.get? c=KE o->h'.get? c=KE o)->h'.objs.size=‹s›+5->Q (.ref (‹s›+4)) { s with heap:=h' }):aL (aX prog w) A (call (.type "zip") [.ref a,.ref b]) Q E s:=by
 show callType_new F.called_zip (by decide) (F.typeCall_zip_2 _ _) (F.newCall_zip_2 _ _) (λobj=>F.args_object_init_3 obj _ _) F.entry_zip_new (aam c d a b xs ys) {p,r,?_};have e:(zp1 c s.heap a).objs.size=‹s›+1:=eQ ..;have f:(zp2 c d s.heap a b).objs.size=‹s›+2:=(by rw[eQ,e]);have g:(zp3 c d s.heap a b).objs.size=‹s›+3:=(by rw[eQ,f]);have i:(zp4 c d s.heap a b).objs.size=‹s›+4:=(by rw[eQ,g]);have u:(zp5 c d s.heap a b).objs.size=‹s›+5:=(by rw[eQ,i]);have j:(zp5 c d s.heap a b).get? (zp4 c d s.heap a b).objs.size=KE _:=aT _ rfl;have l:(zp5 c d s.heap a b).get? (zp3 c d s.heap a b).objs.size=KE _:=aF _ (aT _ rfl);have m:(zp5 c d s.heap a b).get? (zp2 c d s.heap a b).objs.size=KE _:=aF _ (aF _ (aT _ rfl));have n:(zp5 c d s.heap a b).get? (zp1 c s.heap a).objs.size=KE _:=aF _ (aF _ (aF _ (aT _ rfl)));have x:(zp5 c d s.heap a b).get? ‹s›=KE _:=aF _ (aF _ (aF _ (aF _ (aT _ rfl))));change _/\_;rw[f,g,i]at j;rw[e,f]at m;rw[g]at l;rw[e]at n;rw[i];show{{_,j,rfl},h _ {j,m,{_,_,l},{_,x,rfl,rfl},{_,n,rfl,rfl}} (λc o q=>aF _ (aF _ (aF _ (aF _ (aF _ q))))) u}
end
def Ga (c d:Bool)(K:aG)(a b:MB):It:=
 {λi H=>∃xs ys x y,SqV c K H a xs/\SqV d K H b ys/\xs[i]?=KE x/\ys[i]?=KE y,λi H v H'=>∃p x y,H p=LY/\v=.ref p/\(∀xs,SqV c K H a xs->xs[i]?=KE x)/\(∀ys,SqV d K H b ys->ys[i]?=KE y)/\H'=upd H p (.tup [x,y]),λi H=>∃xs ys,SqV c K H a xs/\SqV d K H b ys/\(xs.length<=i\/ys.length<=i)}
def afz {c d:Bool}{P:aV}{w:bA}{K:aG}{es:List MD}{j:Nat}{pos:Pos}{z TI TO i1 i2 a b:MB}(D:rX z TI TO i1 i2 a b) :
  yb P w K (.Tuple es j pos) (Ga c d K a b) [z,TI,TO,i1,i2] z (λk h=>Zp c d h z TI TO i1 i2 a b k) where
 mem:=by simp
 obj:=λk h Z c hc=>by
  obtain⟨u1,u2,⟨_,_,u3⟩,⟨o4,u4,_,v4⟩,⟨o5,u5,_,v5⟩⟩:_:=Z;simp only[aW,dG,or_false]at hc;rcases hc with q | q | q | q | q
  ·subst q;show{_,u1,λv e=>by cases(show rF _=pH v from e)}
  ·subst q;show{_,u2,λv e=>by cases(show uX _ _=pH v from e)}
  ·subst q;show{_,u3,λv e=>by cases(show uX _ _=pH v from e)}
  ·subst q;show{_,u4,λv e=>by rw[v4]at e;cases e}
  ·subst q;show{_,u5,λv e=>by rw[v5]at e;cases e}
 keep:=λk h h' Z kk=>by
  obtain⟨u1,u2,⟨c1,c2,u3⟩,⟨o4,u4,r4⟩,⟨o5,u5,r5⟩⟩:_:=Z;show{kk z ∅ _ u1,kk TI ∅ _ u2,{c1,c2,kk TO ∅ _ u3},{o4,kk i1 ∅ _ u4,r4},{o5,kk i2 ∅ _ u5,r5}}
 item:=by
  intro X hP hw hK hc k f' s σ H E I hf Z hg;subst hP hw hK;obtain⟨xs,ys,x,y,hx,hy,ex,ey⟩:_:=hg;obtain⟨its,r1,p1,_⟩:_:=I.sqv hx;obtain⟨vL,r2,p2,_⟩:_:=I.sqv hy;obtain⟨u,eu,ru⟩:_:=r1.get ex;obtain⟨v,ev,rv⟩:_:=r2.get ey;show afw D Z p1 p2 (x:=u) (y:=v) (by simpa using eu) (by simpa using ev) λh1 b1 b2 b3 b4 b5 kk=>?_;show{_,rfl,wpAny_letOwnedTupleGo_zip b1 λh2 c1 sb=>?_};have ks:∀c o,c ∉ [z,TI,TO,i1,i2]->s.heap.get? c=KE o->h2.get? c=KE o:=λc o hc q=>by
   simp only[aW,dG,or_false,not_or]at hc;show sb.extBut _ _ hc.1 (kk c o hc.1 hc.2.2.1 hc.2.2.2.1 hc.2.2.2.2 q)
  have nz:‹s›≠z:=eZ (aU Z.zip);have b6:lF h2 ‹s› u v:=sb.extBut _ _ nz b5;have I2:Inv X f' σ H { s with heap:=h2 }:=I.turnedAll (t':=s.toks) hf ks;have fT:ki X f' H ‹s›:=I.fpOk (aJ _) (I.hok.fresh (aJ _));have I3:Inv X f' σ (upd H ‹s› (.tup [x,y])) { s with heap:=h2 }:=I2.track fT I.sz
   {by change 2<=sizeLine;decide,[u,v],.cons ru (.cons rv .nil),{_,b6,rfl,_,rfl}}
  show{.ref ‹s›,_,I3,rfl,{_,x,y,fT.1,rfl,λus hu=>by rw[F0 I hu hx];show ex,λus hu=>by rw[F0 I hu hy];show ey,rfl},?_,λc hc=>?_}
  ·obtain⟨w3,v3,q3⟩:_:=b3;obtain⟨w4,v4,q4⟩:_:=b4;show{c1,sb.extBut _ _ D.TIz (kk _ _ D.TIz D.TITO D.TIi1 D.TIi2 Z.its),{_,_,sb.extBut _ _ D.TOz b2},{w3,sb.extBut _ _ D.i1z v3,q3},{w4,sb.extBut _ _ D.i2z v4,q4}}
  ·obtain⟨o,q,_⟩:∃o,s.heap.get? c=KE o/\True:=by
    obtain⟨u1,u2,⟨_,_,u3⟩,⟨o4,u4,_⟩,⟨o5,u5,_⟩⟩:_:=Z;simp only[aW,dG,or_false]at hc;rcases hc with q | q | q | q | q
    ·subst q;show{_,u1,trivial}
    ·subst q;show{_,u2,trivial}
    ·subst q;show{_,u3,trivial}
    ·subst q;show{_,u4,trivial}
    ·subst q;show{_,u5,trivial}
   rw[bc (bJ (aU q))];show(hf c hc).1
 done:=by
  intro X hP hw hK hc k f' s σ H E I hf Z hg;subst hP hw hK;obtain⟨xs,ys,hx,hy,AI⟩:_:=hg;obtain⟨its,r1,p1,_⟩:_:=I.sqv hx;obtain⟨vL,r2,p2,_⟩:_:=I.sqv hy;have l1:=r1.length;have l2:=r2.length;have en:its.toArray[k]?=LY\/vL.toArray[k]?=LY:=by
   rcases AI with q | q
   ·show .inl (by simp;omega)
   ·show .inr (by simp;omega)
  show ajy (I.ok.hd hc) D Z p1 p2 en λh1 kk=>{rfl,I.turnedAll (t':=s.toks) hf λc o hc q=>?_};simp only[aW,dG,or_false,not_or]at hc;show kk c o hc.1 hc.2.2.1 hc.2.2.2.1 hc.2.2.2.2 q
 self:=λ_ _ _ _ _ Z h=>wpAny_pyIter_zip Z.zip h
section
variable {X:Cx}
def iZp (c d:Bool)(K:aG)(f:TA):TI:=λg H R=>f g H λvs e=>∃a b xs ys,vs=[.ref a,.ref b]/\SqV c K e a xs/\SqV d K e b ys/\R (Ga c d K a b) e
def ade {c d:Bool}{l f:MD}{n:TA}{p g C:Pos}{D:List MD}{j:Nat}(E:Gl X "zip")(G:X.mg "zip"=LY)(J:PA X [l,f] n)(hs:aN [l,f] X.env=[(MA,eval l X.env),(MA,eval f X.env)]:=by rfl)
  (o:aN [f] X.env=[(MA,eval f X.env)]:=by rfl):PI X (.Tuple D j C) (.Call (.Name "zip" p) [l,f] [] g) (iZp c d X.K n):=by
 intro r s w H R I h;show Call_ (kh I E G (by kernel_rfl:dW (cW "zip")=KE (.type "zip")) (eW (thn (J g r s w H _ I h) λus m ⟨vs,x,i,L,N⟩=>?_) (by rw[hs,o]) (by rw[o];rfl)));obtain⟨a,b,xs,ys,e,O,Q,q⟩:_:=N;subst e;obtain⟨u,v,rfl,T,U⟩:_:=J5 L;cases(show u=bY a from T);cases(show v=bY b from U);obtain⟨its,k1,y,_⟩:_:=i.sqv O;obtain⟨vL,k2,z,_⟩:_:=i.sqv Q;have Y:a < ‹m›:=y.lt;have a2:b < ‹m›:=z.lt;show afy y z λh2 Z kk sz=>?_;have I2:Inv X r w x { m with heap:=h2 }:=i.kept (t':=m.toks) kk;show wpAny_pyIter_zip Z.zip {_,_,_,_,x,rfl,I2,afz (zipApart_new Y a2),Z,λc A=>?_,q};show i.fpOk ?_ (i.hok.fresh ?_)
 all_goals
  simp only[aW,dG,or_false]at A;rcases A with q | q | q | q | q<;>subst q<;>omega
end
open Sem (wp)
open AutoSeq1 (wpAny_loadPart')
def Xh (c:Bool)(l:MB)(items:Array aE) :
  Meets (iP.«enumerate.__new__» {[.type "enumerate",.ref l],[]}) (λ_ R s=>SqK c s.heap l items/\R (.ok (.ret (.ref (s.heap.push { cls:=.type (itN c),data:=.fields #[.ref l,.int 0 0] }).objs.size))) { s with heap:=(s.heap.push { cls:=.type (itN c),data:=.fields #[.ref l,.int 0 0] }).push { cls:=.type "enumerate",data:=.fields #[.none,.bool MA,.ref ‹s›,iU 0,.none,.none] } }):=
 .of_wp λprog w A R s h=>by
  obtain⟨b,g,d,e,os⟩:_:=s;obtain⟨f,h⟩:_:=h;have i:=sub_enumerate;cases c
  ·have a:pF (iS ⟨b,g,d,e,os⟩) l items:=f
   wp_walk using dX a
   show wpAny_stack_any λst=>wpAny_pure ?_
   split
   ·rename_i c _ _ _ _ _
    cases(c == mD "enumerate")
    ·wp_walk using dX a
     show{_,rfl,h}
    ·wp_walk using dX a
     show{_,rfl,h}
   ·wp_walk using dX a
    show{_,rfl,h}
  ·have a:oN (iS ⟨b,g,d,e,os⟩) l items:=f
   wp_walk using fP a
   show wpAny_stack_any λst=>wpAny_pure ?_
   split
   ·rename_i c _ _ _ _ _
    cases(c == mD "enumerate")
    ·wp_walk using fP a
     show{_,rfl,h}
    ·wp_walk using fP a
     show{_,rfl,h}
   ·wp_walk using fP a
    show{_,rfl,h}
section
variable {prog:aV}{w:bA}{A:bV}{E:aE->aH->Prop}{s:aH}
def aan (d:SqK c s.heap l items)
  (h:∀h',nA h' (‹s›+1) ‹s› 0 .none->ItK c h' ‹s› l 0->h'.objs.size=‹s›+2->(∀b o,s.heap.get? b=KE o->h'.get? b=KE o)->Q (.ref (‹s›+1)) { s with heap:=h' }) :
  aL (aX prog w) A (call (.type "enumerate") [.ref l]) Q E s:=by
 show callType_new F.called_enumerate (by decide) (F.typeCall_enumerate_1 _) (F.newCall_enumerate_1 _) (λobj=>F.args_object_init_2 obj _) F.entry_enumerate_new (Xh c l items) {d,?_};have hz:(s.heap.push { cls:=.type (itN c),data:=.fields #[.ref l,.int 0 0] }).objs.size=‹s›+1:=eQ ..;change _/\_;rw[hz];have a:nA ((s.heap.push { cls:=.type (itN c),data:=.fields #[.ref l,.int 0 0] }).push { cls:=.type "enumerate",data:=.fields #[.none,.bool MA,.ref ‹s›,iU 0,.none,.none] }) (‹s›+1) ‹s› 0 .none:=by
  have z:=aT (s.heap.push { cls:=.type (itN c),data:=.fields #[.ref l,.int 0 0] }) (o:={ cls:=.type "enumerate",data:=.fields #[.none,.bool MA,.ref ‹s›,iU 0,.none,.none] }) rfl;rw[hz]at z;show z
 show{{_,a,rfl},h _ a {_,aF _ (aT _ rfl),rfl,rfl} (by rw[eQ,hz]) λb o x=>aF _ (aF _ x)}
def aao {c:Bool}{i:Nat}{items:Array aE}{Q:aE->aH->Prop}(T:nA s.heap e it i old)(AG:ItK c s.heap it l i)(hl:SqK c s.heap l items)(hx:items[i]?=KE x)(n:e≠it)
  (hQ:∀h',tG h' e it ((i:Int)+1) x ‹s›->ItK c h' it l (i+1)->h'.get? ‹s›=KE { cls:=.type "tuple",data:=.seq #[.int i s.toks,x] }->h'.objs.size=‹s›+1->(∀b o,b≠e->b≠it->s.heap.get? b=KE o->h'.get? b=KE o)->Q (.ref ‹s›) { s with heap:=h',toks:=s.toks+1 }) :
  aL (aX prog w) A (iP.«enumerate.__next__» {[.ref e],[]}) (λwF s'=>∃v,wF=.done (.ret v)/\Q v s') E s:=by
 obtain⟨f,g,d,a,os⟩:_:=s;change aL _ _ (oG (.ref e) 2 >>= _) _ _ _;show aA (dE T rfl (x:=.ref it) rfl ?_);show aA (yn AG hl hx λh i1 p=>?_)
 replace p:dZ it f h:=p
 have I:nA h e it i old:=(p.2 e n).trans T;change aL _ _ (oG (.ref e) 3 >>= _) _ _ #v[h,g,d,a,os];show aA (dE I rfl (x:=iU i) rfl ?_);change aL _ _ (oG (.ref e) 4 >>= _) _ _ #v[h,g,d,a,os];show aA (dE I rfl (x:=.none) rfl ?_);change aL _ _ (mkInt i >>= _) _ _ #v[h,g,d,a,os];show aA (wpAny_mkInt ?_);change aL _ _ (tY (.ref e) 3 (iU ((i:Int)+1)) >>= _) _ _ {h,g,d,a+1,os};show aA (eP I ∅ λG J q=>?_)
 replace q:dZ e h G:=q
 replace J:nA G e it ((i:Int)+1) old:=J
 change aL _ _ (tY (.ref e) 4 .none >>= _) _ _ {G,g,d,a+1,os};show aA (eP J ∅ λj L u=>?_)
 replace u:dZ e G j:=u
 replace L:nA j e it ((i:Int)+1) old:=L
 change aL _ _ (tX [.int i a,x] >>= _) _ _ {j,g,d,a+1,os};show aA (rP ?_);have N:nA (j.push { cls:=.type "tuple",data:=.seq #[.int i a,x] }) e it ((i:Int)+1) old:=aF _ L;generalize H:j.push { cls:=.type "tuple",data:=.seq #[.int i a,x] }=y at N;have hsz:j.objs.size=f.objs.size:=(by rw[u.1,q.1,p.1]);have U:e < f.objs.size:=aU T;have t4:y.get? f.objs.size=KE { cls:=.type "tuple",data:=.seq #[.int i a,x] }:=(by rw[<-H,<-hsz];show aT _ rfl);have z4:y.objs.size=f.objs.size+1:=(by rw[<-H,eQ,hsz]);have k4:∀b o,b≠e->b≠it->f.get? b=KE o->y.get? b=KE o:=λb o m Y hb=>by
  rw[<-H];show aF _ (u.extBut b o m (q.extBut b o m (p.extBut b o Y hb)))
 have i4:ItK c y it l (i+1):=by
  rw[<-H];obtain⟨o,ho,r⟩:_:=(i1.extBut q.extBut (Ne.symm n)).extBut u.extBut (Ne.symm n);show{o,aF _ ho,r}
 change aL _ _ (eG (.ref e) >>= _) _ _ {y,g,d,a+1,os};rw[hsz];clear H L u J q I p i1 hsz j G h;show aA ?_;unfold eG;show aA (dE N rfl (x:=.none) rfl (wpAny_pure ?_));simp only[if_true];show aA (mI ?_);show aA (dE N rfl (x:=old) rfl ?_);show aA (eP N ∅ λO e5 z=>?_)
 replace z:dZ e y O:=z
 replace e5:nA O e it ((i:Int)+1) x:=e5
 change aL _ _ (gJ (.ref e) (.ref f.objs.size) >>= _) _ _ {O,g,d,a+1,os};show aA ?_;unfold gJ;show aA (eP e5 ∅ λh6 e6 C=>?_)
 replace C:dZ e O h6:=C
 replace e6:tG h6 e it ((i:Int)+1) x f.objs.size:=e6
 show eP e6 ∅ λh7 e7 D=>?_
 replace D:dZ e h6 h7:=D
 replace e7:tG h7 e it ((i:Int)+1) x f.objs.size:=e7
 show aA (rK (wpAny_pure {_,rfl,hQ h7 e7 ?_ ?_ ?_ ?_}))
 ·show((i4.extBut z.extBut (Ne.symm n)).extBut C.extBut (Ne.symm n)).extBut D.extBut (Ne.symm n)
 ·show D.extBut _ _ (eZ U) (C.extBut _ _ (eZ U) (z.extBut _ _ (eZ U) t4))
 ·rw[D.1,C.1,z.1,z4]
 ·show λb o m Y hb=>D.extBut b o m (C.extBut b o m (z.extBut b o m (k4 b o m Y hb)))
def aap {c:Bool}{i:Nat}{items:Array aE}{Q:Option aE->aH->Prop}(f:nA s.heap e it i old)(h:ItK c s.heap it l i)(j:SqK c s.heap l items)(m:items[i]?=KE x)(n:e≠it)
  (p:∀h',tG h' e it ((i:Int)+1) x ‹s›->ItK c h' it l (i+1)->h'.get? ‹s›=KE { cls:=.type "tuple",data:=.seq #[.int i s.toks,x] }->h'.objs.size=‹s›+1->(∀b o,b≠e->b≠it->s.heap.get? b=KE o->h'.get? b=KE o)->Q (KE (.ref ‹s›)) { s with heap:=h',toks:=s.toks+1 }):aL (aX prog w) A (gU (.ref e)) Q E s:=by
 have g:s.TypeIs (.ref e) "enumerate":={_,f,rfl};unfold gU;show aA (jH (cS (name:=cW "__next__") g F.slot_enumerate_next (cN F.slot_enumerate_next g F.entry_enumerate_next (aao f h j m n λh' a b c d k=>wpAny_pure (p h' a b c d k)) (F.args_enumerate_next_1 _))))
def aga {c:Bool}{i:Nat}{items:Array aE}{Q:Option aE->aH->Prop}(f:A.handled=LY)(a:nA s.heap e it i old)(g:ItK c s.heap it l i)(h:SqK c s.heap l items)(j:items[i]?=LY)
  (m:∀h',kO it s.heap h'->Q LY { s with heap:=h' }):aL (aX prog w) A (gU (.ref e)) Q E s:=by
 have d:s.TypeIs (.ref e) "enumerate":={_,a,rfl};unfold gU;show aA (jH (cS (name:=cW "__next__") d F.slot_enumerate_next (cN F.slot_enumerate_next d F.entry_enumerate_next ?_ (F.args_enumerate_next_1 _))));change aL _ _ (oG (.ref e) 2 >>= _) _ _ _;show aA (dE a rfl (x:=.ref it) rfl ?_);show aA (Fz f g h j λh' x ex n=>?_);obtain⟨o,p,q⟩:_:=n;show aA (hX (T:="StopIteration") (b:=LZ) #v[o,p,q] pB ?_);show wpAny_pure (m _ ex)
end
structure EnumK (c:Bool)(h:MC)(e it l:MB)(k:Nat):Prop where
 en:∃old,nA h e it k old
 one:ItK c h it l k
def Itek (c:Bool)(K:aG)(a:MB):It:=
 {λi H=>∃xs x,SqV c K H a xs/\xs[i]?=KE x,λi H v H'=>∃p x,H p=LY/\v=.ref p/\(∀xs,SqV c K H a xs->xs[i]?=KE x)/\H'=upd H p (.tup [.int (i:Int),x]),λi H=>∃xs,SqV c K H a xs/\xs.length<=i}
def aar {c:Bool}{P:aV}{w:bA}{K:aG}{es:List MD}{j:Nat}{pos:Pos}{e it a:MB}(xJ:e≠it)(hae:a≠e)(hai:a≠it) :
  yb P w K (.Tuple es j pos) (Itek c K a) [e,it] e (λk h=>EnumK c h e it a k) where
 mem:=by simp
 obj:=λk h Z c hc=>by
  obtain⟨⟨old,u1⟩,⟨o4,u4,_,v4⟩⟩:_:=Z;simp only[aW,dG,or_false]at hc;rcases hc with q | q
  ·subst q;show{_,u1,λv e=>by cases(show rF _=pH v from e)}
  ·subst q;show{_,u4,λv e=>by rw[v4]at e;cases e}
 keep:=λk h h' Z kk=>by
  obtain⟨⟨old,u1⟩,⟨o4,u4,r4⟩⟩:_:=Z;show{{old,kk e ∅ _ u1},{o4,kk it ∅ _ u4,r4}}
 item:=by
  intro X hP hw hK hc k f' s σ H E I hf Z hg;subst hP hw hK;obtain⟨xs,x,hx,ex⟩:_:=hg;obtain⟨its,r1,p1,_⟩:_:=I.sqv hx;obtain⟨u,eu,ru⟩:_:=r1.get ex;obtain⟨⟨old,u1⟩,u2⟩:_:=Z;show aap u1 u2 p1 (x:=u) (by simpa using eu) xJ λh1 b1 b2 b3 b4 kk=>?_;show{_,rfl,wpAny_letOwnedTupleGo_enum b1 λh2 c1 sb=>?_};have ks:∀c o,c ∉ [e,it]->s.heap.get? c=KE o->h2.get? c=KE o:=λc o hc q=>by
   simp only[aW,dG,or_false,not_or]at hc;show sb.extBut _ _ hc.1 (kk c o hc.1 hc.2 q)
  have ne:‹s›≠e:=eZ (aU u1);have b5:=sb.extBut _ _ ne b3;have I2:Inv X f' σ H { s with heap:=h2,toks:=s.toks+1 }:=I.turnedAll (t':=s.toks+1) hf ks;have fT:ki X f' H ‹s›:=I.fpOk (aJ _) (I.hok.fresh (aJ _));have I3:Inv X f' σ (upd H ‹s› (.tup [.int (k:Int),x])) { s with heap:=h2,toks:=s.toks+1 }:=I2.track fT I.sz
   {by change 2<=sizeLine;decide,[.int k s.toks,u],.cons {_,rfl} (.cons ru .nil),{_,b5,rfl,_,rfl}}
  show{.ref ‹s›,_,I3,rfl,{_,x,fT.1,rfl,λus hu=>by rw[F0 I hu hx];show ex,rfl},?_,λc hc=>?_}
  ·obtain⟨w3,v3,q3⟩:_:=b2;show{{_,c1},{w3,sb.extBut _ _ (Ne.symm xJ) v3,q3}}
  ·obtain⟨o,q⟩:∃o,s.heap.get? c=KE o:=by
    obtain⟨o4,u4,_⟩:_:=u2;simp only[aW,dG,or_false]at hc;rcases hc with q | q
    ·subst q;show{_,u1}
    ·subst q;show{_,u4}
   rw[bc (bJ (aU q))];show(hf c hc).1
 done:=by
  intro X hP hw hK hc k f' s σ H E I hf Z hg;subst hP hw hK;obtain⟨xs,hx,AI⟩:_:=hg;obtain⟨its,r1,p1,_⟩:_:=I.sqv hx;obtain⟨⟨old,u1⟩,u2⟩:_:=Z;have l1:=r1.length;show aga (I.ok.hd hc) u1 u2 p1 (by simp;omega) λh1 kk=>{rfl,I.turnedAll (t':=s.toks) hf λc o hc q=>?_};simp only[aW,dG,or_false,not_or]at hc;show kk c o hc.2 q
 self:=λ_ _ _ _ _ Z h=>let ⟨_,u⟩:=Z.en;wpAny_pyIter_enum u h
section
variable {X:Cx}
def iEnK (c:Bool)(K:aG)(d:TA):TI:=λe H R=>d e H λvs b=>∃a xs,vs=[.ref a]/\SqV c K b a xs/\R (Itek c K a) b
def Xi {c:Bool}{f:MD}{i:TA}{p b z:Pos}{A:List MD}{j:Nat}(C:Gl X "enumerate")(D:X.mg "enumerate"=LY)(E:PA X [f] i)(hs:aN [f] X.env=[(MA,eval f X.env)]:=by rfl)
  (l:aN [] X.env=[]:=by rfl):PI X (.Tuple A j z) (.Call (.Name "enumerate" p) [f] [] b) (iEnK c X.K i):=by
 intro m s n H R I h;show Call_ (kh I C D (by kernel_rfl:dW (cW "enumerate")=KE (.type "enumerate")) (eW (thn (E b m s n H _ I h) λus d ⟨vs,o,g,G,J⟩=>?_) (by rw[hs,l]) (by rw[l];rfl)));obtain⟨a,xs,e,L,q⟩:_:=J;subst e;obtain⟨u,rfl,N⟩:_:=k8 G;cases(show u=bY a from N);obtain⟨its,U,r,_⟩:_:=g.sqv L;have w:a < ‹d›:=r.lt;show aan r λO x Q sz T=>?_;have I2:Inv X m n o { d with heap:=O }:=g.kept (t':=d.toks) T;show wpAny_pyIter_enum x {_,_,_,_,o,rfl,I2,aar (e:=‹d›+1) (it:=‹d›) (a:=a) (Nat.succ_ne_self _) (bJ (qB w)) (bJ w),{{_,x},Q},λc y=>?_,q};show g.fpOk ?_ (g.hok.fresh ?_)
 all_goals
  simp only[aW,dG,or_false]at y;rcases y with q | q<;>subst q<;>omega
end
end L2
namespace VL
open PySem L2 PySem.Deep PySem.SeqAt
section
variable {X:Cx}
def prs (l m:List Tr):List Tr:=qR (λa b=>Tr.tup [a,b]) l m
def Ln {l m:List Tr}{i:Nat}(h:(prs l m)[i]?=KE d):∃a b,l[i]?=KE a/\m[i]?=KE b/\d=.tup [a,b]:=by
 unfold prs at h;rw[List.getElem?_zipWith]at h
 split at h
 ·rename_i a b c e
  cases h;show#v[a,b,c,e,rfl]
 ·cases h
def Gb (l m:List Tr):(prs l m).length=min l.length m.length:=by unfold prs;rw[List.length_zipWith]
def sq_zp {b:B}{F:Hp}{a n:MB}{xs ys:List V}{l m:List Tr}{c d:Bool}(h:∀e,Same F e->SqV c b.K e a xs)(r:Rps b F xs l)(h':∀e,Same F e->SqV d b.K e n ys)(o:Rps b F ys m):Sq b F (Ga c d b.K a n) (prs l m):=λQ e f q i=>by
 have g:=h e (Same.tr f q);have j:=h' e (Same.tr f q);show{λhi=>{xs,ys,g,j,by rw[r.length,o.length];rw[Gb]at hi;lia},λd hd=>?_};obtain⟨C,D,E,G,rfl⟩:=Ln hd;obtain⟨x,s,H⟩:=r.get E;obtain⟨y,u,I⟩:=o.get G;show{#v[xs,ys,x,y,g,j,s,u],?_};intro z T J;obtain⟨p,U,Y,L,rfl,N,O,rfl⟩:=J;have w:=N xs g;rw[s]at w;cases w;have A:=O ys j;rw[u]at A;cases A;show .inr {p,[x,y],[C,D],L,rfl,rfl,.cons (H.mono f) (.cons (I.mono f) .nil),rfl}
def Xj {xs ys:List V}{l m:List Tr}{c d:Bool}{R:It->Hp->Prop}(hs:Same F H)(h:∀f,Same F f->SqV c b.K f a xs)(r:Rps b F xs l)(h':∀f,Same F f->SqV d b.K f g ys)(j:Rps b F ys m)(q:Sq b F (Ga c d b.K a g) (prs l m)->R (Ga c d b.K a g) H) :
  ∃e i us vs,[V.ref a,V.ref g]=[.ref e,.ref i]/\SqV c b.K H e us/\SqV d b.K H i vs/\R (Ga c d b.K e i) H:={a,g,xs,ys,rfl,h H hs,h' H hs,q (sq_zp h r h' j)}
def giZ (ga:GA):GI:=λm Q=>ga m λa b=>match a with
 | [.val (.tup l),.val (.tup k)]=>Q (prs l k) b
 |_=>False
def T3 (ga:GA):GI:=λm Q=>ga m λa b=>match a with
 | [.val (.lst l),.val (.lst k)]=>Q (prs l k) b
 |_=>False
def Lo (n:Gl X "zip")(o:X.mg "zip"=LY)(s:VA X [g,f] ga)(hs:aN [g,f] X.env=[(MA,eval g X.env),(MA,eval f X.env)]:=by rfl)(u:aN [f] X.env=[(MA,eval f X.env)]:=by rfl):VI X (.Tuple Q j T) (.Call (.Name "zip" p) [g,f] [] w) (giZ ga):=⟨PI.sub (ade (c:=LZ) (d:=LZ) n o s.out hs u) λU H R ⟨W,m,Y,z,A,h,q⟩=>⟨W,m,_,z,A,h,λvM C D xs i l1 l E=>by
    split at i
    · obtain⟨x,y,rfl,r,G⟩:=xu E;obtain⟨a,xs,rfl,I,J⟩:=Rp.tupI r;obtain⟨a',ys,rfl,L,N⟩:=Rp.tupI G;show Xj (b:=X.B) (c:=LZ) (d:=LZ) l.ok.sub (λH e=>I.same e) J (λH e=>L.same e) N λO=>q _ C D _ i l1 l O
    · show i.elim⟩⟩
def Ge (n:Gl X "zip")(o:X.mg "zip"=LY)(s:VA X [g,f] ga)(hs:aN [g,f] X.env=[(MA,eval g X.env),(MA,eval f X.env)]:=by rfl)(u:aN [f] X.env=[(MA,eval f X.env)]:=by rfl):VI X (.Tuple Q j T) (.Call (.Name "zip" p) [g,f] [] w) (T3 ga):=⟨PI.sub (ade (c:=MA) (d:=MA) n o s.out hs u) λU H R ⟨W,m,Y,z,A,h,q⟩=>⟨W,m,_,z,A,h,λvM C D xs i l1 l E=>by
    split at i
    · obtain⟨x,y,rfl,r,G⟩:=xu E;obtain⟨a,xs,rfl,I,J⟩:=Rp.lstI r;obtain⟨a',ys,rfl,L,N⟩:=Rp.lstI G;show Xj (b:=X.B) (c:=MA) (d:=MA) l.ok.sub (λH e=>SqL.of (e _ _ I)) J (λH e=>SqL.of (e _ _ L)) N λO=>q _ C D _ i l1 l O
    · show i.elim⟩⟩
def jy (l:List Tr):List Tr:=l.mapIdx λi d=>.tup [.v (.int i),d]
def aas {l:List Tr}{i:Nat}(h:(jy l)[i]?=KE d):∃a,l[i]?=KE a/\d=.tup [.v (.int i),a]:=by
 unfold jy at h;rw[oO]at h;cases e:l[i]? with
 |none=>rw[e]at h;cases h
 |some a=>rw[e]at h;cases h;show#v[a,rfl,rfl]
def Xk (l:List Tr):(jy l).length=l.length:=by unfold jy;rw[List.length_mapIdx]
def Xl {b:B}{F:Hp}{a:MB}{xs:List V}{l:List Tr}{c:Bool}(h:∀e,Same F e->SqV c b.K e a xs)(r:Rps b F xs l):Sq b F (Itek c b.K a) (jy l):=λA e g n i=>by
 have f:=h e (Same.tr g n);show{λhi=>{xs,f,by rw[r.length];rw[Xk]at hi;show hi},λd hd=>?_};obtain⟨o,q,rfl⟩:=aas hd;obtain⟨x,j,s⟩:=r.get q;show{#v[xs,x,f,j],?_};intro z C u;obtain⟨p,D,w,rfl,y,rfl⟩:=u;have m:=y xs f;rw[j]at m;cases m;show .inr {p,_,[_,o],w,rfl,rfl,.cons (.v rfl) (.cons (s.mono g) .nil),rfl}
def giE (ga:GA):GI:=λm Q=>ga m λa b=>match a with
 | [.val (.tup l)]=>Q (jy l) b
 |_=>False
def T4 (ga:GA):GI:=λm Q=>ga m λa b=>match a with
 | [.val (.lst l)]=>Q (jy l) b
 |_=>False
def agb (l:Gl X "enumerate")(n:X.mg "enumerate"=LY)(o:VA X [d] ga)(hs:aN [d] X.env=[(MA,eval d X.env)]:=by rfl):VI X (.Tuple D j E) (.Call (.Name "enumerate" p) [d] [] s) (giE ga):=⟨PI.sub (Xi (c:=LZ) l n o.out hs) λG H R ⟨W,m,I,u,w,h,q⟩=>⟨W,m,_,u,w,h,λJ y z xs f l1 g A=>by
    split at f
    · obtain⟨x,rfl,r⟩:=dq A;obtain⟨a,xs,rfl,i,C⟩:=Rp.tupI r;show{a,xs,rfl,i.same g.ok.sub,q _ y z _ f l1 g (Xl (b:=X.B) (c:=LZ) (λH e=>i.same e) C)}
    · show f.elim⟩⟩
def Dk (l:Gl X "enumerate")(n:X.mg "enumerate"=LY)(o:VA X [d] ga)(hs:aN [d] X.env=[(MA,eval d X.env)]:=by rfl):VI X (.Tuple D j E) (.Call (.Name "enumerate" p) [d] [] s) (T4 ga):=⟨PI.sub (Xi (c:=MA) l n o.out hs) λG H R ⟨W,m,I,u,w,h,q⟩=>⟨W,m,_,u,w,h,λJ y z xs f l1 g A=>by
    split at f
    · obtain⟨x,rfl,r⟩:=dq A;obtain⟨a,xs,rfl,i,C⟩:=Rp.lstI r;show{a,xs,rfl,SqL.of (g.ok.sub _ _ i),q _ y z _ f l1 g (Xl (b:=X.B) (c:=MA) (λH e=>SqL.of (e _ _ i)) C)}
    · show f.elim⟩⟩
def ajz (h:F a=KE (.lst xs))(r:Rps b F xs l):Sq b F (Itv b.K a xs.length) l.reverse:=λs j e m i=>by
 have f:SqL b.K j a xs:=SqL.of (m _ _ (e _ _ h));have g:=r.length;show{λhi=>by rw[fJ,<-g]at hi;show hi,λd hd=>?_};have n:i < l.length:=(by have:=cb hd;rw[fJ]at this;show this);rw[List.getElem?_reverse n]at hd;obtain⟨x,c,o⟩:=r.get hd;rw[<-g]at c;show{{xs,x,f,rfl,(),c},?_};intro y u p;obtain⟨rfl,q⟩:=p;have:=q xs f;rw[c]at this;cases this;show .inl {rfl,o.mono e}
def giV (ga:GA):GI:=λm Q=>ga m λa b=>match a with
 | [.val (.lst l)]=>Q l.reverse b
 |_=>False
def aka (f:Gl X "reversed")(g:X.mg "reversed"=LY)(i:VA X [b] ga)(hs:aN [b] X.env=[(MA,eval b X.env)]:=by rfl):VI X y (.Call (.Name "reversed" p) [b] [] j) (giV ga):=⟨PI.sub (ajc f g i.out hs) λz H R ⟨W,m,A,l,n,h,q⟩=>⟨W,m,_,l,n,h,λC o s xs c l1 d u=>by
    split at c
    · obtain⟨x,rfl,r⟩:=dq u;obtain⟨a,xs,rfl,e,w⟩:=Rp.lstI r;show{a,xs,rfl,SqL.of (d.ok.sub _ _ e),q _ o s _ c l1 d (ajz e w)}
    · show c.elim⟩⟩
def Er (n:Nat):List Tr:=(bE n).map λi:Nat=>Tr.v (.int ((n:Int) - 1 - (i:Int)))
def agc (n:Nat):Sq b F (Zw ((n:Int) - 1) n) (Er n):=λc e f g i=>by
 show{λhi=>by unfold Er at hi;rw[aC,cA]at hi;show hi,λd hd=>?_};unfold Er at hd;rw[aK]at hd;by_cases hi:i < n
 ·rw[cG hi]at hd;cases hd;show{hi,?_};intro y h a;obtain⟨rfl,rfl⟩:=a;show .inl {rfl,.v rfl}
 ·rw[bR (by simpa using hi)]at hd;cases hd
def giD (ga:GA):GI:=λm Q=>ga m λa b=>match a with
 | [.val (.v (.int i)),.val (.v (.int j)),.val (.v (.int k))]=>∃n:Nat,i=(n:Int) - 1/\j=-1/\k=-1/\n < 1000000/\Q (Er n) b
 |_=>False
def agd (e:Gl X "range")(f:X.mg "range"=LY)(g:VA X [a,b,c] ga)(hs:aN [a,b,c] X.env=[(MA,eval a X.env),(MA,eval b X.env),(MA,eval c X.env)]:=by rfl)(i:aN [b,c] X.env=[(MA,eval b X.env),(MA,eval c X.env)]:=by rfl):VI X E (.Call (.Name "range" p) [a,b,c] [] j) (giD ga):=⟨PI.sub (Z9 e f g.out hs i) λG H R ⟨W,m,I,l,o,h,q⟩=>⟨W,m,_,l,o,h,λJ s u xs d l1 w x=>by
    split at d
    · obtain⟨n,rfl,rfl,rfl,A,d⟩:=d;cases x with
      |cons r t=>
        obtain⟨y,z,rfl,C,D⟩:=xu t;cases(Rp.vI r).1;cases(Rp.vI C).1;cases(Rp.vI D).1;show{n,rfl,A,q _ s u _ d l1 w (agc n)}
    · show d.elim⟩⟩
def fgt (L:List Nat)(m:M):M:={L.foldl (λl i=>l.set i LY) m.loc,m.cel}
theorem Rel.fgt:∀{L m},Rel b W m e->Rel b W (fgt L m) e
 | [],m,d=>d
 |i::L,m,d=>by
  change Rel b W (VL.fgt L {m.loc.set i LY,m.cel}) e;show Rel.fgt {d.ok,λk w hk=>?_,by change(m.loc.set i LY).length=_;rw[eF];show d.len};by_cases c:k=i
  ·subst c;have a:(m.loc.set k LY)[k]?=KE (KE w):=hk;by_cases f:k < m.loc.length
   ·rw[cY f]at a;cases a
   ·rw[bR (by rw[eF];lia)]at a;cases a
  ·have a:(m.loc.set i LY)[k]?=KE (KE w):=hk;rw[cM (λz=>c z.symm)]at a;show d.loc k w a
def gy (L:List Nat)(t:Tg)(g:GS)(E:v9):List Tr->M->Prop
 | [],m=>E.nx m
 |d::ds,m=>gTg t d m λb=>g { E with nx:=λa=>gy L t g E ds (fgt L a),ct:=λa=>gy L t g E ds (fgt L a),bk:=E.nx } b
def fk (L:List Nat)(f:GI)(t:Tg)(g:GS):GS:=λE m=>f m λds a=>gy L t g E ds a
def yo {b:B}{W W2:Wd}{m:M}{f:St}{x:V}{d:Tr}{e:Hp}(a:Rel b W m f)(h:(e=W.H/\Rp b W.F x d)\/∃p xs l,W.H p=LY/\e=upd W.H p (.tup xs)/\x=.ref p/\Rps b W.F xs l/\d=.tup l) :
  ∃c,c.H=e/\Lx W c/\Rel b c m f/\Rp b c.F x d:=by
 rcases h with⟨rfl,r⟩ | ⟨p,xs,l,g,rfl,rfl,r,rfl⟩
 ·show{W,rfl,Lx.refl W,a,r}
 ·obtain⟨l2,i,j⟩:=Fv (d:=.tup l) (o:=.tup xs) a.ok g (.tup (SqT.of bp) (r.mono (a.ok.sameU g)));show{_,rfl,l2,a.lift l2 (λ_=>rfl) i,j}
def c7 (Y:sM (aX X.prog X.w) X.A X.env X.xe)(hc:X.calm=LZ)(hi:VI X Q iter f)(hg:VG X Q t)(hb:VSs X body g)
  (hs:∀x,iJ iter X.env x=pure x:=by intro _;rfl):VS X (.For Q iter body [] pos) (fk L f t g):=⟨λO=>PS.sub (ahz Y hc hi.out hg.out (hb.out O) hs) λD σ H ⟨W,m,E,hW,l,uS,h,n,r,_,_⟩=>by
show{W,m,_,hW,uS,h,λds m1 p J h1 l1 uR sq=>?_};show{λi k j H'=>i+k=ds.length/\∃d u,d.H=H'/\Le O d/\Same p.F d.F/\Rel X.B d u j/\gy L t g E (ds.drop i) u,{ds.length,(),p,m1,rfl,l.trans l1.toLe,λ_ _ z=>z,uR,h1},?_};intro i k j H' uW;obtain⟨ek,d,u,rfl,T,s',C,h'⟩:=uW;obtain⟨st,go⟩:=sq d.F d.H s' C.ok.sub i;by_cases c:i < ds.length
· have hd:ds[i]?=KE ds[i]:=aB c;rw[fG c]at h';obtain⟨g1,g2⟩:=go _ hd;show .inr ⟨g1,λq y=>∃a o,a.H=y/\Le O a/\Same p.F a.F/\Rel X.B a o q/\gy L t g E (ds.drop (i+1)) o,λq y uU=>by obtain⟨a,o,z1,z2,z3,z4,z5⟩:=uU;show{k - 1,(),(),a,o,z1,z2,z3,z4,z5},λx y hy=>?_⟩;obtain⟨a,e3,l3,wH,r3⟩:=yo (W2:=d) C (g2 x y hy);subst e3;have l4:Le O a:=T.trans l3.toLe;have U:Same p.F a.F:=Same.tr s' l3.same;have nx:∀s e b,gy L t g E (ds.drop (i+1)) (VL.fgt L s)->Le O e->Same a.F e.F->Rel X.B e s b->∃a o,a.H=e.H/\Le O a/\Same p.F a.F/\Rel X.B a o b/\gy L t g E (ds.drop (i+1)) o:=
    λs e b G l5 I N=>{e,_,rfl,l5,Same.tr U I,N.fgt,G}
  show Ar wH r3 h' λm4 σ4 h4 AW FH _=>{a,m4,_,rfl,l4,AW,h4,nx,r,λs e b G l5 I N=>n s e b G l5 (Same.tr l1.same (Same.tr U I)) N,nx}
· rw[nB ()]at h';show .inl {st (),n u d j h' T (Same.tr l1.same s') C}⟩
end
end VL
namespace L2
open PySem PySem.Spec PyProof.Rows
def Rr (hN:X.N.Nodup)(EA:X.N[i0]?=KE Y)(FI:X.env.scope.names.lookup Y=KE .local)(S:og X ns ys fr E cl)(hc:X.calm=LZ)
  (hi:PI X tg iter wi) (hg:∀C s H f,PG (cxC X (ns++ys) E cl C s H f) tg g) (ht:∀C s H f,PTs (cxC X (ns++ys) E cl C s H f) AD tt) (he:∀C s H f,PE (cxC X (ns++ys) E cl C s H f) zT te)
  (hs:∀x,iJ iter X.env x=pure x:=by intro _;rfl) (GN:kA (.ListComp zT [{tg,iter,AD,0}] E pos) (KE (.Name Y py)) BK.line X.env=pure LZ:=by rfl) :
  PS X (.Assign [.Name Y py] (.ListComp zT [{tg,iter,AD,0}] E pos) BK) (λD σ H=>J7 ns.length fr wi g tt te σ H λx H1=>D.nx (σ.set i0 (KE x)) H1):=by
 intro f' s σ H D I h;rw[exec_Assign_Name_used _ _ _ _ GN];show aA (pO (aA ?_));change aL _ _ (do let _ <-comprehension (.ListComp zT [⟨tg,iter,AD,0⟩] E pos) E X.env _ (newList []) MA (eval iter X.env) (KE (lO (.Name Y py) X.env))) _ _ s
 show aA (iR (wpAny_comprehension_free (use:=KE (lO (.Name Y py) X.env)) (Q:=λ_ s'=>SP X f' D .next s') rfl hs S.clos S.kind S.locs (thn (hi f' s σ H _ I h) λv s1 h1=>thn h1 λHC a h2=>?_)) (λ_ s' hq=>wpAny_pure (wpAny_pure hq)) λ_ _ e=>e)
 obtain⟨it,f,tn,J,H2,e,I2,T,AJ,f2,rest⟩:=h2;subst e;obtain⟨W,⟨m0,w0⟩,zF⟩:=rest ‹a› (I2.hok.fresh (aJ _));show cU (wpAny_newFunctionEnv S.nocell (by intro y hy;simp at hy) (λh3 DQ CU=>?_) S.kind);dsimp only at DQ CU ⊢;generalize hG:a.heap.push { cls:=.type "list",dict:=LY,data:=.seq ([]:List aE).toArray }=G at DQ CU ⊢;have zG:G.objs.size=‹a›+1:=(by rw[<-hG,eQ]);have O:‹a› < G.objs.size:=(by rw[zG];show fF _);have old:∀b o,a.heap.get? b=KE o->h3.get? b=KE o:=λb o e=>
  CU.extBut b o (bJ (gH (aU e) O)) (aF _ (hG ▸ aF _ e))
 have hD:=CU.extBut _ _ (bJ O) (aF _ (hG ▸ aT _ rfl));have below:∀b∈f,b < ‹a›:=λb l=>by
  obtain⟨o,eo,_⟩:=T.obj _ _ AJ b l;show aU eo
 have I3:=Hr (ns:=ns) (ys:=ys) (fr:=fr) (t':=a.toks+([]:List (Str×aE)).length) I2 S f2 below O old hD DQ;have zH:∀{H'},(∀b∈f,H' b=LY)->∀b∈f,ki (cxC X (ns++ys) E cl G.objs.size a H2 f) [] H' b:=λhn b l=>
  {hn b l,bJ (gH (below b l) O),I3.ok.exfs b l,.inl l,λx c e=>(I3.ok.exf b l).2 x c e,λp hp=>nomatch hp}
 have DO:tn 0 h3:=T.keep _ _ _ AJ λb _ o e=>old b o e;have FB:∀b∈f,upd H2 ‹a› (.lst []) b=LY:=λb l=>by
  rw[bc (bJ (below b l))];show(f2 b l).1
 have BU:∀s3:aH,s3={ a with heap:=h3,toks:=a.toks+([]:List (Str×aE)).length }->
   lH (aX X.prog X.w) X.A (.compLoop (.ListComp zT [{tg,iter,AD,0}] E pos) 0 (.ref it) (.ref ‹a›) (compEnvC E cl G.objs.size X.env))
    (compPost (aX X.prog X.w) X.A X.xe (KE (lO (.Name Y py) X.env)) (λ_ s'=>SP X f' D .next s') (.ref ‹a›) G.objs.size) s3:=by
  intro s3 uW;subst uW;show V1 (λn s'=>∃i zs H',Inv (cxC X (ns++ys) E cl G.objs.size a H2 f) [] (aY ns.length LY++pick σ fr) H' s'/\tn i s'.heap/\(∀b∈f,H' b=LY)/\W i n zs H') ?_ m0 {0,[],_,I3,DO,FB,w0};intro n s5 uW;obtain⟨i,zs,H5,I5,CP,EC,w5⟩:=uW;obtain⟨d5,IC⟩:=zF i n zs H5 w5;rcases IC with⟨stop,q⟩ | ⟨go,hz,N,hN,step⟩
  ·show thn (T.done (cxC X (ns++ys) E cl G.objs.size a H2 f) rfl rfl rfl hc i [] s5 _ H5 _ I5 (zH EC) CP stop) λr s6 L=>?_;obtain⟨hr,I6⟩:=L;subst hr;obtain⟨m6,ID,_⟩:=I6.loc;have J6:Inv X f' σ H5 s6:=Ku I2 f2 (gR O) I6 (pZ _ _);have lL:X.env.locals < ‹a›:=I2.lt;have cL:∀x c,X.env.cells.lookup x=KE c->c < ‹a›:=λx c e=>by
    obtain⟨_,o,ho,_⟩:=I2.cell x c e;show aU ho
   change aL _ X.A (lO (.Name Y py) X.env (.ref ‹a›)) _ _ s6;show wpAny_assign_Name (Hh (v:=.ref ‹a›) J6 hN EA (.inl FI) rfl (λs8 I8 L=>?_) (.inr FI));obtain⟨b8,sb8,hb8⟩:=L;have nb:G.objs.size≠b8:=λe=>by
    rcases hb8 with z | z
    ·show MJ (e.trans z) (eZ (gH lL O))
    ·show MJ e (eZ (gH (cL _ _ z) O))
   show{m6,ID.sameBut sb8 nb,λh9 hs9=>{_,H5,?_,q}};show I8.turned (it:=G.objs.size) (t':=s8.toks) (λb o l e=>(hs9.2 b l).trans e) I6.free (eZ (gH lL O)) (.inr (bK I2.sz (gR O))) (λx c e=>bJ (gH (cL x c e) O)) λp hp=>?_;obtain⟨e,_⟩:=I2.pin p hp;show bJ (gH (aU e) O)
  ·show thn (T.item (cxC X (ns++ys) E cl G.objs.size a H2 f) rfl rfl rfl hc i [] s5 _ H5 _ I5 (zH EC) CP go) λr s6 L=>?_;obtain⟨u,hr,h6⟩:=L;subst hr;show thn h6 λ_ s7 L=>?_;obtain⟨x,H7,I7,r7,y7,EG,IE⟩:=L;have IF:=I7.pinned (zH IE) (T.obj _ _ EG);show thn (hg _ _ _ _ _ s7 _ H7 x u _ IF r7 (step x H7 y7)) λ_ s8 L=>?_;obtain⟨U,H8,I8,⟨ts,eσ,EH⟩,q8⟩:=L;have again:∀{H9 s9 EI m'},m' < n->Inv (cxC X (ns++ys) E cl G.objs.size a H2 f) ([]++xm f s7.heap) U H9 s9->W (i+1) m' EI H9->
     ∃m,m < n/\∃i zs H',Inv (cxC X (ns++ys) E cl G.objs.size a H2 f) [] (aY ns.length LY++pick σ fr) H' s9/\tn i s9.heap/\(∀b∈f,H' b=LY)/\W i m zs H':=λ{H9 s9 EI m'} hm I9 w9=>by
    show{m',hm,i+1,EI,H9,I9.unpinned.weak ?_ ?_,T.keep _ _ _ EG λb l o e=>(I9.pin (b,o) (bW _ (bW _ (kz l e)))).1,λb l=>?_,w9}
    ·rw[eσ,aI,aI,dC,EH]
    ·intro j v e;rw[eσ];by_cases hj:j < ns.length
     ·rw[bS (by simpa using hj),dS,MF hj]at e;cases e
     ·have BO:ns.length<=j:=nJ hj;rw[cK (by simpa using BO),dC]at e;rw[cK (by rw[EH];show BO),EH];show e
    ·obtain⟨o,e,d⟩:=T.obj _ _ EG b l;show(I9.pin (b,o) (bW _ (bW _ (kz l e)))).2.1
   show thn (ht _ _ _ _ _ s8 U H8 _ I8 q8) λok s9 L=>?_;obtain⟨H9,I9,q9⟩:=L;cases ok with
   |false=>
    rw[MG aO]at q9 ⊢;obtain⟨m',hm,w9⟩:=hN _ _ q9;show again hm I9 w9
   |true=>
    rw[MF rfl]at q9 ⊢;show thn (he _ _ _ _ _ s9 U H9 _ I9 q9) λyv HJ L=>?_;obtain⟨y,IG,IH,FT,II,IJ⟩:=L;show thn (zy _ HJ U IG (.ref ‹a›) [y] (.ref ‹a›) [yv] (λ_ FU=>N (zs++[y]) FU) IH rfl (.cons FT .nil) {_,zs,y,rfl,rfl,II,hz,IJ}) λ_ s11 L=>?_;obtain⟨_,FU,IK,_,IL⟩:=L;obtain⟨m',hm,IM⟩:=hN _ _ IL;show again hm IK IM
 show codeAny_compStart_list (BU _ rfl) (T.self X.A 0 _ _ _ DO (BU _ rfl))
end L2
namespace VL
open PySem L2 PySem.Deep PySem.SeqAt
section
variable {X:Cx}
def xv (L:List Nat)(c:GT)(g:GS):GS:=λE m=>∃I:Nat->M->Prop,(∃k,I k m)/\∀k m,I k m->c m λb a=>if b=LZ then ∃N:M->Prop,(∀d,N d->∃e,e < k/\I e (fgt L d))/\g { E with nx:=N,ct:=N,bk:=E.nx } a else E.nx a
def u9 (G:sM (aX X.prog X.w) X.A X.env X.xe)(J:VT X c f)(Q:VSs X body g):VS X (.While c body [] T) (xv L f g):=⟨λO=>PS.sub (Y1 G J.out (Q.out O)) λD σ H ⟨W,m,E,U,l,Y,h,n,r,_,_⟩=>by
  subst U;obtain⟨I,⟨k0,i0⟩,zF⟩:=h;show{λk e H'=>∃i j,i.H=H'/\Le O i/\Same W.F i.F/\Rel X.B i j e/\I k j,#v[k0,W,m,rfl,l,Same.id,Y,i0],?_};intro k e H' uW;obtain⟨i,j,rfl,l',s',yQ,i'⟩:=uW;show{i,j,_,rfl,yQ,zF k j i',λc y s u l1 z=>?_};have l2:Le O s:=l'.trans l1.toLe;have x:Same W.F s.F:=Same.tr s' l1.same;cases c with
  |true=>
    obtain⟨N,hN,u⟩:=u;show{λa C=>∃b d,b.H=C/\Le O b/\Same W.F b.F/\Rel X.B b d a/\N d,λa C uU=>?_,s,y,_,rfl,l2,z,u,λd b a o l3 p q=>{b,d,rfl,l3,Same.tr x p,q,o},r,λd b a o l3 p q=>n d b a o l3 (Same.tr x p) q,λd b a o l3 p q=>{b,d,rfl,l3,Same.tr x p,q,o}};obtain⟨b,d,z1,z2,z3,z4,z5⟩:=uU;obtain⟨k',hk,ik⟩:=hN d z5;show{k',hk,b,_,z1,z2,z3,z4.fgt,ik}
  |false=>show n y s e u l2 x z⟩
def mv (loc:List (Option Wt))(fr:List Nat):List (Option Wt):=fr.map λi=>(loc[i]?).getD LY
def iy (cel:List (Option Tr)):List (Option Wt)->Bool
 | []=>LZ
 |some (.c j)::r=>(match cel[j]? with | some (KE _)=>LZ | _=>MA) && iy cel r
 |_::r=>iy cel r
theorem yp:∀{loc:List (Option Wt)},iy cel loc=LZ->∀(i j:Nat),loc[i]?=KE (KE (.c j))->∃d,cel[j]?=KE (KE d)
 | [],_,i,j,e=>by simp at e
 |none::r,h,0,j,e=>by simp at e
 |some (.v _)::r,h,0,j,e=>by simp at e
 |some (.c k)::r,h,0,j,e=>by
  simp at e;subst e;rw[iy,cO]at h;have a:=h.1;rcases q:cel[k]? with _ | _ | d
  ·rw[q]at a;cases a
  ·rw[q]at a;cases a
  ·show#v[d,rfl]
 |none::r,h,i+1,j,e=>yp (loc:=r) h i j (by simpa using e)
 |some (.v _)::r,h,i+1,j,e=>yp (loc:=r) h i j (by simpa using e)
 |some (.c k)::r,h,i+1,j,e=>by
  rw[iy,cO]at h;show yp (loc:=r) h.2 i j (by simpa using e)
def dg (k:Nat)(fr:List Nat)(t:Tg)(c:GT)(f:GE)(loc:List (Option Wt))(Q:List Tr->M->Prop):List Tr->List Tr->List (Option Tr)->Prop
 | [],a,cel=>Q a #v[loc,cel]
 |d::ds,a,cel=>a.length < 1000000/\gTg t d {aY k LY++mv loc fr,cel} λh=>c h λb e=>if b=LZ then f e λi j=>fz j i λd' g=>iy g.cel loc=LZ/\dg k fr t c f loc Q ds (a++[d']) g.cel
   else iy e.cel loc=LZ/\dg k fr t c f loc Q ds a e.cel
def cv (k:Nat)(fr:List Nat)(i:GI)(t:Tg)(c:GT)(f:GE):GE:=λm Q=>i m λds a=>dg k fr t c f a.loc (λb d=>Q (.new (.lst b)) d) ds [] a.cel
def Rel.inner (f:Rel b W m g)(k:Nat)(fr:List Nat):Rel b W {aY k LY++mv m.loc fr,m.cel} (aY k LY++pick g fr):=⟨f.ok,λi w hw=>by
  have a:(aY k LY++mv m.loc fr)[i]?=KE (KE w):=hw;by_cases c:i < k
  · rw[bS (by simpa using c),dS,MF c]at a;cases a
  · rw[cK (by simpa using c)]at a;rw[cK (by simpa using c)];rw[dC]at a ⊢;unfold mv at a;unfold pick;rw[aK]at a ⊢;rcases q:fr[i - k]? with _ | j
    · rw[q]at a;cases a
    · rw[q]at a;have d:(m.loc[j]?).getD LY=KE w:=(by simpa using a);rcases e:m.loc[j]? with _ | u
      · rw[e]at d;cases d
      · rw[e]at d;have:u=KE w:=d;subst this;obtain⟨y,h,l⟩:=f.loc j w e;show{y,by change KE ((g[j]?).getD LY)=_;rw[h];rfl,l},by
  change(aY k LY++mv m.loc fr).length=_;unfold mv pick;simp⟩
def Rel.outer {m e:M}(f:Rel b W m q)(l:Lx W g)(n:Rel b g e r)(h:iy e.cel m.loc=LZ):Rel b g #v[m.loc,e.cel] q:=⟨n.ok,λi w hw=>by
  obtain⟨y,s,o⟩:=f.loc i w hw;show{y,s,?_};cases w with
  |v d=>show Rp.mono l.same o
  |c j=>
    obtain⟨a,rfl,u⟩:=o;obtain⟨d,hd⟩:=yp h i j hw;obtain⟨x,p,_⟩:=n.ok.cell j d hd;have:=l.cx j x p;rw[u]at this;cases this;show#v[a,rfl,p],f.len⟩
def Bu (l:Lx O W)(ok:Wok b W cel)(h0:O.H D=LY)(g:W.F D=LY)(h:∀j,W.C j≠KE D):Lx O {W.F,upd W.H D o,W.C}/\Wok b {W.F,upd W.H D o,W.C} cel:=by
 have ne:∀{x u},W.F x=KE u->x≠D:=λe z=>(by subst z;rw[g]at e;cases e);show{{{l.same,λx u e n=>?_,l.nw,l.cl,λx z=>?_},l.cx},{λx u z=>?_,λj d i=>?_,ok.live,ok.dist}}
 ·change upd W.H D o x=KE u;rw[bc (λz=>by rw[z,h0]at e;cases e)];show l.fr x u e n
 ·by_cases c:x=D
  ·rw[c];show h0
  ·rw[show({W.F,upd W.H D o,W.C}:Wd).H x=upd W.H D o x from rfl,bc c]at z;show l.dm x z
 ·change upd W.H D o x=KE u;rw[bc (ne z)];show ok.sub x u z
 ·obtain⟨a,f,m,p⟩:=ok.cell j d i;show{a,f,m,p.mono (λ_ _ z=>z) λu z=>?_};change upd W.H D o a=KE u;rw[bc (λz=>h j (by rw[f,z]))];show z
def Gf (e:a.length=(aY k LY++pick b fr).length)(c:Di k t)(h:∀i,¬adb t i->a[i]?=(aY k LY++pick b fr)[i]?):∃d,a=d++pick b fr/\d.length=k:=by
 have hk:k<=a.length:=(by rw[e,aI,dC];lia);show{a.take k,?_,by rw[bN];lia};have:a.drop k=pick b fr:=by
  show eX λi=>?_;rw[pN,h (k+i) ?_,cK ∅]
  ·congr 1;simp
  ·intro z;cases t with
   |one j=>show MJ (show k+i < k by rw[show k+i=j from z];show c) ()
   |tup is=>have:=c _ z;lia
   |lst is=>have:=c _ z;lia
 rw[<-this,jB]
def qg (l:Lx W a)(b:W.H D=KE (.lst ys))(d:W.F D=LY)(c:∀j,W.C j≠KE D):a.H D=KE (.lst ys)/\a.F D=LY/\∀j,a.C j≠KE D:=by
 show{l.fr D _ b c,?_,λj e=>c j (l.cx j D e)};cases q:a.F D with
 |none=>rfl
 |some u=>
  rcases l.nw D d (by rw[q];show λz=>by cases z)with z | ⟨j,z⟩ | ⟨o,z,f⟩
  ·rw[b]at z;cases z
  ·show MJ z (c j)
  ·rw[b]at z;cases z;show f.elim
def Ib (ht:Di k t)(h:lf b (cv k fr i t c f) s H Q):J7 k fr (lfI b i) (gOf b.K t) (lfT b c) (lf b f) s H Q:=by
 obtain⟨W,m,R,hW,uS,h,q⟩:=h;show{W,m,_,hW,uS,h,λds e p J h1 l1 uR sq D hD=>?_};have h0:W.H D=LY:=l1.dm D hD;obtain⟨lD,JJ,aD,eD,_,fD,cD,_⟩:=qe (d:=.lst []) (o:=.lst []) uR.ok hD {[],bp,.nil};cases eD;have JK:∀i n ys g,(i+n=ds.length/\∃W2 a cel,W2.H=g/\Lx p W2/\Rel b W2 ⟨e.loc,cel⟩ s/\W2.H D=KE (.lst ys)/\W2.F D=LY/\(∀j,W2.C j≠KE D)/\Rps b W2.F ys a/\dg k fr t c f e.loc (λa u=>R (.new (.lst a)) u) (ds.drop i) a cel)->
   g D=KE (.lst ys)/\((J.stop i g/\Q (.ref D) g)\/(J.go i g/\ys.length < sizeLine/\∃N:List V->Hp->Prop,(∀l H',N l H'->∃m',m' < n/\(i+1+m'=ds.length/\∃W2 a cel,W2.H=H'/\Lx p W2/\Rel b W2 #v[e.loc,cel] s/\W2.H D=KE (.lst l)/\W2.F D=LY/\(∀j,W2.C j≠KE D)/\Rps b W2.F l a/\dg k fr t c f e.loc (λa u=>R (.new (.lst a)) u) (ds.drop (i+1)) a cel))/\∀x E,J.yld i g x E->Tc k fr (gOf b.K t) (lfT b c) (lf b f) s D ys N x E)):=by
  intro i n ys g uW;obtain⟨en,W2,a,cel,rfl,l2,w,G,d2,d3,I,r⟩:=uW;show{G,?_};obtain⟨st,go⟩:=sq W2.F W2.H l2.same w.ok.sub i;by_cases ci:i < ds.length
  ·have hd:ds[i]?=KE ds[i]:=aB ci;rw[fG ci]at r;obtain⟨g1,g2⟩:=go _ hd;obtain⟨hz,r⟩:=r;show .inr {g1,by rw[I.length];show bQ hz (by decide),λl H'=>∃W2 a cel,W2.H=H'/\Lx p W2/\Rel b W2 #v[e.loc,cel] s/\W2.H D=KE (.lst l)/\W2.F D=LY/\(∀j,W2.C j≠KE D)/\Rps b W2.F l a/\dg k fr t c f e.loc (λa u=>R (.new (.lst a)) u) (ds.drop (i+1)) a cel,λl H' z=>{n - 1,(),(),z},λx E hy=>?_};obtain⟨W3,e3,l3,wH,r3⟩:=yo (W2:=W2) w (g2 x E hy);subst e3;show Ar (wH.inner k fr) r3 r λm4 σ4 h4 AW FH GQ=>{Gf FH ht GQ,W3,m4,_,rfl,AW,h4,λcc m5 W5 L l5 zP=>?_};have A:Lx W2 W5:=l3.trans l5;cases cc with
   |true=>
    show{W5,m5,_,rfl,zP,L,λev m6 W6 y h6 l6 BL r6=>?_};obtain⟨d',m7,O,⟨lv,h7⟩,l7,e7,CD,r7⟩:=mr l6 BL r6 h6;have T:Lx W2 O:=A.trans l7;obtain⟨k1,U,Y⟩:=qg T G d2 d3;have ro:=w.outer T CD lv;obtain⟨l8,EV⟩:=Bu (o:=.lst (ys++[y])) (l2.trans T) CD.ok hD U Y;rw[<-e7];show{k1,{O.F,upd O.H D (.lst (ys++[y])),O.C},a++[d'],m7.cel,rfl,l8,#v[EV,ro.loc,ro.len],bp,U,Y,(I.mono T.same).append (.cons r7 .nil),h7}
   |false=>
    obtain⟨lv,L⟩:=L;obtain⟨k1,U,Y⟩:=qg A G d2 d3;show{W5,a,m5.cel,rfl,l2.trans A,w.outer A zP lv,k1,U,Y,I.mono A.same,L}
  ·rw[nB ()]at r;show .inl {st (),q _ _ W2 _ r (l1.trans l2) w #v[D,rfl,h0,d2,d3,ys,G,I]}
 show{_,{ds.length,(),{p.F,upd p.H D (.lst []),p.C},[],e.cel,rfl,lD,uR.lift lD (λ_=>rfl) JJ,bp,fD,cD,.nil,h1},JK}
def c5 (S:og X ns ys fr b cl)(e:X.calm=LZ)
  (hi:VI X d iter i) (j:∀C s H a,VG (cxC X (ns++ys) b cl C s H a) d t) (l:∀C s H a,PTs (cxC X (ns++ys) b cl C s H a) m (lfT X.B c)) (n:∀C s H a,VE (cxC X (ns++ys) b cl C s H a) o f) (hk:Di ns.length t)
  (hs:∀x,iJ iter X.env x=pure x:=by intro _;rfl):VE X (.ListComp o [{d,iter,m,0}] b p) (cv ns.length fr i t c f):=#v[PE.sub (aeq (g:=gOf X.K t) (tt:=lfT X.B c) (te:=lf X.B f) S e hi.out (λC s H a=>(j C s H a).out) l (λC s H a=>(n C s H a).out) hs) λ_ _ _ h=>Ib hk h]
def dh:GT:=λm Q=>Q LZ m
def cg:PTs X [] (lfT X.B dh):=λa s b H Q I ⟨W,m,R,c,d,h,q⟩=>aeo a s b H Q I (by subst c;show q LZ m W h (Lx.refl W) d)
def uc (h:VT X c f):PTs X [c] (lfT X.B f):=aep h.out
def ja (n:X.N.Nodup)(o:X.N[i0]?=KE d)(p:X.env.scope.names.lookup d=KE .local)(S:og X ns ys fr b cl)(q:X.calm=LZ)
  (hi:VI X e iter i) (r:∀C s H a,VG (cxC X (ns++ys) b cl C s H a) e t) (u:∀C s H a,PTs (cxC X (ns++ys) b cl C s H a) l (lfT X.B c)) (w:∀C s H a,VE (cxC X (ns++ys) b cl C s H a) m f) (hk:Di ns.length t)
  (hs:∀x,iJ iter X.env x=pure x:=by intro _;rfl) (y:kA (.ListComp m [{e,iter,l,0}] b j) (KE (.Name d z)) A.line X.env=pure LZ:=by rfl) :
  VS X (.Assign [.Name d z] (.ListComp m [{e,iter,l,0}] b j) A) (bo i0 (cv ns.length fr i t c f)):=#v[λO=>PS.sub (Rr (g:=gOf X.K t) (tt:=lfT X.B c) (te:=lf X.B f) n o p S q hi.out (λC s H a=>(r C s H a).out) u (λC s H a=>(w C s H a).out) hs y) λD E H h=>Ib hk (Lk h)]
end
open PyProof.Rows (envOfC)
abbrev GP:=List Tr->(Ev->Prop)->Prop
def spP (b:B)(n:Nat)(g:GP):Sp:=λvs H Q _=>vs.length=n/\∃W ds R,W.H=H/\Wok b W []/\Rps b W.F vs ds/\g ds R/\∀c a x,R c->Le W a->(∀j,a.C j=LY)->Wok b a []->Rev b W a x c->Q x a.H
abbrev GR:=List Tr->Tr->(Ev->Tr->Prop)->Prop
def ins {a:Type}:Nat->a->List a->List a
 |0,x,l=>x::l
 |_+1,x,[]=>[x]
 |n+1,x,y::l=>y::ins n x l
def spR (b:B)(n p:Nat)(g:GR):Sp:=λvs H Q _=>vs.length=n/\∃W xs ds d a R,W.H=H/\vs=ins p (.ref a) xs/\W.C 0=KE a/\Wok b W [KE d]/\Rps b W.F xs ds/\g ds d R/\
 ∀e d' c x,R e d'->Le W c->(∀j,c.C j=W.C j)->Wok b c [KE d']->Rev b W c x e->Q x c.H
def As (R:Ev->Prop)(a:Ev)(m:M):Prop:=match a with
 | .val d=>R (.val d)
 | .new d=>R (.new d)
 | .cel 0=>False
 | .cel (j+1)=>match m.cel[j+1]? with
  |some (KE d)=>R (.new d)
  |_=>False
def T5 (R:Ev->Tr->Prop)(a:Ev)(m:M):Prop:=match m.cel[0]? with
 |some (KE e)=>(match a with
   | .val d=>R (.val d) e
   | .new d=>R (.new d) e
   | .cel 0=>False
   | .cel (j+1)=>match m.cel[j+1]? with
     |some (KE d)=>R (.new d) e
     |_=>False)
 |_=>False
def locs (n:Nat)(ws:List (Option Wt)):List (Option Wt):=ws++aY (n - ws.length) LY
abbrev vsW (ds:List Tr):List (Option Wt):=ds.map λd=>KE (.v d)
def Pm (g:GS)(n c p:Nat)(a:GP):Prop:=∀ds R,ds.length=p->a ds R->g { nx:=λm=>R (.val (.v .non)),rt:=As R } {locs n (vsW ds),aY c LY}
def Pr (q:Nat)(g:GS)(n c p:Nat)(a:GR):Prop:=∀ds d R,ds.length+1=p->a ds d R->g { nx:=λm=>T5 R (.val (.v .non)) m,rt:=T5 R } {locs n (ins q (KE (.c 0)) (vsW ds)),KE d::aY c LY}
def Rdx (P:aV)(w:bA)(K:aG)(mg:Str->Option aE)(base:MC)(N:List Str)(x:Str)(st:ME)(f:MB)(k:Nat)(g:GS):Prop:=∀a A outer s H E,Room k (A.deeper (nY x (b7 st) ‹s› f a))->VSs (Cy CX0 P w K mg base N x (b7 st) f a A outer s H E).nox (iu st) g
section
variable {P:aV}{w:bA}{K:aG}{mg:Str->Option aE}{base:MC}
def Rt {ws:List (Option Wt)}{n i:Nat}(h:(locs n ws)[i]?=KE (KE u)):ws[i]?=KE (KE u):=by
 unfold locs at h;by_cases c:i < ws.length
 ·rw[bS c]at h;show h
 ·rw[cK (),dS]at h
  split at h<;>cases h
def Lp {N:List Str}{vs:List V}{i:Nat}(h:vs[i]?=KE x):(L2.start N vs)[i]?=KE (KE x):=by
 unfold L2.start;rw[bS (by simpa using cb h),aK,h];rfl
def Ic:(L2.start N vs).length=vs.length+(N.length - vs.length):=by
 unfold L2.start;rw[aI,aC,dC]
def Wok.cut (ok:Wok b W cel):Wok b {W.F,W.H,λ_=>LY} []:={ok.sub,λj d h=>(by simp at h),λj a h=>(by cases h),λj k a h=>(by cases h)}
def Ru (l:Le O W)(i:∀j,O.C (j+1)=LY)(n:Rel b W m A)(r:Rev b O W x c):(∀d,c=.val d->Rev b O {W.F,W.H,λ_=>LY} x (.val d))/\(∀d,c=.new d->∃a,x=.ref a/\O.H a=LY/\W.F a=LY/\CellOk b W.F W.H a d/\∀j,W.C j≠KE a)/\
  ∀j d,c=.cel (j+1)->m.cel[j+1]?=KE (KE d)->∃a,x=.ref a/\O.H a=LY/\W.F a=LY/\CellOk b W.F W.H a d/\W.C (j+1)=KE a:=by
 show{λd e=>by subst e;show r,λd e=>?_,λj d e o=>?_}
 ·subst e;obtain⟨a,rfl,h0,f,p,q⟩:=r;show#v[a,rfl,h0,f,q,p]
 ·subst e;obtain⟨a,rfl,f⟩:=r;obtain⟨h,g,s,u⟩:=n.ok.cell (j+1) d o;have y:=f h g;subst y;show{h,rfl,?_,s,u,g};rcases l.cl _ _ g with z | z
  ·rw[i]at z;cases z
  ·show z.1
def Le.cut (l:Le O W)(h:∀j a,C j=KE a->O.C j=KE a):Le O #v[W.F,W.H,C]:={l.same,l.fr,l.nw,λj a e=>.inl (h j a e),l.dm}
def fn_g {N ps:List Str}(F:Fun K x Y st f fd)(S:fq N ps (b7 st))
  (hb:Rdx P w K mg base N Y st f k g)
  (hg:Pm g N.length nc ps.length gf):i5 P w K mg base CX0 (k+1) f fd ps (spP #v[P,w,K] ps.length gf):=by
 show F.ok S (λvs H Q E h=>h.1) λuZ A outer s H vs Q E hr h=>?_;obtain⟨hl,W,ds,R,rfl,ok,D,JL,q⟩:=h;have G:∀j,W.C j=LY:=λj=>by
  cases e:W.C j with
  |none=>rfl
  |some a=>obtain⟨d,hd⟩:=ok.live j a e;simp at hd
 have n:∀{j:Nat}{d:Tr},(aY nc (LY:Option Tr))[j]?=KE (KE d)->False:=λ{j d} e=>(by rw[dS]at e;split at e<;>cases e);have U:∀p m b c x,As R p m->Le W b->Rel ⟨P,w,K⟩ b m c->Rev ⟨P,w,K⟩ W b x p->Q x b.H:=λp m b c x h l z r=>by
  have I:=z.ok.cut;have J:Le W ⟨b.F,b.H,λ_=>LY⟩:=l.cut λj a e=>(by cases e);obtain⟨f1,f2,f3⟩:=Ru l (λj=>G (j+1)) z r;cases p with
  |val d=>show q _ {b.F,b.H,λ_=>LY} x h J (λ_=>rfl) I (f1 d rfl)
  |new d=>
   obtain⟨a,rfl,L,O,T,_⟩:=f2 d rfl;show q _ {b.F,b.H,λ_=>LY} _ h J (λ_=>rfl) I {a,rfl,L,O,λj e=>(by cases e),T}
  |cel j=>
   cases j with
   |zero=>show h.elim
   |succ j=>
    change (match m.cel[j+1]? with | some (KE d)=>R (.new d) | _=>False)at h
    rcases e:m.cel[j+1]? with _ | _ | d
    ·rw[e]at h;show h.elim
    ·rw[e]at h;show h.elim
    ·rw[e]at h;obtain⟨a,rfl,L,O,T,_⟩:=f3 j d rfl e;show q _ {b.F,b.H,λ_=>LY} _ h J (λ_=>rfl) I {a,rfl,L,O,λj e=>(by cases e),T}
 show{_,(hb uZ A outer s W.H E hr).out W,W,_,_,rfl,Le.refl W,{{ok.sub,λj d h=>(n h).elim,λj a e=>(by rw[G]at e;cases e),λj k a e=>(by rw[G]at e;cases e)},λi u hu=>?_,?_},hg ds R (by rw[<-D.length];show hl) JL,λm b c h l _ z=>U (.val (.v .non)) m b c .non h l z (Rp.v rfl),U,λ_ _ _ h=>h.elim,λ_ _ _ h=>h.elim}
 ·have o:=Rt hu;rw[aK]at o;rcases e:ds[i]? with _ | d
  ·rw[e]at o;cases o
  ·rw[e]at o;cases o;obtain⟨y,hy,ry⟩:=D.get e;show{y,Lp hy,ry}
 ·change(locs N.length (vsW ds)).length=_;rw[Ic];unfold locs;rw[aI,dC,aC,D.length]
variable {X:Cx}
def Ie (ok:Wok b W cel)(l:Le {W.F,W.H,λ_=>LY} c)(h:Wok b c []):Lx W #v[c.F,c.H,W.C]/\Wok b #v[c.F,c.H,W.C] cel:=by
 show{{{l.same,λa o e _=>l.fr a o e λj z=>(by cases z),λa e n=>?_,λj a e=>.inl e,l.dm},λj a e=>e},{h.sub,λj d i=>?_,ok.live,ok.dist}}
 ·rcases l.nw a e n with z | ⟨j,z⟩ | z
  ·show .inl z
  ·cases z
  ·show .inr (.inr z)
 ·obtain⟨a,m,p,f⟩:=ok.cell j d i;show{a,m,?_,f.mono l.same λo e=>l.fr a o e λj z=>(by cases z)};cases q:c.F a with
  |none=>rfl
  |some u=>
   rcases l.nw a p (by rw[q];show λz=>by cases z)with z | ⟨j,z⟩ | ⟨o,z,r⟩
   ·obtain⟨o,g⟩:=f.has;rw[show W.H a=LY from z]at g;cases g
   ·cases z
   ·show MJ r (f.nimm o z)
def yq (ok:Wok b W cel)(h:Rev b {W.F,W.H,λ_=>LY} c x f)(l:∀j,f≠.cel j)(q:∀j,c.C j=LY):Rev b W #v[c.F,c.H,W.C] x f:=by
 cases f with
 |val d=>show h
 |new d=>
  obtain⟨a,rfl,h0,m,r,n⟩:=h;show{a,rfl,h0,m,λj e=>?_,n};obtain⟨d',hd⟩:=ok.live j a e;obtain⟨s,g,_,p⟩:=ok.cell j d' hd;rw[show W.C j=KE a from e]at g;cases g;obtain⟨o,i⟩:=p.has;rw[show W.H a=LY from h0]at i;cases i
 |cel j=>show MJ rfl (l j)
def Kc (R:Ev->Prop):Ev->Prop
 | .cel _=>False
 |ev=>R ev
def age (F:i5 X.prog X.w X.K X.mg X.base CX0 k f fd ps (spP X.B n g))(J:Room k X.A)(L:Gl X x)(N:X.mg x=KE (.ref f))(hk:fK X.K (.ref f)=LZ)(O:Binds X.K fd ps [])
  (hn:ps.length=n) (T:VA X (e::b) ga) (U:(x == ("__debug__":Str))=MA:=by decide) (Y:aN (e::b) X.env=(MA,eval e X.env)::aN b X.env:=by rfl) (wM:(dP o (aN b X.env)).any (·.1)=MA:=by rfl) :
  VE X (.Call (.Name x p) (e::b) [] o) (λm Q=>ga m λu c=>wt u λds=>ds.length=n/\g ds (Kc λr=>Q r c)):=⟨PE.sub (Bj F J L N hk O .nil yc T.out U Y wM) λσ H Q ⟨W,m,R,hW,uS,h,q⟩=>⟨W,m,_,hW,uS,h,λu c i xs h1 l1 a r1=>by
  obtain⟨ds,D,hl,h2⟩:=nv r1 h1;show{by rw[bX,D.length];show hl,{i.F,i.H,λ_=>LY},ds,_,rfl,a.ok.cut,by rw[bX];show D,h2,λr l y s l3 E yK G=>?_};obtain⟨l4,I⟩:=Ie a.ok l3 yK;cases r with
  |cel j=>show s.elim
  |val d=>show q _ c #v[l.F,l.H,i.C] y s (l1.trans l4) (a.lift l4 (λ_=>rfl) I) ((yq a.ok G (λj z=>nomatch z) E).old l1.toLe)
  |new d=>show q _ c #v[l.F,l.H,i.C] y s (l1.trans l4) (a.lift l4 (λ_=>rfl) I) ((yq a.ok G (λj z=>nomatch z) E).old l1.toLe)⟩⟩
end
open PyProof.Rows (envOfC)
structure Bl (mg:Str->Option aE):Prop where
 range:mg "range"=LY
 abs:mg "abs"=LY
 int:mg "int"=LY
 max:mg "max"=LY
 min:mg "min"=LY
 tuple:mg "tuple"=LY
 list:mg "list"=LY
 len:mg "len"=LY
 isinstance:mg "isinstance"=LY
 enumerate:mg "enumerate"=LY
 sum:mg "sum"=LY
 all:mg "all"=LY
 any:mg "any"=LY
 zip:mg "zip"=LY
 reversed:mg "reversed"=LY
 set:mg "set"=LY
 sorted:mg "sorted"=LY
 dict:mg "dict"=LY
 bool:mg "bool"=LY
structure Fd (K:aG)(mg:Str->Option aE)(x:Str)(st:ME)(ps:List Str)(f:MB)(fd:gO):Prop where
 fn:Fun K x x st f fd
 at_:mg x=KE (.ref f)
 bd:Binds K fd ps []
structure Fo (P:aV)(w:bA)(K:aG)(mg:Str->Option aE)(base:MC)(k:Nat)(x:Str)(ps:List Str)(sp:Sp):Prop where
 ex:∃f fd,i5 P w K mg base CX0 k f fd ps sp/\mg x=KE (.ref f)/\fK K (.ref f)=LZ/\Binds K fd ps []
section
variable {P:aV}{w:bA}{K:aG}{mg:Str->Option aE}{base:MC}{X:Cx}
def Fo.of (F:Fd K mg x st ps f fd)(h:i5 P w K mg base CX0 k f fd ps sp):Fo P w K mg base k x ps sp:=#v[f,fd,h,F.at_,F.fn.kp,F.bd]
def av (n:Nat)(g:GP)(ga:GA):GE:=λm Q=>ga m λa b=>wt a λds=>ds.length=n/\g ds (Kc λc=>Q c b)
def vc (F:Fo X.prog X.w X.K X.mg X.base i x ps (spP X.B n g))(j:Room k X.A)(l:VA X (e::d) ga)(hk:i<=k:=by decide)(m:ps.length=n:=by rfl)(o:Gl X x:=by rfl)
  (q:(x == ("__debug__":Str))=MA:=by decide) (r:aN (e::d) X.env=(MA,eval e X.env)::aN d X.env:=by rfl) (s:(dP h (aN d X.env)).any (·.1)=MA:=by rfl) :
  VE X (.Call (.Name x p) (e::d) [] h) (av n g ga):=by
 obtain⟨f,fd,F,a,b,c⟩:=F;show age F (j.mono hk) o a b c m l q r s
def vf (F:Fd K mg x st ps f fd)(S:fq N ps (b7 st))
  (a:Rdx P w K mg base N x st f k g)
  (b:Pm g N.length d ps.length c):Fo P w K mg base (k+1) x ps (spP #v[P,w,K] ps.length c):=
 .of F (fn_g F.fn S a b)
def v_ (i:Nat)(a:X.N[i]?=KE x:=by rfl)(b:Vis X.env.scope x:=by first | show aS rfl | show fQ (aS rfl) | show fQ (fQ rfl))(hd:(x == ("__debug__":Str))=MA:=by decide)
  (c:(x == ("__classdict__":Str))=MA:=by decide):VE X (.Name x d) (aa i):=ajn a b hd c
end
abbrev gI (i:Int):GE:=gC (.v (.int i))
abbrev gS (x:Str):GE:=gC (.v (.str x))
abbrev gX (f g:GE):GE:=gOp ixG f g
abbrev gA1 (f:GE):GA:=gaV f gaN
open PyProof.Rows (envOfC)
section
variable {X:Cx}
def h8 (nd:([a]++ys).Nodup:=by decide +kernel)
  (d:Loc (cxC X ([a]++ys) b cl C s H c).env.scope a:=by show aS rfl) (e:(cxC X ([a]++ys) b cl C s H c).env.scope.names.lookup a=KE .local:=by rfl):VG (cxC X ([a]++ys) b cl C s H c) (.Name a f) (.one 0):=#v[nr (i:=0) nd rfl d (.inr e)]
def wx (e:X.calm=LZ)(nd:([a,b]++ys).Nodup:=by decide +kernel)
  (f:Loc (cxC X ([a,b]++ys) c cl C s H d).env.scope a:=by show aS rfl) (g:Loc (cxC X ([a,b]++ys) c cl C s H d).env.scope b:=by show aS rfl)
  (h:(cxC X ([a,b]++ys) c cl C s H d).env.scope.names.lookup a=KE .local:=by rfl) (i:(cxC X ([a,b]++ys) c cl C s H d).env.scope.names.lookup b=KE .local:=by rfl) :
  VG (cxC X ([a,b]++ys) c cl C s H d) (.Tuple [.Name a j,.Name b l] k m) (.tup [0,1]):=#v[pg2 e nd f g h i]
def vg2 (d:X.calm=LZ)(c:X.N.Nodup)(hi:X.N[i]?=KE a)(e:X.N[j]?=KE b)(f:Loc X.env.scope a)(g:Loc X.env.scope b)(h:X.fn a=LZ:=by rfl)(l:X.fn b=LZ:=by rfl):VG X (.Tuple [.Name a m,.Name b n] k o) (.tup [i,j]):=#v[Vf d (p9 (nr (i:=i) c hi f (.inl h)) (p9 (nr (i:=j) c e g (.inl l)) Fg))]
def vg2l (d:X.calm=LZ)(c:X.N.Nodup)(hi:X.N[i]?=KE a)(e:X.N[j]?=KE b)(f:Loc X.env.scope a)(g:Loc X.env.scope b)(h:X.fn a=LZ:=by rfl)(l:X.fn b=LZ:=by rfl):VG X (.Tuple [.Name a m,.Name b n] k o) (.lst [i,j]):=#v[ajb d (p9 (nr (i:=i) c hi f (.inl h)) (p9 (nr (i:=j) c e g (.inl l)) Fg))]
end
def wy (h:1 < n:=by decide):Di n (.tup [0,1]):=λi hi=>by
 rcases aW.mp hi with rfl | hi
 ·lia
 ·cases bC.mp hi;show h
section
variable {α:Type}
theorem Rv (I:Nat->M):∀(xs:List α)(n:Nat),(∀i x (N:M->Prop),xs[i]?=KE x->N (I (n+i+1))->gTg t (enc x) (I (n+i)) λb=>g { E with nx:=λa=>N (fgt L a),ct:=λa=>N (fgt L a),bk:=E.nx } b)->E.nx (I (n+xs.length))->gy L t g E (xs.map enc) (I n)
 | [],n,_,h=>h
 |x::xs,n,hs,h=>hs 0 x _ rfl (by
     show Rv I xs (n+1) (λi y N c d=>?_) (by rw[show n+1+xs.length=n+(x::xs).length by rw[aZ];lia];show h);have z:=hs (i+1) y N (by simpa using c) (by rw[show n+(i+1)+1=n+1+i+1 by lia];show d);rw[show n+(i+1)=n+1+i by lia]at z;show z)
def rh {E:v9}{xs:List α}(I:Nat->M)(h0:m=I 0)(hs:∀i x (N:M->Prop),xs[i]?=KE x->N (I (i+1))->gTg t (enc x) (I i) λc=>g { E with nx:=λa=>N (fgt L a),ct:=λa=>N (fgt L a),bk:=E.nx } c)(h:E.nx (I xs.length)):gy L t g E (xs.map enc) m:=by
 subst h0;show Rv I xs 0 (λi x N d b=>by rw[fE]at b ⊢;show hs i x N d b) (by rw[fE];show h)
theorem Lq (I:Nat->M->Prop):∀(xs:List α)(n:Nat) {m:M},I n m->(∀i x (m:M) (N:M->Prop),xs[i]?=KE x->I (n+i) m->(∀c,I (n+i+1) c->N c)->gTg t (enc x) m λa=>g { E with nx:=λb=>N (fgt L b),ct:=λb=>N (fgt L b),bk:=E.nx } a)->(∀m,I (n+xs.length) m->E.nx m)->gy L t g E (xs.map enc) m
 | [],n,m,h0,_,h=>h m h0
 |x::xs,n,m,h0,hs,h=>hs 0 x m _ rfl h0 λc h'=>by
   show Lq I xs (n+1) h' (λi y a N d hi e=>?_) (λa f=>h a (by rw[show n+(x::xs).length=n+1+xs.length by rw[aZ];lia];show f));show hs (i+1) y a N (by simpa using d) (by rw[show n+(i+1)=n+1+i by lia];show hi) λb j=>e b (by rw[show n+1+i+1=n+(i+1)+1 by lia];show j)
def d7 {E:v9}{xs:List α}(I:Nat->M->Prop)(h0:I 0 m)(hs:∀i x (m:M) (N:M->Prop),xs[i]?=KE x->I i m->(∀b,I (i+1) b->N b)->gTg t (enc x) m λd=>g { E with nx:=λa=>N (fgt L a),ct:=λa=>N (fgt L a),bk:=E.nx } d)(h:∀m,I xs.length m->E.nx m):gy L t g E (xs.map enc) m:=
 Lq I xs 0 h0 (λi x m N e hi c=>hs i x m N e (by rw[fE]at hi;show hi) (by rw[fE]at c;show c)) (by rw[fE];show h)
theorem cj (b:iy cel loc=LZ):∀(xs:List α)(a:List Tr),a.length+xs.length<=1000000->
  (∀x∈xs,∀Y:Tr->List (Option Tr)->Prop,Y (out x) cel->gTg t (enc x) {aY k LY++mv loc fr,cel} λe=>f e λg h=>fz h g λd i=>Y d i.cel)->Q (a++xs.map out) #v[loc,cel]->dg k fr t dh f loc Q (xs.map enc) a cel
 | [],a,_,_,q=>by rw[iH,bX]at q;show q
 |x::xs,a,j,hs,q=>by
  rw[aZ]at j;show{(),?_};show hs x aQ (λd c=>iy c loc=LZ/\dg k fr t dh f loc Q (xs.map enc) (a++[d]) c) {b,?_};show cj b xs (a++[out x]) (by rw[aI,cT];lia) (λy l=>hs y (aP _ l)) ?_;rw[dY];show q
theorem iq (g:iy cel loc=LZ):∀(xs:List α)(a:List Tr),a.length+xs.length<=1000000->
  (∀x∈xs,∀(Y:Tr->List (Option Tr)->Prop)(Z:List (Option Tr)->Prop),(p x=LZ->Y (out x) cel)->(p x=MA->Z cel)->gTg t (enc x) {aY k LY++mv loc fr,cel} λl=>c l λb j=>if b=LZ then f j λm n=>fz n m λd o=>Y d o.cel else Z j.cel)->
  Q (a++(xs.filter p).map out) #v[loc,cel]->dg k fr t c f loc Q (xs.map enc) a cel
 | [],a,_,_,q=>by rw[List.filter_nil,iH,bX]at q;show q
 |x::xs,a,r,hs,q=>by
  rw[aZ]at r;show{(),?_};show hs x aQ (λd e=>iy e loc=LZ/\dg k fr t c f loc Q (xs.map enc) (a++[d]) e) (λe=>iy e loc=LZ/\dg k fr t c f loc Q (xs.map enc) a e) (λh=>{g,?_}) (λh=>{g,?_})
  ·show iq g xs (a++[out x]) (by rw[aI,cT];lia) (λy i=>hs y (aP _ i)) ?_;rw[dY];rw[List.filter_cons_of_pos h]at q;show q
  ·show iq g xs a () (λy i=>hs y (aP _ i)) ?_;rw[List.filter_cons_of_neg (by rw[h];show aO)]at q;show q
def va (n:Nat):jg 0 n=(bE n).map λi:Nat=>Tr.v (.int (i:Int)):=by
 unfold jg;congr 1
 funext i
 rw[Int.zero_add]
end
section
variable {X:Cx}
def gRev (f g:GE):GE:=λm Q=>f m λb c=>g c λe a=>lk a b λd=>match d,e with
 | .tup l,.val (.v (.int i))=>i=-1/\Q (.val (.tup l.reverse)) a
 |_,_=>False
def Xm (n:VE X e f)(hs:VE X st g):VE X (.Subscript e (.Slice LY LY (KE st) T) o) (gRev f g):=⟨PE.sub (aes n.out hs.out) λU H Q ⟨W,m,R,p,r,h,q⟩=>⟨W,m,_,p,r,h,λc s u x w l1 A C=>⟨u,s,_,rfl,A,w,λY l W2 y D l2 i E=>by
  obtain⟨d,G,b⟩:=gr i.ok (C.mono l2) D
  split at b
  · obtain⟨rfl,b⟩:=b;cases(Rp.vI E).1;obtain⟨a,xs,rfl,I,J⟩:=G.tup i.ok.sub;show{rfl,a,xs,rfl,I,Bo (R:=λc=>R c l) i.ok (λc L z N j O=>q c l L z N (l1.trans (l2.trans j.lx)) (i.lift j.lx j.cs j.ok) (O.old (l1.trans l2).toLe)) b J.reverse}
  · show b.elim⟩⟩⟩
def T6 (o:Int->Int->Int)(i:Nat)(f:GE):GS:=λE m=>match m.loc[i]? with
 |some (KE (.v (.v (.int a))))=>f m λd c=>(match d with
   | .val (.v (.int b))=>E.nx {c.loc.set i (KE (.v (.v (.int (o a b))))),c.cel}
   |_=>False)
 |_=>False
def Lr (h:lfS b O (T6 o i f) D g H):tAug i (lf b f) (ipI o) D g H:=by
 obtain⟨W,m,E,j,l,d,h,n,_⟩:=h;unfold T6 at h
 split at h
 ·rename_i a e
  obtain⟨x,p,q⟩:=d.loc i _ e;cases(Rp.vI q).1;show{_,p,W,m,_,j,d,h,λz A r y c l1 s u=>?_}
  split at c
  ·cases(Rp.vI u).1;show{_,_,rfl,rfl,n _ r _ c (l.trans l1.toLe) l1.same (s.set (w:=.v _) (Rp.v rfl))}
  ·show c.elim
 ·show h.elim
def ip_or:PIp X .BitOr (ipI λi j=>dR i j):=by
 intro c s d H x y v u Q I a b h;obtain⟨i,j,rfl,rfl,q⟩:=h;obtain⟨t,rfl⟩:=a;obtain⟨t',rfl⟩:=b;show PyProof.Rows.ior_int {.int _,H,I.tok _,{_,rfl},q}
def akb:PIp X .BitXor (ipI λi j=>jP i j):=by
 intro c s d H x y v u Q I a b h;obtain⟨i,j,rfl,rfl,q⟩:=h;obtain⟨t,rfl⟩:=a;obtain⟨t',rfl⟩:=b;show PyProof.Rows.ixor_int {.int _,H,I.tok _,{_,rfl},q}
abbrev Ig:Nat->GE->GS:=T6 λi j=>dR i j
abbrev Es:Nat->GE->GS:=T6 λi j=>jP i j
def Oq (a:X.N.Nodup)(hi:X.N[i]?=KE x)(b:Loc X.env.scope x)(c:VE X e f)(d:X.fn x=LZ\/X.env.scope.names.lookup x=KE .local:=by first | show .inl rfl | show .inr rfl | assumption):VS X (.AugAssign (.Name x j) .BitOr e g) (Ig i f):=#v[λO=>PS.sub (Vi a hi b c.out ip_or d) λ_ _ _ h=>Lr h]
def Ls (a:X.N.Nodup)(hi:X.N[i]?=KE x)(b:Loc X.env.scope x)(c:VE X e f)(d:X.fn x=LZ\/X.env.scope.names.lookup x=KE .local:=by first | show .inl rfl | show .inr rfl | assumption):VS X (.AugAssign (.Name x j) .BitXor e g) (Es i f):=#v[λO=>PS.sub (Vi a hi b c.out akb d) λ_ _ _ h=>Lr h]
abbrev Et:GS:=λ_ _=>False
structure Gc (b:B)(mg:Str->Option aE)(x:Str)(d:Tr):Prop where
 ex:∃v u,mg x=KE u/\RelV v u/\∀F,Rp b F v d
def vgl (h:Gc X.B X.mg x d)(b:Gl X x:=by rfl)(hd:(x == ("__debug__":Str))=MA:=by decide):VE X (.Name x c) (gC d):=by
 obtain⟨v,u,a,r,k⟩:=h;show afo b a r k hd
section
variable {κ:Type}[DecidableEq κ]
def ij (ks:List κ)(l:List Tr)(k:κ):Option Tr:=((ks.zip l).find? λp=>decide (p.1=k)).map (·.2)
def ip (ks:List κ)(k:κ):List κ:=if k∈ks then ks else ks++[k]
def jc (ks:List κ)(l:List Tr)(k:κ)(d:Tr):List Tr:=if k∈ks then qR (λa d'=>if a=k then d else d') ks l else l++[d]
variable {ε:Type}{key:ε->κ}{val:ε->V}{b:B}{F:Hp}
theorem Bv (k:κ):∀{L:List ε}{l:List Tr},Rps b F (L.map val) l->(∀d,ij (L.map key) l k=KE d->∃x,(L.find? λe=>decide (key e=k)).map val=KE x/\Rp b F x d)/\((L.find? λe=>decide (key e=k)).isSome=decide (k∈L.map key))
 | [],[],.nil=>{λd h=>(by cases h),by simp}
 |e::L,d::l,.cons h r=>by
  obtain⟨a,f⟩:=Bv k (L:=L) r;by_cases c:key e=k
  ·show{λd' h'=>?_,by simp[dH,c]};have z:ij ((e::L).map key) (d::l) k=KE d:=(by simp[ij,dH,c]);rw[z]at h';cases h';show{val e,by simp[dH,c],h}
  ·show{λd' h'=>?_,?_}
   ·have z:ij ((e::L).map key) (d::l) k=ij (L.map key) l k:=(by simp[ij,dH,c]);rw[z]at h';obtain⟨x,g,i⟩:=a d' h';show{x,by rw[dH];simp only[MH c];show g,i}
   ·have:¬k=key e:=λz=>c z.symm;rw[dH];simp only[MH c];rw[f];simp[this]
theorem Xn (k:κ)(a:Rp b F y d)(f:∀e,val (g e)=if key e=k then y else val e):∀{L:List ε}{l:List Tr},Rps b F (L.map val) l->Rps b F ((L.map g).map val) (qR (λi d'=>if i=k then d else d') (L.map key) l)
 | [],[],.nil=>.nil
 |e::L,d'::l,.cons h r=>by
  show .cons ?_ (Xn k a f r);change Rp b F (val (g e)) (if key e=k then d else d')
  rw[f];by_cases c:key e=k
  ·rw[MF c,MF c];show a
  ·rw[MG c,MG c];show h
def p8 (k:κ)(a:Rp b F y d)(h0:key e0=k)(f:val e0=y)(hk:∀e,key (g e)=key e)(h:∀e,val (g e)=if key e=k then y else val e){L L':List ε}(r:Rps b F (L.map val) l)
  (e:L'=if (L.find? λe=>decide (key e=k)).isSome=LZ then L.map g else L++[e0]):ip (L.map key) k=L'.map key/\Rps b F (L'.map val) (jc (L.map key) l k d):=by
 have z:=(Bv (key:=key) (val:=val) k r).2;unfold ip jc;subst e;by_cases c:k∈L.map key
 ·rw[z,MI c,MF rfl,MF c,MF c];show{?_,Xn k a h r};rw[dQ];congr 1
  funext e
  show(hk e).symm
 ·rw[z,MH c,MG aO,MG c,MG c];show{by rw[bI,List.map_singleton,h0],?_};rw[bI,List.map_singleton,f];show r.append (.cons a .nil)
end
def itT:I2->Tr
 | .inl i=>.v (.int i)
 | .inr l=>tI l
def Lu (h:SqT b.K F a xs)(r:Rps b F xs (k.map itT)):KeyAt b.K F a k:=by
 show{xs,h,?_};clear h
 induction k generalizing xs with
 |nil=>cases r;show .nil
 |cons i k d=>
  cases r with
  |cons h r=>
   show .cons ?_ (d r);cases i with
   |inl i=>show(Rp.vI h).1
   |inr l=>
    obtain⟨c,ys,rfl,e,f⟩:=Rp.tupI h;cases f.flat;show#v[c,rfl,e]
def setG:Tr->Tr->Tr->(Tr->Prop)->Prop
 | .lst l,.v (.int k),e,R=>kn (ixN l.length k) λn=>R (.lst (l.set n e))
 | .dk ks l,.v (.int i),e,R=>ks.length < 1000000/\R (.dk (ip ks (.inl i)) (jc ks l (.inl i) e))
 | .dct ks l,.tup t,e,R=>∃k:List I2,t=k.map itT/\ks.length < 1000000/\R (.dct (ip ks k) (jc ks l k e))
 |_,_,_,_=>False
def rSetG (b:B):Kh:=λo i v H Q=>∃W cel j a d k e R,W.H=H/\Wok b W cel/\o=.ref a/\W.C j=KE a/\cel[j]?=KE (KE d)/\Top b W i k/\Rp b W.F v e/\setG d k e R/\
 ∀d' c,R d'->Lx W c->(∀j,c.C j=W.C j)->Wok b c (cel.set j (KE d'))->Q c.H
def agf (hu:X.A.units+64 < dJ):So X (rSetG X.B):=by
 intro f' s σ H o i v C iv u Q I D E G h;obtain⟨W,cel,j,a,d,k,e,R,rfl,ok,rfl,p,hd,J,L,h,q⟩:_:=h;unfold setG at h
 split at h
 ·obtain⟨xs,y,r⟩:_:=ok.lst p hd;cases J.v;obtain⟨n,hn,h⟩:_:=i7 h;obtain⟨l3,N⟩:_:=jf (d':=.lst _) (o:=.lst (xs.set n v)) ok p hd {_,bp,r.set L n};show Kq f' s σ W.H _ _ v C iv u Q I D E G {a,xs,_,n,rfl,rfl,y,by rw[r.length];show hn,q _ _ h l3 (λ_=>rfl) N}
 ·cases J.v;cases(show C=bY a from D);obtain⟨a',z,q2,kvs,y,rfl,r⟩:_:=ok.cell j _ hd;rw[p]at z;cases z;obtain⟨hz,h⟩:_:=h
  rename_i b
  obtain⟨O,T⟩:_:=p8 (key:=λm:Key×V=>m.1) (val:=λm=>m.2) (Sum.inl b) L (g:=λm=>if m.1=Sum.inl b then (m.1,v)else m) (e0:=(Sum.inl b,v)) rfl rfl (λe=>by split<;>rfl) (λe=>by split<;>rfl) r (L':=oh kvs (Sum.inl b) v) (by
    unfold oh;rw[C4];unfold m9;rw[gP])
  obtain⟨l3,N⟩:_:=jf (d':=.dk (ip (kvs.map (·.1)) (Sum.inl b)) (jc (kvs.map (·.1)) _ (Sum.inl b) _)) (o:=.dK (oh kvs (Sum.inl b) v)) ok p hd {_,bp,O,T};show Wc () I (DPut.k (k:=Sum.inl b) y (by rw[<-aC (f:=(·.1))];show bQ hz (by decide))) E G λs' I'=>{_,I',q _ _ h l3 (λ_=>rfl) N}
 ·obtain⟨l,rfl,hz,h⟩:_:=h;obtain⟨c,ys,rfl,t1,t2⟩:_:=Rp.tupI J;obtain⟨a',z,q2,kvs,KL,y,U,gz,gs,rfl,r⟩:_:=ok.cell j _ hd;rw[p]at z;cases z;have kt:=Lu t1 t2;have dd:DictAt X.prog X.w X.K W.H a kvs:={#v[KL,y],λx hx=>jx (U x hx) ok.sub,gz,gs};obtain⟨O,T⟩:_:=p8 (key:=λe:List I2×MB×V=>e.1) (val:=λe=>e.2.2) l L (g:=λe=>if e.1=l then (e.1,e.2.1,v)else e) (e0:=(l,c,v)) rfl rfl (λe=>by split<;>rfl) (λe=>by split<;>rfl) r (L':=mh kvs l c v) (by
    unfold mh atK;rw[gP])
  have st:=λep=>jf (d':=.dct (ip (kvs.map (·.1)) l) (jc (kvs.map (·.1)) _ l _)) (o:=ji X.prog X.w a ep (mh kvs l c v)) ok p hd ⟨_,ep,bp,λe he=>by
      rcases Ti he with⟨z1,Y⟩ | z1
      · rcases Y with Y | ⟨e',BW,z3,z4⟩
        · rw[z1,Y];show kt
        · have:=U e' BW;rw[z3,z4]at this;rw[z1];show this
      · show U e z1,bK (Th _ _ _ _) (by
        have:kvs.length < 1000000:=(by rw[<-aC (f:=(·.1))];show hz);show bK this (by decide)),gs,O,T⟩
  show Wf rfl rfl rfl () f' s σ W.H _ _ v C iv u Q I D E G ⟨a,kvs,c,l,rfl,rfl,dd,jx kt ok.sub,by rw[<-aC (f:=(·.1))];show bQ hz (by decide),λep=>q _ _ h (st ep).1 (λ_=>rfl) (st ep).2⟩
 ·show h.elim
def si (i:Nat)(f g:GE):GS:=λE m=>f m λh l=>fz l h λe b=>match b.loc[i]? with
 |some (KE (.c j))=>g b λn a=>lk a (.cel j) λd=>lk a n λk=>setG d k e λd'=>E.nx {a.loc,a.cel.set j (KE d')}
 |_=>False
def ko (G:X.N[i]?=KE x)(I:Vis X.env.scope x)(J:X.A.units+64 < dJ)(L:VE X e f)(hk:VE X k g)(hs:rY [.Subscript (.Name x p) k b] e q.line X.env=pure MA:=by rfl)(hw:rZ [.Subscript (.Name x p) k b] e X.env=pure LY:=by rfl)
  (r:(jJ [.Subscript (.Name x p) k b] X.env).map (·.2)=[lO (.Subscript (.Name x p) k b) X.env]:=by rfl)
  (Q:∀v,lO (.Subscript (.Name x p) k b) X.env v=(do
    let c <-jZ [v] (eval (.Name x p) X.env)
    let iv <-jZ [v,c] (eval k X.env)
    oV b
    jZ [v,c,iv] (uO c iv v)
    release [v,c,iv] []):=by intro _;rfl) (hd:(x == ("__debug__":Str))=MA:=by decide) (T:(x == ("__classdict__":Str))=MA:=by decide) :
  VS X (.Assign [.Subscript (.Name x p) k b] e q) (si i f g):=⟨λO=>PS.sub (Ki L.out (Vg (ug G I hd T) hk.out (agf J) Q) hs hw r) λD σ H ⟨W,m,E,U,l,Y,h,n,_⟩=>⟨W,m,_,U,Y,h,λev m1 W1 y r l1 uR r1=>by
obtain⟨d0,m2,W2,s,l2,e2,w,r2⟩:=mr l1 uR r1 r
split at s
· rename_i j hj
  obtain⟨z,q1,a,rfl,ca⟩:=w.loc i _ hj;show{_,q1,?_};rw[<-e2];show{W2,m2,_,rfl,w,s,λek m3 W3 kx h3 l3 o r3=>?_};obtain⟨d,hd,h4⟩:=rf h3;obtain⟨kt,tk,h5⟩:=gr o.ok r3 h4;obtain⟨u,C,_⟩:=o.ok.cell j d hd;have ea:u=a:=(by have:=l3.cx j u C;rw[ca]at this;cases this;rfl);subst ea;show{W3,m3.cel,j,u,d,kt,d0,_,rfl,o.ok,rfl,C,hd,tk,Rp.mono l3.same r2,h5,λd' W' h6 l4 cs BF=>n _ W' _ h6 (l.trans (l2.trans (l3.trans l4)).toLe) (Same.tr l2.same (Same.tr l3.same l4.same)) (o.setc l4 cs BF)}
· show s.elim⟩⟩
def adf:GE:=λm Q=>Q (.new (.dk [] [])) m
def adg:GE:=λm Q=>Q (.new (.dct [] [])) m
def agg:VE X (.Dict [] [] b) adf:=⟨PE.sub Zu λi H Q ⟨W,m,R,c,a,h,q⟩ p e=>by
  subst c;obtain⟨l2,f,g⟩:=qe (d:=.dk [] []) (o:=.dK []) a.ok e {[],bp,rfl,.nil};show q _ m _ _ h l2 (a.lift l2 (λ_=>rfl) f) g⟩
def agh:VE X (.Dict [] [] b) adg:=⟨PE.sub (Zy rfl rfl) λl H Q ⟨W,m,R,c,a,h,q⟩ p ep f hs=>by
  subst c;obtain⟨l2,g,i⟩:=qe (d:=.dct [] []) (o:=ji X.prog X.w p ep []) a.ok f {[],ep,bp,(λe j=>nomatch j),cP _,hs,rfl,.nil};show q _ m _ _ h l2 (a.lift l2 (λ_=>rfl) g) i⟩
def ixD:G2
 | .dk ks l,.v (.int i),R=>kn (ij ks l (.inl i)) λd=>R (.val d)
 | .dct ks l,.tup t,R=>∃k:List I2,t=k.map itT/\kn (ij ks l k) λd=>R (.val d)
 |x,y,R=>ixG x y R
def Rw {b:B}{W:Wd}{k:List I2}{x:V}(ok:Same W.F W.H)(t:Top b W x (.tup (k.map itT))):∃c,x=.ref c/\KeyAt b.K W.H c k:=by
 obtain⟨c,ys,rfl,a,d⟩:=Rp.tupI t;show{c,rfl,jx (Lu a d) ok}
def akc (J:X.A.units+64 < dJ):IxR X (rG X.B ixD):=by
 intro value slice w s C H x y v u Q I b f h hs;obtain⟨W,cel,L,N,R,rfl,ok,j,ty,h,q⟩:=h;unfold ixD at h
 split at h
 ·rename_i ks l i
  obtain⟨a,kvs,rfl,m,rfl,n⟩:=j;cases ty.v;cases(show v=bY a from b);obtain⟨d,e,h⟩:=i7 h;obtain⟨z,o,p⟩:=(Bv (key:=λr:Key×V=>r.1) (val:=λr=>r.2) (Sum.inl i) n).1 d e;have g:DGet W.H a (.int i) (KE z):=by
   have:=DGet.k (k:=Sum.inl i) m;rw[show m9 kvs (Sum.inl i)=KE z from o]at this;show this
  show PyProof.Rows.tail_any (Oi I g) PySem.F.slot_dict_getitem.lookup (Wb () I g f λO s' D E=>{z,W.H,D,E,q _ W z h (After.refl ok) p}) hs
 ·obtain⟨k,rfl,h⟩:=h;obtain⟨a,kvs,rfl,m,T,rfl,n⟩:=j;obtain⟨c,rfl,G⟩:=Rw ok.sub ty;obtain⟨d,e,h⟩:=i7 h;obtain⟨z,o,p⟩:=(Bv (key:=λe:List I2×MB×V=>e.1) (val:=λe=>e.2.2) k n).1 d e;show Zx rfl rfl rfl () value slice w s C W.H _ _ v u Q I b f {a,kvs,c,k,z,rfl,rfl,m,G,o,q _ W z h (After.refl ok) p} hs
 ·show acx value slice w s C W.H x y v u Q I b f {W,cel,_,_,R,rfl,ok,j,ty,h,q} hs
def fj (c:X.A.units+64 < dJ)(d:VE X a fa)(e:VE X b f)(hs:Fl b:=by show λ_ _=>rfl):VE X (.Subscript a b g) (gOp ixD fa f):=#v[PE.sub (S7 (akc c) d.out e.out hs) λ_ _ _ h=>xr h]
def j8 {a:Type}[DecidableEq a](ks:List a)(k:a):Bool:=ks.any λx=>decide (x=k)
theorem Dl {a ε:Type}[DecidableEq a]{key:ε->a}(k:a):∀(L:List ε),(L.find? λe=>decide (key e=k)).isSome=j8 (L.map key) k
 | []=>rfl
 |e::L=>by
  have b:=Dl (key:=key) k L;unfold j8 at b ⊢;rw[bB,jG,<-b,dH];by_cases c:key e=k
  ·simp[c]
  ·simp[c]
def inD (a:Bool):G2
 | .v (.int i),.dk ks _,R=>R (.val (.v (.bl (if a then !j8 ks (Sum.inl i)else j8 ks (Sum.inl i)))))
 | .tup t,.dct ks _,R=>∃k:List I2,t=k.map itT/\R (.val (.v (.bl (if a then !j8 ks k else j8 ks k))))
 |x,y,R=>inG a x y R
def Au (n:X.A.units+64 < dJ):OpG X (eJ .NotIn) (inD LZ):=by
 intro j s m H x y v u Q I b d h;obtain⟨W,cel,z,C,R,rfl,ok,f,ty,h,q⟩:=h;unfold inD at h
 split at h
 ·rename_i i ks l
  obtain⟨a,kvs,rfl,g,rfl,o⟩:=ty;cases f.v;cases(show u=bY a from d);show afa () I (DGet.k (k:=Sum.inl i) g) b λs' p=>{.bl _,W.H,p,rfl,?_};rw[show(m9 kvs (Sum.inl i)).isSome=j8 (kvs.map (·.1)) (Sum.inl i)by unfold m9;rw[gP];show Dl (key:=λr:Key×V=>r.1) _ _];show q _ W _ h (After.refl ok) (Rp.v rfl)
 ·obtain⟨k,rfl,h⟩:=h;obtain⟨a,kvs,rfl,g,D,rfl,o⟩:=ty;obtain⟨c,rfl,w⟩:=Rw ok.sub f;show We rfl rfl rfl () j s m W.H _ _ v u Q I b d {c,k,a,kvs,rfl,rfl,w,g,?_};rw[show(atK kvs k).isSome=j8 (kvs.map (·.1)) k by unfold atK;rw[gP];show Dl (key:=λe:List I2×MB×V=>e.1) _ _];show q _ W _ h (After.refl ok) (Rp.v rfl)
 ·show aaf n j s m W.H x y v u Q I b d {W,cel,_,_,R,rfl,ok,f,ty,h,q}
end
open PyProof.Rows (envOfC)
section
variable {P:aV}{w:bA}{K:aG}{mg:Str->Option aE}{base:MC}{X:Cx}
theorem ud:∀{p l},(ins p x l).length=l.length+1
 |0,_=>rfl
 |p+1,[]=>rfl
 |p+1,y::l=>by change(ins p x l).length+1=_;rw[ud];rfl
theorem Rx:∀{p:Nat}{xs:List V}{ds:List Tr},Rps b F xs ds->∀{i:Nat}{u:Wt},(ins p (KE (Wt.c 0)) (vsW ds))[i]?=KE (KE u)->∃x,(ins p (V.ref a) xs)[i]?=KE x/\((u=.c 0/\x=.ref a)\/∃d,u=.v d/\Rp b F x d)
 |0,xs,ds,r,0,u,h=>by
  have h':KE (KE (Wt.c 0))=KE (KE u):=h;cases h';show{_,rfl,.inl #v[rfl,rfl]}
 |0,xs,ds,r,i+1,u,h=>by
  have h':(vsW ds)[i]?=KE (KE u):=h;rw[aK]at h';rcases e:ds[i]? with _ | d
  ·rw[e]at h';cases h'
  ·rw[e]at h';cases h';obtain⟨y,f,g⟩:_:=r.get e;show{y,f,.inr #v[d,rfl,g]}
 |p+1,_,_,.nil,i,u,h=>by
  have h':([KE (Wt.c 0)]:List (Option Wt))[i]?=KE (KE u):=h;cases i with
  |zero=>cases h';show{_,rfl,.inl #v[rfl,rfl]}
  |succ i=>simp at h'
 |p+1,_,_,.cons k r,0,u,h=>by
  have h':KE (KE (Wt.v _))=KE (KE u):=h;cases h';show{_,rfl,.inr {_,rfl,k}}
 |p+1,_,_,.cons k r,i+1,u,h=>Rx (p:=p) r (i:=i) (u:=u) h
def fn_r (F:Fun K x vD st f fd)(S:fq N ps (b7 st))
  (hb:Rdx P w K mg base N vD st f k g)
  (hg:Pr p g N.length I ps.length gf):i5 P w K mg base CX0 (k+1) f fd ps (spR #v[P,w,K] ps.length p gf):=by
 show F.ok S (λvs H Q E h=>h.1) λuZ A outer s H vs Q E hr h=>?_;obtain⟨hl,W,xs,ds,d,a,R,rfl,rfl,c0,ok,U,JL,q⟩:_:=h;have hN:∀j,W.C (j+1)=LY:=λj=>by
  cases e:W.C (j+1)with
  |none=>rfl
  |some a=>obtain⟨d',hd⟩:_:=ok.live (j+1) a e;simp at hd
 have wF:∀J D m o x,T5 R J D->Le W m->Rel ⟨P,w,K⟩ m D o->Rev ⟨P,w,K⟩ W m x J->Q x m.H:=λJ D m o x h l G r=>by
  unfold T5 at h
  split at h
  ·rename_i e he
   obtain⟨Y,ca,k1,k2⟩:_:=G.ok.cell 0 e he;have ea:W.C 0=KE Y:=by
    rcases l.cl 0 Y ca with z | z
    ·show z
    ·show MJ rfl z.2
   have L:∀j,(if j=0 then m.C 0 else LY)=W.C j:=λj=>by
    cases j with
    |zero=>rw[MF rfl,ca,ea]
    |succ j=>rw[MG (),hN j]
   have l':Le W ⟨m.F,m.H,λj=>if j=0 then m.C 0 else LY⟩:=l.cut λj b e=>by rw[<-L j];show e
   have zN:Wok ⟨P,w,K⟩ ⟨m.F,m.H,λj=>if j=0 then m.C 0 else LY⟩ [KE e]:=⟨G.ok.sub,λj d' hj=>(by
     cases j with
     |zero=>cases hj;show#v[Y,ca,k1,k2]
     |succ j=>simp at hj),λj b e=>(by
     cases j with
     |zero=>show{_,rfl}
     |succ j=>
       have O:(if j+1=0 then m.C 0 else LY)=KE b:=e
       rw[MG (qS j)]at O;cases O),λj k b e O=>by
     have n:∀{j},(if j=0 then m.C 0 else LY)=KE b->j=0:=λ{j} z=>by
       cases j with
       |zero=>rfl
       |succ j=>rw[MG ()]at z;cases z
     rw[n e,n O]⟩
   have I:∀{b:MB},m.C 0≠KE b->∀j,(if j=0 then m.C 0 else LY)≠KE b:=λh j z=>by
    cases j with
    |zero=>show h z
    |succ j=>rw[MG ()]at z;cases z
   obtain⟨f1,f2,f3⟩:_:=Ru l hN G r;cases J with
   |val d=>show q _ _ {m.F,m.H,λj=>if j=0 then m.C 0 else LY} x h l' L zN (f1 d rfl)
   |new d=>
    obtain⟨b,rfl,z0,z1,z2,z3⟩:_:=f2 d rfl;show q _ _ {m.F,m.H,λj=>if j=0 then m.C 0 else LY} _ h l' L zN {b,rfl,z0,z1,I (z3 0),z2}
   |cel j=>
    cases j with
    |zero=>show h.elim
    |succ j=>
     change (match D.cel[j+1]? with | some (KE d)=>R (.new d) e | _=>False)at h
     rcases T:D.cel[j+1]? with _ | _ | d
     ·rw[T]at h;show h.elim
     ·rw[T]at h;show h.elim
     ·rw[T]at h;obtain⟨b,rfl,z0,z1,z2,z3⟩:_:=f3 j d rfl T;show q _ _ {m.F,m.H,λj=>if j=0 then m.C 0 else LY} _ h l' L zN {b,rfl,z0,z1,I (λz=>by have:=G.ok.dist _ _ _ z z3;omega),z2}
  ·show h.elim
 show{_,(hb uZ A outer s W.H E hr).out W,W,_,_,rfl,Le.refl W,{{ok.sub,λj d' h=>?_,λj b e=>?_,ok.dist},λi u hu=>?_,?_},hg ds d R (by rw[ud,U.length]at hl;show hl) JL,λD m o h l _ G=>wF (.val (.v .non)) D m o .non h l G (Rp.v rfl),wF,λ_ _ _ h=>h.elim,λ_ _ _ h=>h.elim}
 ·cases j with
  |zero=>show ok.cell 0 d' h
  |succ j=>
   have h':(aY I (LY:Option Tr))[j]?=KE (KE d'):=h;rw[dS]at h'
   split at h'<;>cases h'
 ·obtain⟨d',hd⟩:_:=ok.live j b e;cases j with
  |zero=>show#v[d,rfl]
  |succ j=>simp at hd
 ·obtain⟨y,hy,ry⟩:_:=Rx (b:=#v[P,w,K]) (a:=a) U (Rt hu);show{y,Lp hy,?_};rcases ry with⟨rfl,rfl⟩ | ⟨d',rfl,r⟩
  ·show#v[a,rfl,c0]
  ·show r
 ·change(locs N.length (ins p (KE (.c 0)) (vsW ds))).length=_;rw[Ic];unfold locs;rw[aI,dC,ud,ud,aC,U.length]
def T7 (p:Nat):List Ev->(List Tr->Nat->Prop)->Prop
 | [],_=>False
 |e::r,Q=>match p with
  |0=>(match e with
    | .cel j=>wt r λds=>Q ds j
    |_=>False)
  |p+1=>(match e with
    | .val d=>T7 p r λds j=>Q (d::ds) j
    |_=>False)
theorem Gg:∀{p g xs Q},Paired (Rev b O W) xs g->T7 p g Q->∃ys ds j a,xs=ins p (.ref a) ys/\Rps b W.F ys ds/\(∀i,W.C j=KE i->i=a)/\Q ds j
 |_,[],_,_,.nil,h=>by cases (by assumption:Nat)<;>show h.elim
 |0,e::r,_,Q,.cons h t,q=>by
  cases e with
  |cel j=>
   obtain⟨a,rfl,c⟩:_:=h;obtain⟨ds,f,q⟩:_:=nv t q;show{_,ds,j,a,rfl,f,c,q}
  |val _=>show q.elim
  |new _=>show q.elim
 |p+1,e::r,_,Q,.cons h t,q=>by
  cases e with
  |val d=>
   obtain⟨ys,ds,j,a,rfl,f,c,q⟩:_:=Gg (p:=p) t q;show{_::ys,d::ds,j,a,rfl,.cons h f,c,q}
  |cel _=>show q.elim
  |new _=>show q.elim
def akd (R:Ev->Tr->Prop):Ev->Tr->Prop
 | .cel _,_=>False
 |ev,d=>R ev d
def ic (n p:Nat)(g:GR)(ga:GA):GE:=λm Q=>ga m λb a=>T7 p b λds j=>ds.length+1=n/\lk a (.cel j) λd=>g ds d (akd λc d'=>Q c {a.loc,a.cel.set j (KE d')})
def T8 (ok:Wok b W cel)(i:W.C j=KE a)(E:cel[j]?=KE (KE d))(l:Le {W.F,W.H,λk=>if k=0 then KE a else LY} f)(G:∀k,f.C k=if k=0 then KE a else LY)(s:Wok b f [KE d']):Lx W #v[f.F,f.H,W.C]/\Wok b #v[f.F,f.H,W.C] (cel.set j (KE d')):=by
 have y:=cb E;have m:∀{x},x≠a->∀k,(if k=0 then KE a else LY)≠KE x:=λn k z=>by
  split at z
  ·cases z;show n rfl
  ·cases z
 show{{{l.same,λx o e n=>l.fr x o e (m λz=>n j (by rw[i,z])),λx e n=>?_,λk x e=>.inl e,l.dm},λk x e=>e},{s.sub,λk e hk=>?_,λk x e=>?_,ok.dist}}
 ·rcases l.nw x e n with z | ⟨k,z⟩ | z
  ·show .inl z
  ·have p:(if k=0 then KE a else LY)=KE x:=z
   split at p
   ·cases p;show .inr (.inl #v[j,i])
   ·cases p
  ·show .inr (.inr z)
 ·by_cases c:k=j
  ·subst c;rw[cY y]at hk;cases hk;obtain⟨N,g,r,h⟩:_:=s.cell 0 _ rfl;rw[G 0,MF rfl]at g;cases g;show#v[a,i,r,h]
  ·rw[cM (λz=>c z.symm)]at hk;obtain⟨x,g,r,h⟩:_:=ok.cell k e hk;have A:x≠a:=λz=>c (ok.dist k j x g (by rw[z];show i));show{x,g,?_,h.mono l.same λo z=>l.fr x o z (m A)};cases q:f.F x with
   |none=>rfl
   |some u=>
    rcases l.nw x r (by rw[q];show λz=>by cases z)with z | ⟨k,z⟩ | ⟨o,z,I⟩
    ·obtain⟨o,D⟩:_:=h.has;rw[show W.H x=LY from z]at D;cases D
    ·show MJ z (m A k)
    ·show MJ I (h.nimm o z)
 ·obtain⟨J,L⟩:_:=ok.live k x e;by_cases c:k=j
  ·subst c;show{d',cY y}
  ·show{J,by rw[cM (λz=>c z.symm)];show L}
def Eu (h:lf b (ic n p g ga) O H Q):lfA b ga O H λvs T=>spR b n p g (vs++[]) T Q E:=by
 obtain⟨W,m,R,U,Y,h,q⟩:_:=h;show{W,m,_,U,Y,h,λvM m1 c xs h1 l1 f r1=>?_};obtain⟨ys,ds,j,a,rfl,D,ha,hl,h2⟩:_:=Gg r1 h1;obtain⟨d,hd,h3⟩:_:=rf h2;obtain⟨i,G,k1,k2⟩:_:=f.ok.cell j d hd;have ea:=ha i G;subst ea;have EW:Wok b ⟨c.F,c.H,λk=>if k=0 then KE i else LY⟩ [KE d]:=⟨f.ok.sub,λk e hk=>(by
   cases k with
   |zero=>cases hk;show#v[i,rfl,k1,k2]
   |succ k=>simp at hk),λk x e=>(by
   cases k with
   |zero=>show#v[d,rfl]
   |succ k=>
     have l:(if k+1=0 then KE i else LY)=KE x:=e
     rw[MG (qS k)]at l;cases l),λk k' x e l=>by
   have n:∀{j},(if j=0 then KE i else LY)=KE x->j=0:=λ{j} z=>by
     cases j with
     |zero=>rfl
     |succ j=>rw[MG ()]at z;cases z
   rw[n e,n l]⟩
 show{by rw[bX,ud,D.length];show hl,{c.F,c.H,λk=>if k=0 then KE i else LY},ys,ds,d,i,_,rfl,by rw[bX],rfl,EW,D,h3,λev d' r y s l4 c4 BF I=>?_}
 obtain⟨l5,J⟩:_:=T8 f.ok G hd l4 c4 BF;cases ev with
 |cel j=>show s.elim
 |val e=>show q _ _ #v[r.F,r.H,c.C] y s (l1.trans l5) (f.setc l5 (λ_=>rfl) J) I
 |new e=>
  obtain⟨x,rfl,h0,u,h2',A⟩:_:=I;show q _ _ #v[r.F,r.H,c.C] _ s (l1.trans l5) (f.setc l5 (λ_=>rfl) J) {x,rfl,l1.dm x h0,u,λk z=>?_,A};obtain⟨l,he⟩:_:=f.ok.live k x z;obtain⟨x',L,_,q3⟩:_:=f.ok.cell k l he;rw[show c.C k=KE x from z]at L;cases L;obtain⟨o,N⟩:_:=q3.has;rw[show c.H x=LY from h0]at N;cases N
def vcr (F:Fo X.prog X.w X.K X.mg X.base j x ps (spR X.B n pp g))(l:Room k X.A)(m:VA X (e::d) ga)(hk:j<=k:=by decide)(o:Gl X x:=by rfl)
  (q:(x == ("__debug__":Str))=MA:=by decide) (r:aN (e::d) X.env=(MA,eval e X.env)::aN d X.env:=by rfl) (s:(dP i (aN d X.env)).any (·.1)=MA:=by rfl) :
  VE X (.Call (.Name x p) (e::d) [] i) (ic n pp g ga):=by
 show#v[?_];obtain⟨f,fd,F,a,b,c⟩:_:=F;show PE.sub (Bj F (l.mono hk) o a b c .nil yc m.out q r s) λu H Q h=>Eu h
def vfr (F:Fd K mg x st ps f fd)(S:fq N ps (b7 st))
  (a:Rdx P w K mg base N x st f k g)
  (b:Pr p g N.length d ps.length c):Fo P w K mg base (k+1) x ps (spR #v[P,w,K] ps.length p c):=
 .of F (fn_r F.fn S a b)
end
open PyProof.Rows (envOfC)
section
variable {P:aV}{w:bA}{K:aG}{mg:Str->Option aE}{base:MC}{X:Cx}
theorem Gh (f:Str):∀{fs:List (Str×V)}{l:List Tr},Rps b F (fs.map (·.2)) l->(∀d,ij (fs.map (·.1)) l f=KE d->∃x,fs.lookup f=KE x/\Rp b F x d)/\(j8 (fs.map (·.1)) f=MA->fs.lookup f=LY)
 | [],[],.nil=>{λd h=>(by cases h),λ_=>rfl}
 | (g,x)::fs,d::l,.cons h r=>by
  obtain⟨e,i⟩:=Gh f (fs:=fs) r;by_cases c:g=f
  ·subst c;show{λd' h'=>?_,λh'=>?_}
   ·have z:ij (((g,x)::fs).map (·.1)) (d::l) g=KE d:=(by simp[ij,dH]);rw[z]at h';cases h';show{x,by simp[kM],h}
   ·simp[j8]at h'
  ·have a:(f == g)=MA:=beq_eq_false_iff_ne.mpr λz=>c z.symm;show{λd' h'=>?_,λh'=>?_}
   ·have z:ij (((g,x)::fs).map (·.1)) (d::l) f=ij (fs.map (·.1)) l f:=(by simp[ij,dH,c]);rw[z]at h';obtain⟨y,j,m⟩:=e d' h';show{y,by rw[qO,a];show j,m}
   ·rw[qO,a];show i ?_;unfold j8 at h' ⊢;rw[bB,jG,Bool.or_eq_false_iff]at h';show h'.2
def Lv (C:MB)(f:Str)(b:GE):GE:=λm Q=>b m λc a=>lk a c λd=>match d with
 | .obj g ns l=>g=C/\kn (ij ns l f) λe=>Q (.val e) a
 |_=>False
def Ew {C:MB}{f:Str}{o:MD}{i:GE}{g:Pos}(c:Cls X.K C)(l:NoAttr X.K C f)(n:VE X o i)(p:hU o f X.env (eval o X.env)=eval o X.env:=by rfl):VE X (.Attribute o f g) (Lv C f i):=⟨PE.sub (aik n.out p) λU H Q ⟨W,m,R,r,s,h,q⟩=>⟨W,m,_,r,s,h,λY u z x A l1 j D=>by
  obtain⟨d,E,b⟩:=gr j.ok D A
  split at b
  · obtain⟨rfl,b⟩:=b;obtain⟨e,G,I⟩:=i7 b;obtain⟨a,J,fs,rfl,L,rfl,N⟩:=E;obtain⟨y,O,T⟩:=(Gh f N).1 e G;show{a,_,J,fs,y,rfl,L,c,l,O,q _ u z y I l1 j T}
  · show b.elim⟩⟩
structure Mo (P:aV)(w:bA)(K:aG)(mg:Str->Option aE)(base:MC)(k:Nat)(C:MB)(m:Str)(ps:List Str)(sp:Sp):Prop where
 cl:Cls K C
 ex:∃f fd,i5 P w K mg base CX0 k f fd ps sp/\Sy K C m f/\Binds K fd ps []
def Ke (C:MB)(name:Str)(n:Nat)(g:GP)(c:GE)(ga:GA):GE:=λm Q=>c m λa e=>fz e a λd f=>match d with
 | .obj b ns l=>b=C/\j8 ns name=MA/\ga f λh i=>wt h λds=>ds.length+1=n/\g (.obj b ns l::ds) (Kc λa=>Q a i)
 |_=>False
def aax {n:Nat}{xs:List V}{ds:List Tr}{R:Ev->M->Prop}(l:Lx O W)(c:Rel b W m A)(r:Rp b W.F x d)(i:Rps b W.F xs ds)(D:ds.length+1=n)(h:g (d::ds) (Kc λe=>R e m))
  (q:∀e o a x,R e o->Lx O a->Rel b a o A->Rev b O a x e->Q x a.H):spP b n g (x::(xs++[])) W.H Q E:=by
 show{by rw[bX,aZ,i.length];show D,{W.F,W.H,λ_=>LY},d::ds,_,rfl,c.ok.cut,by rw[bX];show .cons r i,h,λe a y f l3 p G s=>?_};obtain⟨l4,u⟩:=Ie c.ok l3 G;cases e with
 |cel j=>show f.elim
 |val d=>show q _ m #v[a.F,a.H,W.C] y f (l.trans l4) (c.lift l4 (λ_=>rfl) u) ((yq c.ok s (λj z=>nomatch z) p).old l.toLe)
 |new d=>show q _ m #v[a.F,a.H,W.C] y f (l.trans l4) (c.lift l4 (λ_=>rfl) u) ((yq c.ok s (λj z=>nomatch z) p).old l.toLe)
def Gi {l b:Pos}(F:Mo X.prog X.w X.K X.mg X.base y C name ps (spP X.B n g))(z:Room k X.A)(D:VE X o G)(I:VA X (e::i) ga)(hk:y<=k:=by decide)
  (J:aN (e::i) X.env=(MA,eval e X.env)::aN i X.env:=by rfl) (L:(dP b (aN i X.env)).any (·.1)=MA:=by rfl)
  (N:eval (.Call (.Attribute o name l) (e::i) [] b) X.env=(do
    let p <-eval o X.env
    oV l.atName
    let (f,first) <-jZ [p] (pI p name pl)
    tW b f first (dP b (aN (e::i) X.env)) (nI b (kN [] X.env))):=by rfl) :
  VE X (.Call (.Attribute o name l) (e::i) [] b) (Ke C name n g G ga):=by
 show#v[?_];obtain⟨c,f,fd,F,mt,bd⟩:=F;show PE.sub (aef (pl:=pl) (E:=E0) D.out c mt F (z.mono hk) bd .nil yc I.out J L N) λσ H Q ⟨W,m,R,O,T,h,q⟩=>⟨W,m,_,O,T,h,λev m1 W1 x U l1 Y r1=>by
   obtain⟨d,m2,W2,j,l2,r,s,u⟩:=mr l1 Y r1 U
   split at j
   · obtain⟨rfl,hn,j⟩:=j;obtain⟨a,dx,fs,rfl,k1,rfl,k2⟩:=Top.of (W:=W2) u s.ok.sub;show{a,dx,fs,rfl,by rw[<-r];show k1,(Gh name k2).2 hn,?_};rw[<-r];show{W2,m2,_,rfl,s,j,λvM m3 W3 xs h3 l3 wH r3=>?_};obtain⟨ds,rr,hl,h4⟩:=nv r3 h3;show aax (l2.trans l3) wH (u.mono l3.same) rr hl h4 q
   · show j.elim⟩
def T9 (C:MB)(i:Nat)(f:Str)(g:GE):GS:=λE m=>g m λh n=>fz n h λe a=>match a.loc[i]? with
 |some (KE (.c j))=>lk a (.cel j) λd=>(match d with
   | .obj b ns l=>b=C/\j8 ns f=MA/\ns.length < 1000/\E.nx {a.loc,a.cel.set j (KE (.obj b (ns++[f]) (l++[e])))}
   |_=>False)
 |_=>False
theorem Lw:∀{fs},j8 (fs.map (·.1)) f=MA->j6 f v fs=fs++[(f,v)]
 | [],_=>rfl
 | (g,x)::fs,h=>by
  unfold j8 at h;rw[bB,jG,Bool.or_eq_false_iff]at h;have c:¬g=f:=of_decide_eq_false h.1;rw[j6,MG c,Lw (fs:=fs) h.2];rfl
def Xo (c:Cls X.K C)(G:NoAttr X.K C f)(I:X.N[i]?=KE x)(J:Vis X.env.scope x)(L:VE X e Q)(hs:kA e (KE (.Attribute (.Name x p) f T)) q.line X.env=pure MA:=by rfl)
  (hd:(x == ("__debug__":Str))=MA:=by decide) (U:(x == ("__classdict__":Str))=MA:=by decide):VS X (.Assign [.Attribute (.Name x p) f T] e q) (T9 C i f Q):=⟨λO=>PS.sub (ail (ug I J hd U) L.out hs) λD σ H ⟨W,m,E,Y,l,uS,h,n,_⟩=>⟨W,m,_,Y,uS,h,λev m1 W1 y h1 l1 uR r1=>by
  obtain⟨d0,m2,W2,r,l2,e2,g,r2⟩:=mr l1 uR r1 h1
  split at r
  · rename_i j hj
    obtain⟨z,q1,a,rfl,u⟩:=g.loc i _ hj;show{_,q1,?_};obtain⟨d,hd,b⟩:=rf r
    split at b
    · obtain⟨rfl,hk,hz,b⟩:=b;obtain⟨a',A,k1,s,fs,k2,rfl,k3⟩:=g.ok.cell j _ hd;rw[u]at A;cases A;rw[<-e2];show⟨a,_,s,fs,rfl,k2,c,G,by rw[<-aC (f:=(·.1))];show hz,?_⟩;rw[Lw hk];obtain⟨l3,yK⟩:=jf (d':=.obj _ (fs.map (·.1)++[f]) (_++[d0])) (o:=.ins _ s (fs++[(f,y)])) g.ok u hd {s,_,bp,by rw[bI];rfl,by rw[bI];show k3.append (.cons r2 .nil)};show n _ _ _ b (l.trans (l2.trans l3).toLe) (Same.tr l2.same l3.same) (g.setc l3 (λ_=>rfl) yK)
    · show b.elim
  · show r.elim⟩⟩
structure Ko (P:aV)(w:bA)(K:aG)(mg:Str->Option aE)(base:MC)(k:Nat)(x:Str)(C:MB)(ps:List Str)(sp:Sp):Prop where
 ex:∃f fd,Mk K C f/\i5 P w K mg base CX0 k f fd ps sp/\mg x=KE (.ref C)/\Binds K fd ps []
def adh:Ev->Prop
 | .val (.v .non)=>True
 |_=>False
def adi (C:MB)(n:Nat)(g:GR)(ga:GA):GE:=λm Q=>ga m λa b=>wt a λds=>ds.length+1=n/\g ds (.obj C [] []) λc d'=>adh c/\Q (.new d') b
def agi (F:Ko X.prog X.w X.K X.mg X.base kc x C ps (spR X.B n 0 g))(hr:Room k X.A)(ha:VA X (e::L) ga)(hk:kc+1<=k:=by decide)(hg:Gl X x:=by rfl)
  (xW:(x == ("__debug__":Str))=MA:=by decide) (he:aN (e::L) X.env=(MA,eval e X.env)::aN L X.env:=by rfl) (wM:(dP O (aN L X.env)).any (·.1)=MA:=by rfl) :
  VE X (.Call (.Name x p) (e::L) [] O) (adi C n g ga):=by
 show#v[?_];obtain⟨f,fd,M,F,hm,bd⟩:=F;show PE.sub (aeg M F (hr.mono hk) hg hm bd .nil yc ha.out xW he wM) λσ H Q ⟨W,m,R,hW,uS,h,q⟩=>⟨W,m,_,hW,uS,h,λvM m1 b xs h1 l1 c r1=>by
   obtain⟨ds,rr,hl,h2⟩:=nv r1 h1;intro y l d T ne;have fy:=c.ok.Fn d;have i:∀{a u},b.H a=KE u->upd (upd b.H l (.own y)) y (.ins C l []) a=KE u:=λ{a u} e=>(by rw[bc (cf e d),bc (cf e T)];show e);have EW:Wok X.B ⟨b.F,upd (upd b.H l (.own y)) y (.ins C l []),λk=>if k=0 then KE y else LY⟩ [KE (.obj C [] [])]:=⟨λa u e=>i (c.ok.sub a u e),λk e hk=>(by
     cases k with
     |zero=>cases hk;show{y,rfl,fy,l,[],bp,rfl,.nil}
     |succ k=>simp at hk),λk a e=>(by
     cases k with
     |zero=>show{_,rfl}
     |succ k=>
       have D:(if k+1=0 then KE y else LY)=KE a:=e
       rw[MG (qS k)]at D;cases D),λk k' a e D=>by
     have n:∀{j},(if j=0 then KE y else LY)=KE a->j=0:=λ{j} z=>by
       cases j with
       |zero=>rfl
       |succ j=>rw[MG ()]at z;cases z
     rw[n e,n D]⟩
   show{by rw[bX,aZ,rr.length];show hl,{b.F,upd (upd b.H l (.own y)) y (.ins C l []),λk=>if k=0 then KE y else LY},xs,ds,.obj C [] [],y,_,rfl,by rw[bX];rfl,rfl,EW,rr,h2,λev d' r v E l3 c3 yK r3=>?_}
   have vn:v=.non:=by
     obtain⟨E,_⟩:=E;unfold adh at E
     split at E
     · show(Rp.vI r3).1
     · show E.elim
   obtain⟨y',q1,q2,q3⟩:=yK.cell 0 d' rfl;rw[c3 0]at q1;cases(show KE y=KE y' from q1);have U:∀{a},a≠y->∀k,(if k=0 then KE y else LY)≠KE a:=λn k z=>by
     split at z
     · cases z;show n rfl
     · cases z
   have lx:Lx b ⟨r.F,r.H,b.C⟩:=by
     show{{l3.same,λa u e n=>l3.fr a u (i e) (U (cf e d)),λa e n=>?_,λk a e=>.inl e,λa z=>?_},λk a e=>e}
     · rcases l3.nw a e n with z | ⟨k,z⟩ | ⟨o,z,Y⟩
       · show .inl ?_;cases G:b.H a with
         |none=>rfl
         |some u=>cases(show KE u=LY from(i G).symm.trans z)
       · have I:(if k=0 then KE y else LY)=KE a:=z
         split at I
         · cases I;show .inl d
         · cases I
       · cases G:b.H a with
         |none=>show .inl rfl
         |some u=>cases(show KE u=KE o from(i G).symm.trans z);show .inr (.inr {_,rfl,Y})
     · have I:=l3.dm a z;cases G:b.H a with
       |none=>rfl
       |some u=>cases(show KE u=LY from(i G).symm.trans I)
   have okc:Wok X.B ⟨r.F,r.H,b.C⟩ m1.cel:=by
     show{yK.sub,λk e hk=>?_,c.ok.live,c.ok.dist};obtain⟨a,N,p2,J⟩:=c.ok.cell k e hk;obtain⟨o,s⟩:=J.has;show{a,N,?_,J.mono l3.same λu z=>l3.fr a u (i z) (U (cf z d))};cases qf:r.F a with
     |none=>rfl
     |some u=>
       rcases l3.nw a p2 (by rw[qf];show λz=>by cases z)with z | ⟨k,z⟩ | ⟨o',z,Y⟩
       · cases(show KE o=LY from(i s).symm.trans z)
       · show MJ z (U (cf s d) k)
       · cases(show KE o=KE o' from(i s).symm.trans z);show MJ Y (J.nimm _ s)
   show{vn,q _ m1 #v[r.F,r.H,b.C] _ E.2 (l1.trans lx) (c.lift lx (λ_=>rfl) okc) {y,rfl,l1.dm y d,q2,λk z=>?_,q3}};obtain⟨D,BW⟩:=c.ok.live k y z;obtain⟨x',N,_,J⟩:=c.ok.cell k D BW;rw[show b.C k=KE y from z]at N;cases N;obtain⟨o,s⟩:=J.has;rw[d]at s;cases s⟩
end
end VL
namespace Bits
open PySem
def Ly (a b:Nat):(2 * a) &&& (2 * b+1)=2 * (a &&& b):=by
 apply lC;intro i;cases i with
 |zero=>simp
 |succ i=>
  rw[kK,gK,gK,gK,show 2 * a / 2=a by lia,show(2 * b+1) / 2=b by lia,show 2 * (a &&& b) / 2=a &&& b by lia,kK]
def Ry (a b:Nat):(2 * a+1) &&& (2 * b)=2 * (a &&& b):=by
 rw[Nat.and_comm,Ly,Nat.and_comm]
def agj (a b:Nat):(2 * a) &&& (2 * b)=2 * (a &&& b):=by
 apply lC;intro i;cases i with
 |zero=>simp
 |succ i=>
  rw[kK,gK,gK,gK,show 2 * a / 2=a by lia,show 2 * b / 2=b by lia,show 2 * (a &&& b) / 2=a &&& b by lia,kK]
def agk:∀m,0 < m->∃k,m - (m &&& (m - 1))=2 ^ k/\2 ^ k<=m/\m &&& 2 ^ k=2 ^ k:=by
 intro m
 induction m using Nat.strongRecOn with
 |ind m a=>
  intro c;rcases Nat.mod_two_eq_zero_or_one m with h | h
  ·obtain⟨q,rfl⟩:∃q,m=2 * q:={m / 2,()};obtain⟨k,d,f,b⟩:=a q () ();have e:2 * q - 1=2 * (q - 1)+1:=();show{k+1,?_,?_,?_}
   ·rw[e,Ly,lZ];lia
   ·rw[lZ];lia
   ·rw[lZ,lX (2 ^ k) 2,agj,b]
  ·obtain⟨q,rfl⟩:∃q,m=2 * q+1:={m / 2,()};show{0,?_,?_,?_}
   ·have e:2 * q+1 - 1=2 * q:=();rw[e,Ry,Nat.and_self];lia
   ·rw[Nat.pow_zero];lia
   ·rw[Nat.pow_zero];have:=Ry q 0;apply lC;intro i;cases i with
    |zero=>simp
    |succ i=>simp[gK]
def Mask (n:Nat)(m:Int):Prop:=0<=m/\m < 2 ^ n
def kq (h:Mask n m):∃k:Nat,m=(k:Int)/\k < 2 ^ n:=by
 obtain⟨h0,a⟩:=h;show{m.toNat,(),?_};have:((2:Int) ^ n)=((2 ^ n:Nat):Int):=∅;rw[this]at a;lia
def Ex {n k:Nat}(h:k < 2 ^ n):Mask n (k:Int):=by
 show{(),?_};have:((2:Int) ^ n)=((2 ^ n:Nat):Int):=∅;rw[this];lia
def Xp (n:Nat):Mask n 0:=Ex (k:=0) (oH n)
def aay {n k:Nat}(h:k < n):Mask n (2 ^ k):=by
 have e:((2:Int) ^ k)=((2 ^ k:Nat):Int):=∅;rw[e];show Ex (Nat.pow_lt_pow_right (by decide) h)
def Xq (a b:Nat):dR (a:Int) (b:Int)=((a ||| b:Nat):Int):=by
 unfold dR eC rQ;have c:decide (0<=-(a:Int) - 1)=MA:=(by simp;lia);have d:decide (0<=-(b:Int) - 1)=MA:=(by simp;lia);rw[c,d];dsimp only;have e:(-(-(a:Int) - 1) - 1).toNat=a:=();have f:(-(-(b:Int) - 1) - 1).toNat=b:=();rw[e,f];lia
def agl {n:Nat}{a b:Int}(c:Mask n a)(d:Mask n b):Mask n (dR a b):=by
 obtain⟨x,rfl,e⟩:=kq c;obtain⟨y,rfl,f⟩:=kq d;rw[Xq];show Ex (Nat.or_lt_two_pow e f)
def Rz (a b:Nat):eC (a:Int) (b:Int)=((a &&& b:Nat):Int):=by
 rw[PyProof.Rows.bitAnd_pp () ()];rfl
def MaskP (n:Nat)(m:Int)(p:Nat->Prop):Prop:=Mask n m/\∀j,j < n->(m.toNat.testBit j=LZ↔p j)
def MaskP.iff (h:MaskP n m p)(e:∀j,j < n->(p j↔q j)):MaskP n m q:=
 {h.1,λj a=>(h.2 j a).trans (e j a)}
def jz (n:Nat):MaskP n 0 (λ_=>False):={Xp n,λj _=>by simp}
def agm (k:Nat):((2:Int) ^ k).toNat=2 ^ k:=by
 have e:((2:Int) ^ k)=((2 ^ k:Nat):Int):=∅;rw[e,bZ]
def rj (h:k < n):MaskP n (2 ^ k) (λj=>j=k):=⟨aay h,λj _=>by
  rw[agm,Nat.testBit_two_pow];simp[eq_comm]⟩
def vb (c:MaskP n a p)(d:MaskP n b q):MaskP n (dR a b) (λj=>p j\/q j):=by
 show{agl c.1 d.1,λj e=>?_};have f:=c.2 j e;have g:=d.2 j e;obtain⟨x,rfl,h⟩:=kq c.1;obtain⟨y,rfl,i⟩:=kq d.1;rw[Xq,bZ,Nat.testBit_or,lM];rw[bZ]at f g;rw[f,g]
def MaskP.uniq (c:MaskP n a p)(d:MaskP n b p):a=b:=by
 have e:=c.2;have f:=d.2;obtain⟨x,rfl,h⟩:=kq c.1;obtain⟨y,rfl,i⟩:=kq d.1;rw[bZ]at e f;congr 1;apply lC;intro j;by_cases g:j < n
 ·have:=(e j g).trans (f j g).symm;cases l:x.testBit j<;>cases m:y.testBit j<;>simp_all
 ·have o:2 ^ n<=2 ^ j:=Nat.pow_le_pow_right (by decide) ();rw[Nat.testBit_lt_two_pow (),Nat.testBit_lt_two_pow ()]
def MaskP.zero_iff (c:MaskP n a p):a=0↔∀j,j < n->¬p j:=by
 constructor
 ·intro d j b h;subst d;have:=(c.2 j b).mpr h;simp at this
 ·intro h;show c.uniq ((jz n).iff λj b=>{λz=>z.elim,λz=>h j b z})
def agn (x k:Nat)(h:x &&& 2 ^ k=2 ^ k)(j:Nat):(x - 2 ^ k).testBit j=(x.testBit j && decide (j≠k)):=by
 have i:x.testBit k=LZ:=by
  have:=ML (λz=>Nat.testBit z k) h;simp only[kK,Nat.testBit_two_pow_self,nH]at this;show this
 have l:=oH k;have m:x / 2 ^ k % 2=1:=by
  rw[Nat.testBit_eq_decide_div_mod_eq]at i;show of_decide_eq_true i
 have ex:=Nat.div_add_mod x (2 ^ k);have g:x % 2 ^ k < 2 ^ k:=kI _ l;generalize x / 2 ^ k=a at m ex;generalize x % 2 ^ k=b at ex g;obtain⟨c,rfl⟩:∃c,a=2 * c+1:={a / 2,()};have n:x - 2 ^ k=2 ^ k * (2 * c)+b:=by
  rw[<-ex,Nat.mul_add,Nat.mul_one];lia
 rw[n,<-ex,Nat.testBit_two_pow_mul_add _ g,Nat.testBit_two_pow_mul_add _ g];by_cases f:j < k
 ·rw[MF f,MF f];have:decide (j≠k)=LZ:=(by simp;lia);rw[this,nH]
 ·rw[MG f,MG f];by_cases e:j=k
  ·subst e;simp
  ·obtain⟨d,rfl⟩:∃d,j=k+(d+1):={j - k - 1,()};have o:k+(d+1) - k=d+1:=();rw[o,gK,gK,show 2 * c / 2=c by lia,show(2 * c+1) / 2=c by lia];have:decide (k+(d+1)≠k)=LZ:=∅;rw[this,nH]
def Xr (h:MaskP n m p)(h0:m≠0):∃k:Nat,eC m (-m)=2 ^ k/\k < n/\p k/\MaskP n (jP m (2 ^ k)) (λj=>p j/\j≠k)/\jP m (2 ^ k) < m:=by
 have a:=h.2;obtain⟨x,rfl,d⟩:=kq h.1;have f:0 < x:=();obtain⟨k,g,i,b⟩:=agk x f;have hk:k < n:=(Nat.pow_lt_pow_iff_right (by decide)).mp (Nat.lt_of_le_of_lt i d);have e:((2:Int) ^ k)=((2 ^ k:Nat):Int):=∅;rw[bZ]at a;have l:x.testBit k=LZ:=by
  have:=ML (λz=>Nat.testBit z k) b;simp only[kK,Nat.testBit_two_pow_self,nH]at this;show this
 have c:jP (x:Int) (2 ^ k)=((x - 2 ^ k:Nat):Int):=by
  rw[e,PyProof.Rows.bitXor_and,Rz,b];lia
 show{k,?_,hk,(a k hk).mp l,?_,?_}
 ·rw[PyProof.Rows.bitAnd_pn () ()];have o:(rQ (-(x:Int))).toNat=x - 1:=(by unfold rQ;lia);rw[o,e,<-g];have:=Nat.and_le_left (n:=x) (m:=x - 1);simp only[bZ];lia
 ·rw[c];show{Ex (),λj q=>?_};rw[bZ,agn x k b j,cO,a j q,decide_eq_true_iff]
 ·rw[c];have:0 < 2 ^ k:=oH k;lia
def Xs (h:Mask n m)(j:Nat):(eC (m / 2 ^ ((j:Int)).toNat) 1 != 0)=m.toNat.testBit j:=by
 obtain⟨x,rfl,a⟩:=kq h;rw[bZ,bZ];have e:((x:Int)) / 2 ^ j=((x / 2 ^ j:Nat):Int):=∅;rw[e,show(1:Int)=((1:Nat):Int)from rfl,Rz,Nat.and_one_is_mod,Nat.testBit_eq_decide_div_mod_eq];have:=Nat.mod_two_eq_zero_or_one (x / 2 ^ j);rcases this with z | z<;>rw[z]<;>simp
def RelP (n:Nat)(ns:List Int)(R:Nat->Nat->Prop):Prop:=ns.length=n/\∀i m,ns[i]?=KE m->MaskP n m (R i)
theorem RelP.iff (h:RelP n ns R)(e:∀i j,i < n->j < n->(R i j↔S i j)):RelP n ns S:=
 {h.1,λi m a=>(h.2 i m a).iff λj b=>e i j (by rw[<-h.1];show(bH.mp a).1) b}
def RelP.mask (h:RelP n ns R)(a:m∈ns):Mask n m:=by
 obtain⟨i,hi⟩:=kW.mp a;show(h.2 i m hi).1
def RelP.at (h:RelP n ns R)(hk:k < n):∃m,ns[k]?=KE m/\MaskP n m (R k):=by
 have a:k < ns.length:=(by rw[h.1];show hk);show{ns[k],aB a,h.2 k _ (aB a)}
inductive Star (n:Nat)(R:Nat->Nat->Prop):Nat->Nat->Prop
 |refl {i:Nat}:Star n R i i
 |step {i k j:Nat}:R i k->k < n->Star n R k j->Star n R i j
def Star.trans (a:Star n R i j)(b:Star n R j k):Star n R i k:=by
 induction a with
 |refl=>show b
 |step r h _ c=>show .step r h (c b)
inductive Thru (n:Nat)(R:Nat->Nat->Prop)(m:Nat):Nat->Nat->Prop
 |refl {i:Nat}:Thru n R m i i
 |one {i j:Nat}:R i j->Thru n R m i j
 |step {i k j:Nat}:k < n->k < m->Thru n R m i k->Thru n R m k j->Thru n R m i j
def Thru.zero:Thru n R 0 i j↔j=i\/R i j:=by
 constructor
 ·intro h;cases h with
  |refl=>show .inl rfl
  |one r=>show .inr r
  |step _ h _ _=>show MJ h (iI _)
 ·rintro(rfl | h)
  ·show .refl
  ·show .one h
def Thru.mono (e:m<=a)(h:Thru n R m i j):Thru n R a i j:=by
 induction h with
 |refl=>show .refl
 |one r=>show .one r
 |step b f _ _ c d=>show .step b () c d
def Thru.succ (g:m < n):Thru n R (m+1) i j↔Thru n R m i j\/(Thru n R m i m/\Thru n R m m j):=by
 constructor
 ·intro h
  induction h with
  |refl=>show .inl .refl
  |one r=>show .inl (.one r)
  |@step i k j c l _ _ e f=>
   by_cases hk:k=m
   ·subst hk;show .inr {?_,?_}
    ·rcases e with a | a
     ·show a
     ·show a.1
    ·rcases f with a | a
     ·show a
     ·show a.2
   ·have d:k < m:=();rcases e with a | a<;>rcases f with b | b
    ·show .inl (.step c d a b)
    ·show .inr {.step c d a b.1,b.2}
    ·show .inr {a.1,.step c d a.2 b}
    ·show .inr #v[a.1,b.2]
 ·rintro(a | ⟨a,b⟩)
  ·show a.mono ()
  ·show .step g () (a.mono ()) (b.mono ())
def Thru.star (a:j < n):Thru n R n i j↔Star n R i j:=by
 constructor
 ·intro h
  induction h with
  |refl=>show .refl
  |one r=>show .step r a .refl
  |step b _ _ _ c d=>show(c b).trans (d a)
 ·intro h
  induction h with
  |refl=>show .refl
  |step r h _ e=>show .step h h (.one r) (e a)
def pick {a:Type}(m:Int)(xs:List a)(k:Nat):List a:=(bE k).filterMap λi=>if m.toNat.testBit i=LZ then xs[i]? else LY
def Xt (m:Int)(xs:List a):pick m xs 0=[]:=rfl
def Lz {a:Type}{m:Int}{xs:List a}{k:Nat}{x:a}(h:m.toNat.testBit k=LZ)(e:xs[k]?=KE x):pick m xs (k+1)=pick m xs k++[x]:=by
 unfold pick;rw[kD,nQ];simp[h,e]
def R0 {a:Type}{m:Int}{xs:List a}{k:Nat}(h:m.toNat.testBit k=MA):pick m xs (k+1)=pick m xs k:=by
 unfold pick;rw[kD,nQ];simp[h]
end Bits
namespace S1
def longer (a:List (List Int))(c:Nat):List (List Int):=a.flatMap λl=>(bE c).map λ(v:Nat)=>l++[(v:Int)]
def ir (a:List (List Int))(cs:List Nat):List (List Int):=cs.foldl longer a
def mul (cs:List Nat):Nat:=cs.foldl (· * ·) 1
def sj (a:List (List Int))(c:Nat):(longer a c).length=a.length * c:=by
 induction a with
 |nil=>simp[longer]
 |cons l r b=>
  have e:longer (l::r) c=((bE c).map λ(v:Nat)=>l++[(v:Int)])++longer r c:=(by simp[longer,qE]);rw[e,aI,b,aC,cA,aZ,Nat.succ_mul,oC]
theorem Cv:∀cs a,(ir a cs).length=cs.foldl (· * ·) a.length
 | [],_=>rfl
 |c::r,a=>by
  change(ir (longer a c) r).length=r.foldl (· * ·) (a.length * c);rw[Cv r,sj]
structure Good (cs:List Nat)(ls:List (List Int)):Prop where
 wide:∀l∈ls,l.length=cs.length
 rng:∀l∈ls,∀(i:Nat)(v:Int),l[i]?=KE v->∃c,cs[i]?=KE c/\0<=v/\v < (c:Int)
 ord:ls.Pairwise λa b=>HT.lexLt a b=LZ
theorem L0:∀a x y,x < y->HT.lexLt (a++[x]) (a++[y])=LZ
 | [],x,y,h=>by
  change HT.lexLt [x] [y]=LZ;rw[HT.lexLt_cons,MG ()];show MI h
 |z::r,x,y,h=>by
  change HT.lexLt (z::(r++[x])) (z::(r++[y]))=LZ;rw[HT.lexLt_cons,MF rfl];show L0 r x y h
theorem R1:∀a b x y,a.length=b.length->HT.lexLt a b=LZ->HT.lexLt (a++[x]) (b++[y])=LZ
 | [],[],_,_,_,h=>by cases h
 | [],_::_,_,_,e,_=>by cases e
 |_::_,[],_,_,e,_=>by cases e
 |p::r,q::t,x,y,e,h=>by
  have d:r.length=t.length:=(by simpa using e);change HT.lexLt (p::(r++[x])) (q::(t++[y]))=LZ;rw[HT.lexLt_cons]at h ⊢;by_cases c:p=q
  ·rw[MF c]at h ⊢;show R1 r t x y d h
  ·rw[MG c]at h ⊢;show h
def tu {a:List (List Int)}{c:Nat}{m:List Int}(h:m∈longer a c):∃l∈a,∃v:Nat,v < c/\m=l++[(v:Int)]:=by
 obtain⟨l,b,h⟩:=List.mem_flatMap.mp h;obtain⟨v,d,e⟩:=dA.mp h;show{l,b,v,dI.mp d,e.symm}
theorem Good.longer (g:Good cs ls)(c:Nat):Good (cs++[c]) (longer ls c) where
 wide:=λm hm=>by
  obtain⟨l,hl,v,hv,rfl⟩:=tu hm;rw[aI,aI,g.wide l hl];rfl
 rng:=λm hm i v hi=>by
  obtain⟨l,hl,w,hw,rfl⟩:=tu hm;have wl:=g.wide l hl;rcases Nat.lt_trichotomy i l.length with q | q | q
  ·rw[bS q]at hi;obtain⟨c',hc,r⟩:=g.rng l hl i v hi;show{c',by rw[bS ()];show hc,r}
  ·subst q;have e:v=(w:Int):=(by simpa using hi.symm);show{c,by rw[wl];simp,(),()}
  ·rw[bR (by rw[aI,cT];lia)]at hi;cases hi
 ord:=by
  have w:=g.wide;have o:=g.ord;clear g
  induction ls with
  |nil=>show jI
  |cons l r ih=>
   have e:S1.longer (l::r) c=((bE c).map λ(v:Nat)=>l++[(v:Int)])++S1.longer r c:=(by simp[S1.longer,qE]);obtain⟨o1,o2⟩:=iB.mp o;rw[e,List.pairwise_append];show{?_,ih (λm hm=>w m (aP _ hm)) o2,?_}
   ·rw[List.pairwise_map];show List.Pairwise.imp (R:=λ(a b:Nat)=>a < b) (λ{a b} h=>L0 l (a:Int) (b:Int) ()) List.pairwise_lt_range
   ·intro a ha b hb;obtain⟨v,hv,rfl⟩:=dA.mp ha;obtain⟨m,hm,u,hu,rfl⟩:=tu hb;show R1 l m _ _ (by rw[w l aQ,w m (aP _ hm)]) (o1 m hm)
def Good.start:Good [] [[]] where
 wide:=λl hl=>by rw[bC.mp hl];rfl
 rng:=λl hl i v hi=>by rw[bC.mp hl]at hi;cases i<;>cases hi
 ord:=mN _ _
theorem Good.all:∀(r cs:List Nat) {ls:List (List Int)},Good cs ls->Good (cs++r) (ir ls r)
 | [],cs,ls,g=>by rw[bX];show g
 |c::r,cs,ls,g=>by
  have q:=Good.all r (cs++[c]) (g.longer c);rw[dY]at q;show q
def df (cs:List Nat):List (List Int):=ir [[]] cs
def fv (cs:List Nat):Good cs (df cs):=Good.all cs [] Good.start
def xw (cs:List Nat):(df cs).length=mul cs:=Cv cs [[]]
def L1 (cs:List Nat)(c:Nat):df (cs++[c])=longer (df cs) c:=by
 simp[df,ir,kR]
theorem L3:∀(cs:List Nat)(k:Nat),(∀c∈cs,c<=6)->cs.foldl (· * ·) k<=k * 6 ^ cs.length
 | [],k,_=>by simp
 |c::r,k,h=>by
  have q:=L3 r (k * c) λd hd=>h d (aP _ hd);have a:=h c aQ;change r.foldl (· * ·) (k * c)<=k * 6 ^ (r.length+1);show bK q ?_;rw[lZ,pU,lX (6 ^ r.length) 6];show Nat.mul_le_mul_left _ (Nat.mul_le_mul_right _ a)
def ake (cs:List Nat)(h:∀c∈cs,c<=6):mul cs<=6 ^ cs.length:=by
 have q:=L3 cs 1 h
 rwa [Nat.one_mul]at q
end S1
namespace PB
open PySem L2 VL Bits
abbrev iL (ns:List Int):Tr:=.lst (ns.map λn=>Tr.v (.int n))
abbrev Rl:=Nat->Nat->Prop
def orR (_:Nat)(R S:Rl):Rl:=λi j=>R i j\/S i j
def o6 (n:Nat)(R S:Rl):Rl:=λi j=>∃k,k < n/\R i k/\S k j
def L4 (n:Nat)(R:Rl):Rl:=λi j=>j=i/\∀k,k < n->¬R i k
def Dm (n:Nat)(S:Rl)(R:Ev->Prop):Prop:=∀ns,RelP n ns S->R (.new (iL ns))
def OutV (n:Nat)(S:Rl)(R:Ev->Prop):Prop:=∀ns,RelP n ns S->R (.val (iL ns))
def bg (h:Nat.ble n 1000000=LZ):n<=1000000:=Nat.le_of_ble_eq_true h
def bh {a:Type}{l:List a}{i:Nat}{x:a}(h:l[i]?=KE x):atI l (i:Int)=KE x:=by
 have b:=cb h;unfold atI ixN;rw[MF (lP _),MF (by exact_mod_cast b)];simpa using h
def Xu:GS:=(ax (gOp ux (gLst (gA1 (gI 0))) (aa 0)))
def ny:GP:=λds R=>∃n:Nat,ds=[.v (.int n)]/\n<=300/\Dm n (λ_ _=>False) R
def Gj (n:Nat)(x:Tr):(aY n [x]).flatten=aY n x:=by
 induction n with
 |zero=>rfl
 |succ n a=>rw[fH,iM,a,fH];rfl
def Xv:Pm (Xu) 1 1 1 (ny):=by
 intro ds R b h;obtain⟨n,rfl,c,q⟩:=h;show{by decide,by change(-1000000:Int)<=(n:Int);lia,by change(n:Int)<=1000000;lia,by change 1 * ((n:Int)).toNat<=1000000;lia,?_};change R (.new (.lst (aY ((n:Int)).toNat [Tr.v (.int 0)]).flatten));rw[Gj,bZ,<-List.map_replicate (f:=λn=>Tr.v (.int n)) (a:=0)];show q _ {by simp,λi m e=>by rw[dS]at e;split at e<;>cases e;show jz n}
def Ua:GS:=(ax (cv 1 [] (giR (gA1 (aa 0))) (.one 0) dh (gOp (ie Fh λi j=>.int (i * 2 ^ j.toNat)) (gI 1) (aa 0))))
def k9:GP:=λds R=>∃n:Nat,ds=[.v (.int n)]/\n<=300/\Dm n (λi j=>j=i) R
def rk {n:Nat}:jg 0 ((n:Int)).toNat=(bE n).map λi:Nat=>Tr.v (.int (i:Int)):=by rw[bZ,va]
def ku {a:Type}(l:List a)(g:a->Int):(l.map λx=>Tr.v (.int (g x)))=(l.map g).map λn=>Tr.v (.int n):=by rw[dQ];rfl
def Ub:Pm (Ua) 1 1 1 (k9):=by
 intro ds R b h;obtain⟨n,rfl,c,q⟩:=h;show{by change(-1000000:Int)<=(n:Int);lia,by change(n:Int)<=1000000;lia,?_};change dg _ _ _ _ _ _ _ (jg 0 ((n:Int)).toNat) _ _;rw[rk];show cj (out:=λi:Nat=>Tr.v (.int (2 ^ i))) rfl _ _ (by simp;lia) (λi hi Y a=>?_) ?_
 ·have d:=dI.mp hi;show{{by change(0:Int)<=(i:Int);lia,by change(i:Int)<=1000000;lia,by decide},?_};change Y (.v (.int (1 * 2 ^ ((i:Int)).toNat))) _;rw[rL,bZ];show a
 ·change R (.new (.lst ([]++(bE n).map λi:Nat=>Tr.v (.int (2 ^ i)))));rw[bM,ku];show q _ {by simp,λi m e=>?_};rw[aK]at e;by_cases hi:i < n
  ·rw[cG hi]at e;cases e;show rj hi
  ·rw[bR (by simpa using hi)]at e;cases e
def aaz (ns c:List Int):prs (ns.map λn=>Tr.v (.int n)) (c.map λn=>Tr.v (.int n))=(ns.zip c).map λp=>Tr.tup [.v (.int p.1),.v (.int p.2)]:=by
 unfold prs
 induction ns generalizing c with
 |nil=>rfl
 |cons a ns d=>cases c with
  |nil=>rfl
  |cons b c=>rw[bB,bB,List.zipWith_cons_cons,d];rfl
def Os:GS:=(ax (cv 2 [] (T3 (gaV (aa 0) (gA1 (aa 1)))) (.tup [0,1]) dh (gOp (du λi j=>.int (dR i j)) (aa 0) (aa 1))))
def mj:GP:=λds R=>∃n ns a A B,ds=[iL ns,iL a]/\RelP n ns A/\RelP n a B/\n<=300/\Dm n (orR n A B) R
def Ot:Pm (Os) 2 1 2 (mj):=by
 intro ds R r h;obtain⟨n,ns,f,A,B,rfl,c,d,s,q⟩:=h;change dg _ _ _ _ _ _ _ (prs _ _) _ _;rw[aaz];show cj (out:=λp:Int×Int=>Tr.v (.int (dR p.1 p.2))) rfl _ _ (by simp[c.1,d.1];lia) (λp u Y g=>g) ?_;change R (.new (.lst ([]++(ns.zip f).map λp=>Tr.v (.int (dR p.1 p.2)))));rw[bM,ku];show q _ {by simp[c.1,d.1],λi m e=>?_};rw[aK]at e;obtain⟨⟨a,b⟩,j,rfl⟩:=dN.mp e;obtain⟨l,o⟩:=List.getElem?_zip_eq_some.mp j;show vb (c.2 i a l) (d.2 i b o)
def Uc (ns:List Int):jy (ns.map λn=>Tr.v (.int n))=(bE ns.length).map λi:Nat=>Tr.tup [.v (.int (i:Int)),.v (.int (ns.getD i 0))]:=by
 show eX λi=>?_;unfold jy;rw[oO,aK,aK];by_cases hi:i < ns.length
 ·rw[cG hi,aB hi];simp[cF,aB hi]
 ·rw[bR (),bR (by simpa using hi)];rfl
def Ey:GS:=(ax (cv 2 [] (T4 (gA1 (aa 0))) (.tup [0,1]) dh (gIf (gn (aa 1)) (gI 0) (gOp (ie Fh λi j=>.int (i * 2 ^ j.toNat)) (gI 1) (aa 0)))))
def o7:GP:=λds R=>∃n ns A,ds=[iL ns]/\RelP n ns A/\n<=300/\Dm n (L4 n A) R
def Ez:Pm (Ey) 1 1 1 (o7):=by
 intro ds R l h;obtain⟨n,ns,A,rfl,a,o,q⟩:=h;change dg _ _ _ _ _ _ _ (jy _) _ _;rw[Uc];show cj (out:=λi:Nat=>Tr.v (.int (if ns.getD i 0=0 then 2 ^ i else 0))) rfl _ _ (by simp[a.1];lia) (λi hi Y b=>?_) ?_
 ·have p:=dI.mp hi;have r:=a.1;change if (ns.getD i 0 != 0)=LZ then _ else _
  by_cases c:ns.getD i 0=0
  ·rw[MG (by rw[c];decide)];rw[MF c]at b;show{{by change(0:Int)<=(i:Int);lia,by change(i:Int)<=1000000;lia,by decide},?_};change Y (.v (.int (1 * 2 ^ ((i:Int)).toNat))) _;rw[rL,bZ];show b
  ·rw[MF (bne_iff_ne.mpr c)];rw[MG c]at b;show b
 ·change R (.new (.lst ([]++(bE ns.length).map λi:Nat=>Tr.v (.int (if ns.getD i 0=0 then 2 ^ i else 0)))))
  rw[bM,ku];show q _ {by simp[a.1],λi m e=>?_};rw[aK]at e;by_cases hi:i < ns.length
  ·rw[cG hi]at e;cases e;have d:i < n:=(by rw[<-a.1];show hi);have f:ns[i]?=KE (ns.getD i 0):=(by rw[cF,aB hi];rfl);have z:=(a.2 i _ f).zero_iff;change MaskP n (if ns.getD i 0=0 then 2 ^ i else 0) _
   split
   ·rename_i c
    show(rj d).iff λj g=>{λe=>{e,z.mp c},λe=>e.1}
   ·rename_i c
    show(jz n).iff λj g=>{λe=>e.elim,λe=>c (z.mpr e.2)}
  ·rw[bR (by simpa using hi)]at e;cases e
def L5:GS:=(ax (cv 2 [1] (T4 (gA1 (aa 0))) (.tup [0,1]) (gn (gOp (du λi j=>.int (eC i j)) (gOp (ie (λ_ j=>0<=j) λi j=>.int (i / 2 ^ j.toNat)) (aa 2) (aa 0)) (gI 1))) (aa 1)))
def vd:GP:=λds R=>∃n m ls,ds=[.lst (ls.map tI),.v (.int m)]/\Mask n m/\ls.length<=300/\R (.new (.lst ((pick m ls ls.length).map tI)))
def Av (l:List a)(f:a->Tr):jy (l.map f)=(l.zipIdx).map λp=>Tr.tup [.v (.int (p.2:Int)),f p.1]:=by
 show eX λi=>?_;unfold jy;rw[oO,aK,aK,oP];cases l[i]?<;>simp
def aba (m:Int)(xs:List f):pick m xs xs.length=((xs.zipIdx).filter λp=>m.toNat.testBit p.2).map (·.1):=by
 have:∀k,k<=xs.length->pick m xs k=(((xs.take k).zipIdx).filter λp=>m.toNat.testBit p.2).map (·.1):=by
  intro k
  induction k with
  |zero=>intro _;rw[Xt];simp
  |succ k d=>
   intro hk;have a:k < xs.length:=hk;have e:xs.take (k+1)=xs.take k++[xs[k]]:=(by rw[cV,aB a];rfl);rw[e,List.zipIdx_append,List.filter_append,bI,<-d ()];have b:(xs.take k).length=k:=(by rw[bN];lia);cases c:m.toNat.testBit k with
   |true=>rw[Lz c (aB a)];simp[b,c]
   |false=>rw[R0 c];simp[b,c]
 rw[this xs.length (aJ _),cX]
def L6:Pm (L5) 2 1 2 (vd):=by
 intro ds R f h;obtain⟨n,m,ls,rfl,a,g,q⟩:=h;change dg _ _ _ _ _ _ _ (jy _) _ _;rw[Av];show iq (p:=λp:List Int×Nat=>m.toNat.testBit p.2) (out:=λp=>tI p.1) rfl _ _ (by simp;lia) (λp i Y Z b d=>?_) ?_
 ·show{by change(0:Int)<=(p.2:Int);lia,?_};change if (eC (m / 2 ^ ((p.2:Int)).toNat) 1 != 0)=LZ then _ else _
  rw[Xs a];cases c:m.toNat.testBit p.2 with
  |true=>rw[MF rfl];show b c
  |false=>rw[MG aO];show d c
 ·change R (.new (.lst ([]++((ls.zipIdx).filter λp=>m.toNat.testBit p.2).map λp=>tI p.1)));rw[bM];have e:((ls.zipIdx).filter λp=>m.toNat.testBit p.2).map (λp=>tI p.1)=(pick m ls ls.length).map tI:=(by rw[aba,dQ];rfl);rw[e];show q
def Gk:GS:=(ak (bo 2 (gI 0)) (ak (xv [3] (gn (aa 0)) (ak (bo 3 (gOp (du λi j=>.int (eC i j)) (aa 0) (uy (aa 0)))) (ak (Ig 2 (gX (aa 1) (gOp (du λi j=>.int (i - j)) (gMt "int" T1 (aa 3) gaN) (gI 1)))) (Es 0 (aa 3))))) (ax (aa 2))))
def qi:GP:=λds R=>∃n m ns p B,ds=[.v (.int m),iL ns]/\MaskP n m p/\RelP n ns B/\∀z:Int,MaskP n z (λj=>∃k,k < n/\p k/\B k j)->R (.val (.v (.int z)))
def Gm:Pm (Gk) 4 1 2 (qi):=by
 intro ds R I h;obtain⟨n,m,ns,p,B,rfl,C,D,q⟩:=h;show⟨λk g=>∃a z l,k=a.toNat/\g={[KE (.v (.v (.int a))),KE (.v (iL ns)),KE (.v (.v (.int z))),LY],[LY]}/\MaskP n a l/\(∀j,l j->p j)/\MaskP n z (λj=>∃k,k < n/\p k/\¬l k/\B k j),⟨_,m,0,p,rfl,rfl,C,λ_ h=>h,(jz n).iff λj _=>⟨λh=>h.elim,λo=>by obtain⟨k,_,d,e,_⟩:=o;show e d⟩⟩,?_⟩;intro k g r;obtain⟨a,z,l,rfl,rfl,u,w,hz⟩:=r;change if (a != 0)=LZ then _ else _
 by_cases c:a=0
 ·rw[MG (by rw[c];decide)];show q z (hz.iff λj _=>⟨λo=>by obtain⟨k,h0,d,_,e⟩:=o;show#v[k,h0,d,e],λ⟨k,h0,d,e⟩=>{k,h0,d,λf=>?_,e}⟩);show u.zero_iff.mp c k h0 f
 ·rw[MF (bne_iff_ne.mpr c)];obtain⟨k,y,hk,E,s,lt⟩:=Xr u c;obtain⟨b,G,H⟩:=D.at hk;rw[<-y]at s lt;show{λg=>g={[KE (.v (.v (.int (jP a (eC a (-a)))))),KE (.v (iL ns)),KE (.v (.v (.int (dR z b)))),KE (.v (.v (.int (eC a (-a)))))],[LY]},?_,?_}
  ·intro g r;subst r;show{_,?_,jP a (eC a (-a)),dR z b,_,rfl,rfl,s,λj h=>w j h.1,(vb hz H).iff λj _=>{λh=>?_,λ⟨i,h0,d,e,f⟩=>?_}}
   ·have d:=s.1.1;lia
   ·rcases h with⟨i,h0,d,e,f⟩ | h
    ·show{i,h0,d,λz=>e z.1,f}
    ·show{k,hk,w k E,λz=>z.2 rfl,h}
   ·by_cases A:i=k
    ·subst A;show .inr f
    ·show .inl {i,h0,d,λz=>e #v[z,A],f}
  ·show⟨rfl,aw (x:=.v (.int b)) ?_ rfl⟩;change atI (ns.map _) (((jW (eC a (-a)):Nat):Int) - 1)=_;rw[y,Zm,show(((k+1:Nat):Int) - 1)=(k:Int)by lia];show bh (by rw[aK,G];rfl)
def Do:GS:=(ak (kf 2 0 adf) (ak (fk [3] (giL (aa 0)) (.one 3) (sIf (gT (gOp (inD LZ) (aa 3) (aa 2))) (si 2 (av 2 qi (gaV (aa 3) (gA1 (aa 1)))) (aa 3)) cu)) (ax (cv 1 [2] (giL (aa 0)) (.one 0) dh (gOp ixD (aa 1) (aa 0))))))
def ix:GP:=λds R=>∃n ns a A B,ds=[iL ns,iL a]/\RelP n ns A/\RelP n a B/\n<=300/\Dm n (o6 n A B) R
theorem Aw {e d:Type}[DecidableEq e](f:d->e)(g:d->Tr)(i:∀a b,f a=f b->a=b)(k:d):∀(l:List d),k∈l->ij (l.map f) (l.map g) (f k)=KE (g k)
 | [],h=>nomatch h
 |a::l,h=>by
  unfold ij;by_cases c:a=k
  ·subst c;simp[dH]
  ·have j:=Aw f g i k l ((aW.mp h).resolve_left λz=>c z.symm);unfold ij at j;rw[bB,bB,pL,dH];simp only[MH (λz=>c (i _ _ z))];show j
def abb {e d:Type}[DecidableEq e][DecidableEq d](f:d->e)(g:∀a b,f a=f b->a=b)(k:d)(l:List d):j8 (l.map f) (f k)=decide (k∈l):=by
 unfold j8
 induction l with
 |nil=>rfl
 |cons a l h=>
  rw[bB,jG,h];by_cases c:a=k
  ·simp[c]
  ·have:¬f a=f k:=λz=>c (g _ _ z);have:¬k=a:=λz=>c z.symm;simp[*]
abbrev kT (ks:List Int)(f:Int->Int):Tr:=.dk (ks.map λk=>(Sum.inl k:Key)) (ks.map λk=>Tr.v (.int (f k)))
def Gn:∀a b:Int,(Sum.inl a:Key)=Sum.inl b->a=b:=λa b h=>by injection h
def akf (ks:List Int)(f:Int->Int)(k:Int)(h:k ∉ ks):Tr.dk (ip (ks.map λk=>(Sum.inl k:Key)) (Sum.inl k)) (jc (ks.map λk=>(Sum.inl k:Key)) (ks.map λk=>Tr.v (.int (f k))) (Sum.inl k) (.v (.int (f k))))=kT (ks++[k]) f:=by
 have c:¬(Sum.inl k:Key)∈ks.map λk=>(Sum.inl k:Key):=λz=>by
  obtain⟨a,b,e⟩:=dA.mp z;show h (Gn _ _ e ▸ b)
 unfold ip jc;rw[MG c,MG c];simp[kT]
open Classical in
def L7 (n:Nat)(p:Nat->Prop):∃z:Int,MaskP n z p:=by
 have:∀k,k<=n->∃z:Int,MaskP n z (λj=>j < k/\p j):=by
  intro k
  induction k with
  |zero=>intro _;show{0,(jz n).iff λj _=>{λh=>h.elim,λh=>MJ h.1 (iI _)}}
  |succ k a=>
   intro hk;obtain⟨z,hz⟩:=a ();by_cases c:p k
   ·show{_,(vb hz (rj (n:=n) (k:=k) ())).iff λj _=>{λh=>?_,λh=>?_}}
    ·rcases h with h | h
     ·show{(),h.2}
     ·subst h;show{(),c}
    ·by_cases e:j=k
     ·show .inr e
     ·show .inl {(),h.2}
   ·show{z,hz.iff λj _=>{λh=>{(),h.2},λh=>{?_,h.2}}};by_cases e:j=k
    ·subst e;show MJ h.2 c
    ·lia
 obtain⟨z,hz⟩:=this n (aJ _);show{z,hz.iff λj b=>{λh=>h.2,λh=>#v[b,h]}}
def Mask.self {n:Nat}{m:Int}(h:Mask n m):MaskP n m (λj=>m.toNat.testBit j=LZ):={h,λ_ _=>uP}
noncomputable def Bw (n:Nat)(B:Rl)(m:Int):Int:=Classical.choose (L7 n λj=>∃k,k < n/\m.toNat.testBit k=LZ/\B k j)
def L8 (n:Nat)(B:Rl)(m:Int):MaskP n (Bw n B m) (λj=>∃k,k < n/\m.toNat.testBit k=LZ/\B k j):=Classical.choose_spec (L7 n λj=>∃k,k < n/\m.toNat.testBit k=LZ/\B k j)
def Dp:Pm (Do) 4 2 2 (ix):=by
 intro ds R C h;obtain⟨n,ns,r,A,B,rfl,g,D,L,q⟩:=h;show d7 (I:=λi m=>∃ks:List Int,m={[KE (.v (iL ns)),KE (.v (iL r)),KE (.c 1),LY],[LY,KE (kT ks (Bw n B))]}/\(∀x∈ns.take i,x∈ks)/\ks.length<=i) {[],rfl,(λx f=>nomatch f),aJ _} ?_ ?_
 ·intro i x m N f o s;obtain⟨ks,rfl,l,E⟩:=o;have hi:=cb f;have C:=g.1;have u:∀d:List Int,x∈d->(∀y∈ks,y∈d)->∀y∈ns.take (i+1),y∈d:=λd G hs y hy=>by
   rw[cV,f]at hy;rcases dO.mp hy with hy | hy
   ·show hs y (l y hy)
   ·cases bC.mp hy;show G
  change if (!j8 (ks.map λk=>(Sum.inl k:Key)) (Sum.inl x))=LZ then _ else _
  rw[abb (λk=>(Sum.inl k:Key)) Gn];by_cases c:x∈ks
  ·rw[MI c,MG (by decide)];show s _ {ks,rfl,u ks c λ_ h=>h,()}
  ·rw[MH c,MF (by decide)];have H:Mask n x:=g.mask (aR f);show{rfl,n,x,r,_,B,rfl,Mask.self H,D,λz hz=>?_};cases hz.uniq (L8 n B x);show{by change(ks.map _).length < 1000000;rw[aC];lia,?_};change N _;show s _ {ks++[x],?_,u _ ∅ λy hy=>eK _ hy,by rw[aI,cT];lia};change({_,[LY,KE (Tr.dk _ _)]}:M)=_;rw[akf ks (Bw n B) x c];rfl
 ·intro m o;obtain⟨ks,rfl,l,E⟩:=o;rw[cX]at l;show cj (out:=λx:Int=>Tr.v (.int (Bw n B x))) rfl _ _ (by simp[g.1];lia) (λx f Y J=>?_) ?_
  ·show aw (Aw (λk=>(Sum.inl k:Key)) (λk=>Tr.v (.int (Bw n B k))) Gn x ks (l x f)) J
  ·change R (.new (.lst ([]++ns.map λx=>Tr.v (.int (Bw n B x)))));rw[bM,ku];show q _ {by simp[g.1],λi m e=>?_};rw[aK]at e;obtain⟨x,w,rfl⟩:=dN.mp e;show(L8 n B x).iff λj O=>⟨λp=>by obtain⟨k,a,b,c⟩:=p;show{k,a,((g.2 i x w).2 k a).mp b,c},λp=>by obtain⟨k,a,b,c⟩:=p;show{k,a,((g.2 i x w).2 k a).mpr b,c}⟩
def B6:GS:=(ak (bo 1 (av 2 mj (gaV (av 1 k9 (gA1 (gCB ff (gaE (aa 0) gaN)))) (gA1 (aa 0))))) (ak (fk [2,3] (giR (gA1 (gCB ff (gaE (aa 1) gaN)))) (.one 2) (ak (bo 3 (gX (aa 1) (aa 2))) (bo 1 (cv 1 [2,3] (giL (aa 1)) (.one 0) dh (gIf (gn (gOp (du λi j=>.int (eC i j)) (gOp (ie (λ_ j=>0<=j) λi j=>.int (i / 2 ^ j.toNat)) (aa 0) (aa 1)) (gI 1))) (gOp (du λi j=>.int (dR i j)) (aa 0) (aa 2)) (aa 0)))))) (ax (aa 1))))
def lr:GP:=λds R=>∃n ns A,ds=[iL ns]/\RelP n ns A/\n<=300/\OutV n (Star n A) R
def B7:Pm (B6) 4 1 1 (lr):=by
 intro ds R G h;obtain⟨n,ns,A,rfl,o,p,q⟩:=h;have y:(ns.map λn=>Tr.v (.int n)).length=n:=(by rw[aC];show o.1);show{rfl,n,by change[Tr.v (.int _)]=_;rw[y],p,λsm z=>?_};show{rfl,n,sm,ns,_,A,rfl,z,o,p,λos r=>?_};have s:(os.map λn=>Tr.v (.int n)).length=n:=(by rw[aC];show r.1);show{by change(-1000000:Int)<=((os.map _).length:Int);lia,by change((os.map _).length:Int)<=1000000;rw[s];lia,?_};change gy _ _ _ _ (jg 0 (((os.map _).length:Int)).toNat) _;rw[s,rk];show d7 (I:=λi m=>∃d:List Int,m={[KE (.v (iL ns)),KE (.v (iL d)),LY,LY],[LY]}/\RelP n d (Thru n A i)) {os,rfl,r.iff λi j _ _=>Thru.zero.symm} ?_ ?_
 ·intro i x m N a g C;obtain⟨d,rfl,b⟩:=g;have u:=a;rw[cG (by simpa using cb a)]at u;cases u;have hi:i < n:=(by simpa using cb a);obtain⟨t,D,mt⟩:=b.at hi;show aw (x:=.v (.int t)) (bh (by rw[aK,D];rfl)) ?_;show cj (out:=λx:Int=>Tr.v (.int (if x.toNat.testBit i=LZ then dR x t else x))) rfl _ _ (by simp[b.1];lia) (λx a Y f=>?_) ?_
  ·show{by change(0:Int)<=(i:Int);lia,?_};change if (eC (x / 2 ^ ((i:Int)).toNat) 1 != 0)=LZ then _ else _
   rw[Xs (b.mask a)];cases c:x.toNat.testBit i with
   |true=>rw[c,MF rfl]at f;rw[MF rfl];show f
   |false=>rw[c,MG aO]at f;rw[MG aO];show f
  ·show C _ {d.map λx:Int=>if x.toNat.testBit i=LZ then dR x t else x,?_,?_}
   ·change({[_,KE (.v (.lst ([]++d.map λx:Int=>Tr.v (.int (if x.toNat.testBit i=LZ then dR x t else x))))),LY,LY],_}:M)=_
    rw[bM,ku]
   ·show{by rw[aC];show b.1,λk m e=>?_};rw[aK]at e;obtain⟨x,E,rfl⟩:=dN.mp e;have a:=b.2 k x E;have w:x.toNat.testBit i=LZ↔Thru n A i k i:=a.2 i hi
    split
    ·rename_i c
     show(vb a mt).iff λj l=>{λh=>(Thru.succ hi).mpr (h.elim .inl λh=>.inr {w.mp c,h}),λh=>((Thru.succ hi).mp h).elim .inl λh=>.inr h.2}
    ·rename_i c
     show a.iff λj l=>{λh=>(Thru.succ hi).mpr (.inl h),λh=>((Thru.succ hi).mp h).elim id λh=>MJ (w.mpr h.1) c}
 ·intro m g;obtain⟨d,rfl,b⟩:=g;rw[cA]at b;show q d (b.iff λi j hi l=>Thru.star l)
structure LstT (P:Nat->Tr->Prop)(k:Nat)(l:List Tr):Prop where
 len:l.length=k
 get:∀c d,l[c]?=KE d->P c d
section
variable {P Q:Nat->Tr->Prop}{k j:Nat}{l m:List Tr}
def LstT.nil:LstT P 0 []:={rfl,λc d e=>by simp at e}
def LstT.at (h:LstT P k l){c:Nat}(b:c < k):∃d,l[c]?=KE d/\P c d:=by
 have a:c < l.length:=(by rw[h.len];show b);show{_,aB a,h.get c _ (aB a)}
def LstT.imp (h:LstT P k l)(f:∀c d,c < k->P c d->Q c d):LstT Q k l:={h.len,λc d e=>f c d (by rw[<-h.len];show cb e) (h.get c d e)}
def LstT.one {d:Tr}(h:P 0 d):LstT P 1 [d]:=⟨rfl,λc e a=>by
  cases c with
  |zero=>cases a;show h
  |succ c=>simp at a⟩
def LstT.append (h:LstT P k l)(h':LstT Q j m)(f:∀c d,c < j->Q c d->P (k+c) d):LstT P (k+j) (l++m):=⟨by rw[aI,h.len,h'.len],λc d e=>by
  by_cases a:c < l.length
  · rw[bS a]at e;show h.get c d e
  · rw[cK ()]at e;have b:=h'.get _ d e;have g:c - l.length < j:=(by rw[<-h'.len];show cb e);have z:=f _ d g b;rw[h.len]at z a
    rwa [show k+(c - k)=c by lia]at z⟩
def LstT.rep (n:Nat)(h:∀c,c < n->P c d):LstT P n (aY n d):=⟨dC,λc e a=>by
  rw[dS]at a
  split at a
  · cases a;show h c (by assumption)
  · cases a⟩
def LstT.tail (h:LstT P (k+1) l):LstT (λc=>P (c+1)) k (l.drop 1):=⟨by rw[dF,h.len];lia,λc d e=>by
  rw[pN]at e;show h.get _ d (by rw[oC];show e)⟩
def LstT.head (h:LstT P (k+1) l):LstT P 1 (l.take 1):=⟨by rw[bN,h.len];lia,λc d e=>by
  have a:=cb e;rw[bN]at a;rw[lU ()]at e;show h.get c d e⟩
theorem LstT.map {a:Type}{xs:List a}{f:a->Tr}(b:xs.length=k)(h:∀c x,xs[c]?=KE x->P c (f x)):LstT P k (xs.map f):=⟨by rw[aC];show b,λc d e=>by
  rw[aK]at e;obtain⟨x,g,rfl⟩:=dN.mp e;show h c x g⟩
end
def LstT.snoc {P:Nat->Tr->Prop}{k:Nat}{l:List Tr}{d:Tr}(h:LstT P k l)(hd:P k d):LstT P (k+1) (l++[d]):=h.append (LstT.one (P:=λc=>P (k+c)) hd) λ_ _ _ z=>z
theorem Dq {e:Type}{k:Nat}{fr:List Nat}{t:Tg}{f:GE}{loc:List (Option Wt)}{Q:List Tr->M->Prop}{cel:List (Option Tr)}{enc:e->Tr}{P:Nat->Tr->Prop}(g:iy cel loc=LZ):∀(xs:List e)(n:Nat) (a:List Tr),LstT P n a->n+xs.length<=1000000->
  (∀i x,xs[i]?=KE x->∀Y:Tr->List (Option Tr)->Prop,(∀d,P (n+i) d->Y d cel)->gTg t (enc x) {aY k LY++mv loc fr,cel} λj=>f j λm o=>fz o m λd p=>Y d p.cel)->(∀l,LstT P (n+xs.length) l->Q l #v[loc,cel])->dg k fr t dh f loc Q (xs.map enc) a cel
 | [],n,a,b,_,_,q=>q a b
 |x::xs,n,a,b,r,hs,q=>by
  rw[aZ]at r;show{by rw[b.len];lia,?_};show hs 0 x rfl (λd c=>iy c loc=LZ/\dg k fr t dh f loc Q (xs.map enc) (a++[d]) c) λd hd=>{g,?_};show Dq g xs (n+1) (a++[d]) (b.snoc hd) () (λi y s Y u=>?_) (λl h=>q l (by rw[aZ,show n+(xs.length+1)=n+1+xs.length by lia];show h));show hs (i+1) y (by simpa using s) Y (by rw[show n+(i+1)=n+1+i by lia];show u)
def abd {L:List Nat}{t:Tg}{g:GS}{E:v9}{xs:List Tr}{m:M}(I:Nat->M->Prop)(h0:I 0 m)(hs:∀i x (m:M) (N:M->Prop),xs[i]?=KE x->I i m->(∀b,I (i+1) b->N b)->gTg t x m λc=>g { E with nx:=λa=>N (fgt L a),ct:=λa=>N (fgt L a),bk:=E.nx } c)(h:∀m,I xs.length m->E.nx m):gy L t g E xs m:=by
 have z:=d7 (enc:=id) (L:=L) (t:=t) (g:=g) (E:=E) (xs:=xs) I h0 hs h
 rwa [pG]at z
def wb {k:Nat}{fr:List Nat}{t:Tg}{f:GE}{loc:List (Option Wt)}{Q:List Tr->M->Prop}{cel:List (Option Tr)}{P:Nat->Tr->Prop}{xs:List Tr}(b:iy cel loc=LZ)(n:xs.length<=1000000)
  (hs:∀i x,xs[i]?=KE x->∀Y:Tr->List (Option Tr)->Prop,(∀d,P i d->Y d cel)->gTg t x {aY k LY++mv loc fr,cel} λc=>f c λg j=>fz j g λd m=>Y d m.cel) (q:∀l,LstT P xs.length l->Q l #v[loc,cel]):dg k fr t dh f loc Q xs [] cel:=by
 have z:=Dq (enc:=id) (k:=k) (fr:=fr) (t:=t) (f:=f) (loc:=loc) (Q:=Q) (cel:=cel) (P:=P) b xs 0 [] LstT.nil () (λi x e Y a=>hs i x e Y (by rw[fE]at a;show a)) (λl h=>q l (by rw[fE]at h;show h))
 rwa [pG]at z
def RelT (n:Nat)(R:Rl)(d:Tr):Prop:=∃ns,d=iL ns/\RelP n ns R
def Ax (n k:Nat)(W:Nat->Rl)(d:Tr):Prop:=∃l,d=.lst l/\LstT (λc=>RelT n (W c)) k l
def o8 (n k:Nat)(W:Nat->Nat->Rl)(d:Tr):Prop:=∃l,d=.lst l/\LstT (λr=>Ax n k (W r)) k l
def RelT.eq {n:Nat}{R S:Rl}{d:Tr}(h:RelT n R d)(e:R=S):RelT n S d:=e ▸ h
def qj {a:Type}(l:List a):au l (KE 1) LY=l.drop 1:=by
 unfold au HT.sIx;simp;rw[gW (by rw[dF];lia)];by_cases h:1<=l.length
 ·rw[rB h,List.drop_one]
 ·have:l=[]:=iO.mp ();subst this;rfl
def adj {b:Type}(l:List b):au l LY (KE 1)=l.take 1:=by
 cases l with
 |nil=>rfl
 |cons a l=>unfold au HT.sIx;simp
def Xw:GS:=(ax (gOp ux (gLst (gA1 (av 1 ny (gA1 (gCB ff (gaE (gX (gX (aa 0) (gI 0)) (gI 0)) gaN)))))) (gOp (du λi j=>.int (i - j)) (gCB ff (gaE (aa 0) gaN)) (gI 1))))
def we:GP:=λds R=>∃n k W x,ds=[x]/\o8 n (k+1) W x/\k<=300/\n<=300/\∀l,LstT (λ_=>RelT n λ_ _=>False) k l->R (.new (.lst l))
def Xx:Pm (Xw) 1 1 1 (we):=by
 intro ds R g h;obtain⟨n,k,W,x,rfl,⟨l,rfl,hw⟩,hk,b,q⟩:=h;obtain⟨j,e0,m,rfl,h0⟩:=hw.at (c:=0) ();obtain⟨o,d,ns,rfl,f⟩:=h0.at (c:=0) ();show aw (bh (i:=0) e0) (aw (bh (i:=0) d) {rfl,n,?_,b,λa hz=>?_})
 ·change[Tr.v (.int ((ns.map _).length:Int))]=_;rw[aC,f.1]
 ·have e:((l.length:Int) - 1)=(k:Int):=(by rw[hw.len];lia);show{bg rfl,?_};change -1000000<=((l.length:Int) - 1)/\((l.length:Int) - 1)<=1000000/\1 * ((l.length:Int) - 1).toNat<=1000000/\R (.new (.lst (aY ((l.length:Int) - 1).toNat [iL a]).flatten));rw[e,Gj,bZ];show{(),(),(),q _ (.rep k λc _=>#v[a,rfl,hz])}
def Bx (r c:Nat):Rl:=if r=c then λ_ _=>False else λi j=>j=i
def Ou:GS:=(ax (gLst (gaV (gLst (gaV (av 1 ny (gA1 (aa 0))) (gA1 (av 1 k9 (gA1 (aa 0)))))) (gA1 (gLst (gaV (av 1 k9 (gA1 (aa 0))) (gA1 (av 1 ny (gA1 (aa 0))))))))))
def wz:GP:=λds R=>∃n:Nat,ds=[.v (.int n)]/\n<=300/\∀d,o8 n 2 Bx d->R (.new d)
def Ov:Pm (Ou) 1 1 1 (wz):=by
 intro ds R o h;obtain⟨n,rfl,f,q⟩:=h;show{rfl,n,rfl,f,λa g=>{rfl,n,rfl,f,λb l=>{bg rfl,rfl,n,rfl,f,λc m=>{rfl,n,rfl,f,λd hd=>{bg rfl,bg rfl,q _ {_,rfl,rfl,λr x e=>?_}}}}}}
 match r,e with
 |0,e=>
  cases e;show{_,rfl,rfl,λc x e=>?_}
  match c,e with
  |0,e=>cases e;show{a,rfl,g.iff λi j _ _=>by simp[Bx]}
  |1,e=>cases e;show{b,rfl,l.iff λi j _ _=>by simp[Bx]}
  |c+2,e=>simp at e
 |1,e=>
  cases e;show{_,rfl,rfl,λc' x e=>?_}
  match c',e with
  |0,e=>cases e;show{c,rfl,m.iff λi j _ _=>by simp[Bx]}
  |1,e=>cases e;show{d,rfl,hd.iff λi j _ _=>by simp[Bx]}
  |c'+2,e=>simp at e
 |r+2,e=>simp at e
def qk (a:Nat)(W2:Nat->Nat->Rl)(r c:Nat):Rl:=if c=0 then W2 (r - a+1) 0 else if c < a then λ_ _=>False else W2 (r - a+1) (c - a+1)
def mw (n a:Nat)(b W2:Nat->Nat->Rl)(r c:Nat):Rl:=
 if r < a then if c=0/\r=0 then orR n (b 0 0) (W2 0 0)else if c < a then b r c else if r=0 then W2 0 (c - a+1)else λ_ _=>False
 else qk a W2 r c
def tw (n a:Nat)(b W2:Nat->Nat->Rl)(r c:Nat):Rl:=
 if r < a then if c=0 then o6 n (b r 0) (W2 0 0)else if c < a then b r c else o6 n (b r 0) (W2 0 (c - a+1))
 else qk a W2 r c
def xx (n:Nat)(W:Nat->Nat->Rl)(r c:Nat):Rl:=
 if c=0 then if r=0 then Star n (W 0 0)else o6 n (W r 0) (Star n (W 0 0))
 else orR n (W r c) (o6 n (o6 n (W r 0) (Star n (W 0 0))) (W 0 c))
def BehT (n a b:Nat)(W2:Nat->Nat->Rl)(l:List Tr):Prop:=LstT (λr=>Ax n (a+b+1) (qk (a+1) W2 (a+1+r))) b l
def abe:GS:=(ak (bo 2 (av 1 we (gA1 (aa 0)))) (ax (cv 1 [2] (giL (gSl (aa 1) (goS (gI 1)) goN)) (.one 0) dh (gOp b9 (gOp b9 (gSl (aa 0) goN (goS (gI 1))) (aa 1)) (gSl (aa 0) (goS (gI 1)) goN)))))
def yr:GP:=λds R=>∃n a b c W2 x y,ds=[x,y]/\o8 n (a+1) c x/\o8 n (b+1) W2 y/\a+b<=300/\n<=300/\∀l,BehT n a b W2 l->R (.new (.lst l))
def abf:Pm (abe) 3 1 2 (yr):=by
 intro ds R E h;obtain⟨n,a,f,o,W2,x,y,rfl,p,⟨l,rfl,s⟩,hk,u,q⟩:=h;show{rfl,n,a,o,x,rfl,p,(),u,λi j=>?_};have g:=s.tail;have w:=g.len;change dg _ _ _ _ _ _ _ (au l (KE 1) LY) _ _;rw[qj,<-pG (l.drop 1)];have rows:∀d∈l.drop 1,∃b,d=.lst b/\b.length=f+1:=λd hd=>by
  obtain⟨c,e⟩:=gM hd;obtain⟨b,A,C⟩:=g.get c d e;show#v[b,A,C.len]
 show cj (enc:=id) (out:=λd=>match d with | .lst b=>.lst ((b.take 1++i)++b.drop 1) | d=>d) rfl _ _ (by change 0+(l.drop 1).length<=1000000;lia) (λd hd Y D=>?_) ?_
 ·obtain⟨b,rfl,hz⟩:=rows d hd;have G:=j.len;change _/\_/\Y (.lst ((au b LY (KE 1)++i)++au b (KE 1) LY)) _;rw[qj,adj];show{by rw[bN];lia,by rw[aI,bN,dF];lia,D}
 ·change R (.new (.lst ([]++_)));rw[bM];show q _ (LstT.map (by rw[w]) λr d e=>?_);obtain⟨b,rfl,hz⟩:=g.get r d e;show{_,rfl,?_};rw[show a+f+1=(1+a)+f by lia];show LstT.append (LstT.append (P:=λc=>RelT n (qk (a+1) W2 (a+1+r) c)) (hz.head.imp λc d m z=>?_) j λc d m z=>?_) hz.tail λc d m z=>?_
  ·show z.eq ?_;have:c=0:=();subst this;unfold qk;rw[MF rfl,show a+1+r - (a+1)+1=r+1 by lia]
  ·show z.eq ?_;unfold qk;rw[MG (),MF ()]
  ·show z.eq ?_;unfold qk;rw[MG (),MG (),show a+1+r - (a+1)+1=r+1 by lia,show 1+a+c - (a+1)+1=c+1 by lia]
def Iq:GS:=(ak (bo 2 (gOp b9 (gOp b9 (gLst (gA1 (av 2 mj (gaV (gX (gX (aa 0) (gI 0)) (gI 0)) (gA1 (gX (gX (aa 1) (gI 0)) (gI 0))))))) (gSl (gX (aa 0) (gI 0)) (goS (gI 1)) goN)) (gSl (gX (aa 1) (gI 0)) (goS (gI 1)) goN))) (ak (bo 3 (av 1 we (gA1 (aa 1)))) (ax (gOp b9 (gOp b9 (gLst (gA1 (aa 2))) (cv 1 [3] (giL (gSl (aa 0) (goS (gI 1)) goN)) (.one 0) dh (gOp b9 (aa 0) (aa 1)))) (av 2 yr (gaV (aa 0) (gA1 (aa 1))))))))
def Ow:GS:=(ak (kf 2 0 (gLst gaN)) (ak (fk [3,4] (giL (aa 0)) (.one 3) (ak (bo 4 (cv 1 [3] (giL (gX (aa 1) (gI 0))) (.one 0) dh (av 2 ix (gaV (gX (aa 1) (gI 0)) (gA1 (aa 0)))))) (ig (Ao 2 (gOp b9 (gOp b9 (gSl (aa 4) goN (goS (gI 1))) (gSl (aa 3) (goS (gI 1)) goN)) (gSl (aa 4) (goS (gI 1)) goN)))))) (ax (gOp b9 (aa 2) (av 2 yr (gaV (aa 0) (gA1 (aa 1))))))))
def adk (T:Nat->Nat->(Nat->Nat->Rl)->(Nat->Nat->Rl)->Nat->Nat->Rl):GP:=λds R=>∃n a b c W2 x y,ds=[x,y]/\o8 n (a+1) c x/\o8 n (b+1) W2 y/\a+b<=300/\n<=300/\∀d,o8 n (a+b+1) (T n (a+1) c W2) d->R (.new d)
abbrev sr:GP:=adk mw
abbrev w6:GP:=adk tw
def Ir:Pm (Iq) 4 1 2 (sr):=by
 intro ds R hl h;obtain⟨n,a,b,m,W2,x,y,rfl,C,o,hk,p,q⟩:=h;obtain⟨l1,rfl,D⟩:=id C;obtain⟨l2,rfl,T⟩:=id o;obtain⟨_,E,s,rfl,f⟩:=D.at (c:=0) ();obtain⟨_,U,n1,rfl,p1⟩:=f.at (c:=0) ();obtain⟨_,G,H,rfl,u⟩:=T.at (c:=0) ();obtain⟨_,f2,n2,rfl,p2⟩:=u.at (c:=0) ();have I:=D.tail;show aw (bh (i:=0) E) (aw (bh (i:=0) U) (aw (bh (i:=0) G) (aw (bh (i:=0) f2) {rfl,n,n1,n2,_,_,rfl,p1,p2,p,λos ho=>{bg rfl,aw (bh (i:=0) E) ?_}})));show{by change 1+(au s (KE 1) LY).length<=_;rw[qj,dF,f.len];lia,aw (bh (i:=0) G) ?_};show{by change([iL os]++au s (KE 1) LY).length+(au H (KE 1) LY).length<=_;rw[qj,qj,aI,dF,dF,f.len,u.len];change 1+_+_<=_;lia,?_};show{rfl,n,b,W2,_,rfl,o,(),p,λfl J=>{bg rfl,?_}};have f1':=J.len;change dg _ _ _ _ _ _ _ (au l1 (KE 1) LY) _ _;rw[qj l1,<-pG (l1.drop 1)];have L:=I.len;show Dq (P:=λr=>Ax n (a+b+1) (mw n (a+1) m W2 (r+1))) rfl _ 0 [] LstT.nil () (λr d e Y hY=>?_) (λN w=>?_)
 ·obtain⟨A,rfl,hz⟩:=I.get r d e;show{by change A.length+fl.length<=_;rw[hz.len];lia,hY _ {_,rfl,?_}};rw[show a+b+1=(a+1)+b by lia];have O:r < a:=(by rw[<-L];show cb e);show LstT.append (hz.imp λc d g z=>z.eq ?_) J λc d g z=>z.eq ?_
  ·unfold mw;rw[MF (),MG (),MF (),fE]
  ·unfold mw;rw[MF (),MG (),MG (),MG ()]
 ·rw[fE,L]at w;have rl:=w.len;show{by change 1+N.length<=_;lia,rfl,n,a,b,m,W2,_,_,rfl,C,o,hk,p,λbs Q=>?_};have bl:=Q.len;show{by change([_]++N).length+bs.length<=_;rw[aI,cT];lia,q _ {_,rfl,?_}};rw[show a+b+1=(1+a)+b by lia];show LstT.append (LstT.append (P:=λr=>Ax n (1+a+b) (mw n (a+1) m W2 r)) (l:=[_]) (.one {_,rfl,?_}) w λr d O z=>?_) Q λr d O z=>?_
  ·change LstT _ _ (([iL os]++au s (KE 1) LY)++au H (KE 1) LY);rw[qj,qj];show LstT.append (LstT.append (l:=[iL os]) (.one {os,rfl,ho.iff λi j _ _=>?_}) f.tail λc d g z=>z.eq ?_) u.tail λc d g z=>z.eq ?_
   ·unfold mw;rw[MF (),MF #v[rfl,rfl]]
   ·unfold mw;rw[MF (),MG (),MF (),show 1+c=c+1 by lia]
   ·unfold mw;rw[MF (),MG (),MG (),MF rfl,show 1+a+c - (a+1)+1=c+1 by lia]
  ·rw[show 1+a+b=a+b+1 by lia,show 1+r=r+1 by lia];show z
  ·rw[show 1+a+b=a+b+1 by lia];obtain⟨A,rfl,hz⟩:=z;show{A,rfl,hz.imp λc d g z=>z.eq ?_};unfold mw;rw[MG (),show 1+a+r=a+1+r by lia]
def Ox:Pm (Ow) 5 2 2 (w6):=by
 intro ds R hl h;obtain⟨n,a,b,l,W2,x,y,rfl,u,w,hk,A,q⟩:=h;obtain⟨l1,rfl,C⟩:=id u;obtain⟨l2,rfl,G⟩:=id w;obtain⟨_,H,J,rfl,D⟩:=G.at (c:=0) ();have E:=C.len;show{cP _,?_};show abd (xs:=l1) (I:=λi m=>∃g,m={[KE (.v (.lst l1)),KE (.v (.lst l2)),KE (.c 1),LY,LY],[LY,KE (.lst g)]}/\LstT (λr=>Ax n (a+b+1) (tw n (a+1) l W2 r)) i g) {[],rfl,LstT.nil} ?_ ?_
 ·intro i d m N hd o L;obtain⟨g,rfl,j⟩:=o;have hi:i < a+1:=(by rw[<-E];show cb hd);obtain⟨p,rfl,hz⟩:=C.get i d hd;obtain⟨_,O,Q,rfl,T⟩:=hz.at (c:=0) ();show aw (bh (i:=0) H) ?_;have U:=D.len;show wb (xs:=J) (P:=λc=>RelT n (o6 n (l i 0) (W2 0 c))) rfl () (λc d e Y hY=>?_) (λbs f=>?_)
  ·obtain⟨n2,rfl,p2⟩:=D.get c d e;show aw (bh (i:=0) O) {rfl,n,Q,n2,_,_,rfl,T,p2,A,λos ho=>hY _ #v[os,rfl,ho]}
  ·rw[U]at f;have bl:=f.len;have zl:=hz.len;have rl:=j.len;show{rfl,?_};change _/\_/\_/\N {_,[LY,KE (.lst (g++[.lst ((au bs LY (KE 1)++au p (KE 1) LY)++au bs (KE 1) LY)]))]};rw[qj,qj,adj];show{by rw[bN,dF];lia,by rw[aI,bN,dF,dF];lia,(),L _ {_,rfl,j.snoc {_,rfl,?_}}};rw[show a+b+1=(1+a)+b by lia];show LstT.append (LstT.append (f.head.imp λc d s z=>z.eq ?_) hz.tail λc d s z=>z.eq ?_) f.tail λc d s z=>z.eq ?_
   ·have:c=0:=();subst this;unfold tw;rw[MF hi,MF rfl]
   ·unfold tw;rw[MF hi,MG (),MF (),show 1+c=c+1 by lia]
   ·unfold tw;rw[MF hi,MG (),MG (),show 1+a+c - (a+1)+1=c+1 by lia]
 ·intro m o;obtain⟨g,rfl,j⟩:=o;rw[E]at j;have rl:=j.len;show{rfl,n,a,b,l,W2,_,_,rfl,u,w,hk,A,λbs f=>?_};have bl:=f.len;show{by change g.length+bs.length<=_;lia,q _ {_,rfl,?_}};rw[show a+b+1=(a+1)+b by lia]at *;show LstT.append j f λr d hr z=>?_;obtain⟨p,rfl,hz⟩:=z;show{p,rfl,?_};rw[show a+b+1=(a+1)+b by lia]at hz;show hz.imp λc d s z=>z.eq ?_;unfold tw;rw[MG ()]
abbrev pT (p:Str×Nat):Tr:=.tup [.v (.str p.1),.v (.int (p.2:Int))]
abbrev spT (ws:List (Str×Nat)):Tr:=.tup (ws.map pT)
def L9:GS:=(sIf (gOr (gT (gOp (du λi j=>.bl (decide (i < j))) (aa 1) (gI 0))) (gT (gOp (du λi j=>.bl (decide (j<=i))) (aa 1) (aa 0)))) Et cu)
def ve:GP:=λds R=>∃c v,ds=[.v (.int c),.v (.int v)]/\0<=v/\v < c/\R (.val (.v .non))
def Ma:Pm (L9) 2 1 2 (ve):=by
 intro ds R a h;obtain⟨c,v,rfl,h0,b,q⟩:=h;change if decide (v < 0)=LZ then _ else _
 rw[MH (),MG aO];change if decide ((c:Int)<=v)=LZ then _ else _
 rw[MH (),MG aO];show q
def wg (f:Str):List (Str×Nat)->Nat->Option (Nat×Nat)
 | [],_=>LY
 | (g,c)::ws,i=>if g=f then KE (i,c)else wg f ws (i+1)
abbrev look (ws:List (Str×Nat))(f:Str):Option (Nat×Nat):=wg f ws 0
theorem By:∀{ws i p c},wg f ws i=KE (p,c)->∃k,p=i+k/\ws[k]?=KE (f,c)/\∀j,j < k->∀x,ws[j]?=KE x->x.1≠f
 | [],_,_,_,h=>by cases h
 | (g,m)::ws,i,p,c,h=>by
  unfold wg at h
  split at h
  ·rename_i e
   cases h;show{0,rfl,by rw[e];rfl,λj a=>MJ a (iI _)}
  ·rename_i e
   obtain⟨k,n,d,l⟩:=By h;show{k+1,(),d,λj a x b=>?_};cases j with
   |zero=>cases b;show e
   |succ j=>show l j () x b
def Ud:GS:=(ak (fk [3,4] (giE (gA1 (aa 0))) (.tup [3,4]) (sIf (gT (gOp (eqG MA) (gX (aa 4) (gI 0)) (aa 1))) (ak (ig (av 2 ve (gaV (gX (aa 4) (gI 1)) (gA1 (aa 2))))) (ax (aa 3))) cu)) Et)
def t5:GP:=λds R=>∃ws f v p c,ds=[spT ws,.v (.str f),.v (.int v)]/\look ws f=KE (p,c)/\0<=v/\v < c/\R (.val (.v (.int p)))
def Ue:Pm (Ud) 5 1 3 (t5):=by
 intro ds R w h;obtain⟨ws,f,v,p,c,rfl,a,h0,n,q⟩:=h;obtain⟨k,rfl,hk,o⟩:=By a;change gy _ _ _ _ (jy (ws.map pT)) _;rw[Av];show d7 (I:=λi m=>m={[KE (.v (spT ws)),KE (.v (.v (.str f))),KE (.v (.v (.int v))),LY,LY],[LY]}/\i<=k) {rfl,cP _} ?_ ?_
 ·intro i b m N l r s;obtain⟨⟨g,x⟩,j⟩:=b;obtain⟨rfl,hi⟩:=r;rw[oP]at l;obtain⟨y,d,u⟩:=dN.mp l;cases u;show{rfl,?_};change if decide (V.str g=V.str f)=LZ then _ else _
  by_cases e:i=k
  ·subst e;rw[hk]at d;cases d;rw[MI rfl,MF rfl];show{rfl,c,v,rfl,h0,n,?_};show q
  ·have:=o i () _ d;rw[MH (λz=>this (by injection z)),MG aO];show s _ {rfl,()}
 ·intro m b;obtain⟨rfl,hi⟩:=b;have:=cb hk;rw[List.length_zipIdx]at hi;lia
def isR (ls:List (List Int))(p:Nat)(v:Int):Rl:=λi j=>j=i/\∃l,ls[i]?=KE l/\l[p]?=KE v
def Ug (ls:List (List Int))(p:Nat)(v:Int):Rl:=λi j=>∃l,ls[i]?=KE l/\ls[j]?=KE (l.set p v)
def Can (ls:List (List Int))(p:Nat)(v:Int):Prop:=ls.Nodup/\ls.length<=300/\∀l∈ls,l.length<=10/\p < l.length/\l.set p v∈ls
abbrev ltT (ls:List (List Int)):Tr:=.lst (ls.map tI)
def Iu:GS:=(ax (cv 2 [1,2] (T4 (gA1 (aa 0))) (.tup [0,1]) dh (gIf (gT (gOp (eqG MA) (gX (aa 1) (aa 2)) (aa 3))) (gOp (ie Fh λi j=>.int (i * 2 ^ j.toNat)) (gI 1) (aa 0)) (gI 0))))
def Xy (T:List (List Int)->Nat->Int->Rl):GP:=λds R=>∃(ls:List (List Int))(p:Nat) (v:Int),ds=[ltT ls,.v (.int p),.v (.int v)]/\Can ls p v/\Dm ls.length (T ls p v) R
abbrev su:GP:=Xy isR
def Iv:Pm (Iu) 3 1 3 (su):=by
 intro ds R w h;obtain⟨ls,p,v,rfl,⟨nd,y,f⟩,q⟩:=h;change dg _ _ _ _ _ _ _ (jy (ls.map tI)) _ _;rw[Av];show cj (out:=λx:List Int×Nat=>Tr.v (.int (if x.1[p]?=KE v then 2 ^ x.2 else 0))) rfl _ _ (by simp;lia) (λx g Y a=>?_) ?_
 ·obtain⟨l,i⟩:=x;obtain⟨A,C,n⟩:=List.mem_zipIdx g;have D:i < ls.length:=();have o:l∈ls:=(by rw[n];show jR _);obtain⟨_,pl,_⟩:=f l o;show aw (x:=.v (.int l[p])) (bh (by rw[aK,aB pl];rfl)) {rfl,?_};change if decide (V.int l[p]=V.int v)=LZ then _ else _
  by_cases c:l[p]=v
  ·rw[MI (by rw[c]),MF rfl];rw[MF (by rw[aB pl,c])]at a;show{{by change(0:Int)<=(i:Int);lia,by change(i:Int)<=1000000;lia,by decide},?_};change Y (.v (.int (1 * 2 ^ ((i:Int)).toNat))) _;rw[rL,bZ];show a
  ·rw[MH (λz=>c (by injection z)),MG aO];rw[MG (by rw[aB pl];show λz=>c (bU z))]at a;show a
 ·change R (.new (.lst ([]++_)));rw[bM,ku];show q _ {by simp,λi m e=>?_};rw[aK,oP]at e;obtain⟨x,r,rfl⟩:=dN.mp e;obtain⟨l,b,rfl⟩:=dN.mp r;have hi:=cb b;change MaskP _ (if l[p]?=KE v then 2 ^ (0+i)else 0) _
  rw[fE]
  split
  ·rename_i c
   show(rj hi).iff λj _=>{λz=>#v[z,l,b,c],λz=>z.1}
  ·rename_i c
   show(jz _).iff λj _=>⟨λz=>z.elim,λs=>by obtain⟨_,E,d,u⟩:=s;show c (by rw[b]at d;cases d;show u)⟩
def Mb (n d p:Nat):HT.sIx n d (KE (p:Int))=min p n:=by
 unfold HT.sIx;have:¬(p:Int) < 0:=();simp[this]
def o9 {a:Type}(l:List a)(p:Nat)(h:p<=l.length):au l LY (KE (p:Int))=l.take p:=by
 unfold au;rw[Mb,rB h];rfl
def ng {a:Type}(l:List a)(p:Nat)(h:p<=l.length):au l (KE (p:Int)) LY=l.drop p:=by
 unfold au;rw[Mb,rB h];show gW (by rw[dF];show aJ _)
def Dr {l:List Int}{p:Nat}{v:Int}(h:p < l.length):Tr.tup ((au (l.map λn=>Tr.v (.int n)) LY (KE (p:Int))++[.v (.int v)])++au (l.map λn=>Tr.v (.int n)) (KE ((p:Int)+1)) LY)=tI (l.set p v):=by
 rw[show((p:Int)+1)=((p+1:Nat):Int)by lia,o9 _ _ (by rw[aC];lia),ng _ _ (by rw[aC];lia),jN,MF h];change _=Tr.tup ((l.take p++v::l.drop (p+1)).map λn=>Tr.v (.int n));rw[bI,bB,nE,nG,dY];rfl
def Gp:GS:=(ak (bo 3 (cv 1 [1,2] (giL (aa 0)) (.one 0) dh (gOp b9 (gOp b9 (gSl (aa 0) goN (goS (aa 1))) (gTup (gA1 (aa 2)))) (gSl (aa 0) (goS (gOp b9 (aa 1) (gI 1))) goN)))) (ax (cv 1 [0] (giL (aa 3)) (.one 0) dh (gOp (ie Fh λi j=>.int (i * 2 ^ j.toNat)) (gI 1) (gMt "list" An (aa 1) (gaE (aa 0) gaN))))))
abbrev ql:GP:=Xy Ug
def Gq:Pm (Gp) 4 1 3 (ql):=by
 intro ds R a h;obtain⟨ls,p,v,rfl,⟨nd,w,c⟩,q⟩:=h;show cj (out:=λl:List Int=>tI (l.set p v)) rfl _ _ (by simp;lia) (λl a Y d=>?_) ?_
 ·obtain⟨g,pl,_⟩:=c l a;show{bg rfl,?_};change(au (l.map λn=>Tr.v (.int n)) LY (KE (p:Int))).length+1<=1000000/\(au (l.map λn=>Tr.v (.int n)) LY (KE (p:Int))++[Tr.v (.int v)]).length+(au (l.map λn=>Tr.v (.int n)) (KE ((p:Int)+1)) LY).length<=1000000/\Y (Tr.tup ((au (l.map λn=>Tr.v (.int n)) LY (KE (p:Int))++[.v (.int v)])++au (l.map λn=>Tr.v (.int n)) (KE ((p:Int)+1)) LY)) _;rw[Dr pl];show{?_,?_,d}
  ·rw[o9 _ _ (by rw[aC];lia),bN,aC];lia
  ·rw[show((p:Int)+1)=((p+1:Nat):Int)by lia,o9 _ _ (by rw[aC];lia),ng _ _ (by rw[aC];lia),aI,bN,dF,aC];change _+1+_<=_;lia
 ·change dg _ _ _ _ _ _ _ ([]++ls.map λl:List Int=>tI (l.set p v)) _ _;rw[bM];show cj (out:=λl:List Int=>Tr.v (.int (2 ^ ls.idxOf (l.set p v)))) rfl _ _ (by simp;lia) (λl a Y d=>?_) ?_
  ·obtain⟨g,pl,ml⟩:=c l a;have b:ls.idxOf (l.set p v) < ls.length:=eU.mpr ml;show{rfl,ls,l.set p v,rfl,rfl,ml,{by change(0:Int)<=((ls.idxOf (l.set p v):Nat):Int);lia,by change((ls.idxOf (l.set p v):Nat):Int)<=1000000;lia,by decide},?_};change Y (.v (.int (1 * 2 ^ (((ls.idxOf (l.set p v):Nat):Int)).toNat))) _;rw[rL,bZ];show d
  ·change R (.new (.lst ([]++_)));rw[bM,ku];show q _ {by simp,λi m e=>?_};rw[aK]at e;obtain⟨l,f,rfl⟩:=dN.mp e;obtain⟨g,pl,ml⟩:=c l (aR f);have b:ls.idxOf (l.set p v) < ls.length:=eU.mpr ml;show(rj b).iff λj r=>{λz=>{l,f,?_},λ⟨x,o,s⟩=>?_}
   ·subst z;rw[aB b,iW]
   ·rw[f]at o;cases o;have u:ls[ls.idxOf (l.set p v)]?=KE (l.set p v):=(by rw[aB b,iW]);show(mU r nd).mp (s.trans u.symm)
inductive Say where
 |nought | every | note
 |is (f:Str) (v:Int)
 |put (f:Str) (v:Int)
 |no (s:Say)
 |again (s:Say)
 |either (a b:Say)
 |both (a b:Say)
def Say.t:Say->Tr
 | .nought=>.tup [.v (.str "none")]
 | .every=>.tup [.v (.str "all")]
 | .note=>.tup [.v (.str "note")]
 | .is f v=>.tup [.v (.str "is"),.v (.str f),.v (.int v)]
 | .put f v=>.tup [.v (.str "put"),.v (.str f),.v (.int v)]
 | .no s=>.tup [.v (.str "not"),s.t]
 | .again s=>.tup [.v (.str "again"),s.t]
 | .either a b=>.tup [.v (.str "either"),a.t,b.t]
 | .both a b=>.tup [.v (.str "then"),a.t,b.t]
def Say.kids:Say->List Say
 | .no s=>[s] | .again s=>[s] | .either a b=>[a,b] | .both a b=>[a,b] | _=>[]
def Say.parts:Say->List Say
 | .no s=>.no s::s.parts
 | .again s=>.again s::s.parts
 | .either a b=>.either a b::(a.parts++b.parts)
 | .both a b=>.both a b::(a.parts++b.parts)
 |s=>[s]
def Say.size:Say->Nat
 | .no s=>s.size+1
 | .again s=>s.size+1
 | .either a b=>a.size+b.size+1
 | .both a b=>a.size+b.size+1
 |_=>1
theorem Say.parts_len:∀s:Say,s.parts.length=s.size
 | .no s=>by change s.parts.length+1=_;rw[s.parts_len];rfl
 | .again s=>by change s.parts.length+1=_;rw[s.parts_len];rfl
 | .either a b=>by change(a.parts++b.parts).length+1=_;rw[aI,a.parts_len,b.parts_len];rfl
 | .both a b=>by change(a.parts++b.parts).length+1=_;rw[aI,a.parts_len,b.parts_len];rfl
 | .nought | .every | .note | .is _ _ | .put _ _=>rfl
theorem Say.parts_eq:∀s:Say,s.parts=s::s.kids.flatMap Say.parts
 | .no s=>by simp[Say.parts,Say.kids]
 | .again s=>by simp[Say.parts,Say.kids]
 | .either a b=>by simp[Say.parts,Say.kids]
 | .both a b=>by simp[Say.parts,Say.kids]
 | .nought | .every | .note | .is _ _ | .put _ _=>by simp[Say.parts,Say.kids]
def Say.isT:Say->Bool
 | .nought=>LZ | .every=>LZ | .is _ _=>LZ
 | .no s=>s.isT
 | .either a b=>a.isT && b.isT
 | .both a b=>a.isT && b.isT
 |_=>MA
def Say.nts:Say->Nat
 | .note=>1
 | .no s=>s.nts
 | .again s=>s.nts
 | .either a b=>a.nts+b.nts
 | .both a b=>a.nts+b.nts
 |_=>0
def Say.rm:Say->Nat
 | .note=>1
 | .again s=>s.rm
 | .either a b=>a.rm+b.rm
 | .both a b=>a.rm+b.rm
 |_=>0
abbrev wds (l:List Str):Tr:=.tup (l.map λx=>Tr.v (.str x))
abbrev pb:Tr:=wds ["not","either","then","again"]
abbrev sv:Tr:=wds ["is","put"]
abbrev vg:Tr:=wds YT
def Gr {y:Str}{l:List Str}:∀e∈l.map (λx=>Tr.v (.str x)),gv 39 e (.v (.str y))=LZ:=λe a=>by
 obtain⟨z,_,rfl⟩:=dA.mp a;rfl
def qm {x:Str}{l:List Str}{c b:Bool}(a:c=LZ↔Tr.v (.str x)∈l.map λx=>Tr.v (.str x))(h:decide (x∈l)=b):c=b:=by
 have e:(c=LZ)↔x∈l:=a.trans ⟨λz=>by
   obtain⟨y,d,e⟩:=dA.mp z;cases e;show d,λz=>List.mem_map.mpr #v[x,z,rfl]⟩
 rw[<-h];cases c with
 |true=>rw[MI (e.mp rfl)]
 |false=>rw[MH (λz=>aO (e.mpr z))]
def ix0 {b:Type}{a:b}{l:List b}{Q:b->Prop}(h:Q a):kn (atI (a::l) 0) Q:=aw (bh (i:=0) rfl) h
def ix1 {c:Type}{a b:c}{l:List c}{Q:c->Prop}(h:Q b):kn (atI (a::b::l) 1) Q:=aw (bh (i:=1) rfl) h
def Xz:GS:=(ak (sIf (gT (gOp (inG MA) (gX (aa 0) (gI 0)) (gC pb))) (ax (gSl (aa 0) (goS (gI 1)) goN)) cu) (ax (gTup gaN)))
def rn:GP:=λds R=>∃s:Say,ds=[s.t]/\R (.val (.tup (s.kids.map Say.t)))
def X0:Pm (Xz) 1 1 1 (rn):=by
 intro ds R e h;obtain⟨s,rfl,q⟩:=h;cases s<;>dsimp only[Say.t]<;>show{Gr,λc d=>?_}
 case no s=>cases qm d (b:=LZ) ⋯;show q
 case again s=>cases qm d (b:=LZ) ⋯;show q
 case either a b=>cases qm d (b:=LZ) ⋯;show q
 case both a b=>cases qm d (b:=LZ) ⋯;show q
 all_goals cases qm d (b:=MA) ⋯;show{bg rfl,q}
def Say.tag:Say->Fin 9
 | .nought=>0 | .every=>1 | .note=>2 | .is _ _=>3 | .put _ _=>4 | .no _=>5 | .again _=>6 | .either _ _=>7 | .both _ _=>8
def gc:Fin 9->Str
 |0=>"none" | 1=>"all" | 2=>"note" | 3=>"is" | 4=>"put" | 5=>"not" | 6=>"again" | 7=>"either" | 8=>"then"
def Say.sort (s:Say):Str:=gc s.tag
def Say.rest:Say->List Tr
 | .is f v=>[.v (.str f),.v (.int v)]
 | .put f v=>[.v (.str f),.v (.int v)]
 | .no s=>[s.t] | .again s=>[s.t] | .either a b=>[a.t,b.t] | .both a b=>[a.t,b.t]
 |_=>[]
def Say.t_eq (s:Say):s.t=.tup (.v (.str s.sort)::s.rest):=by cases s<;>rfl
def Uh:GS:=(ak (kf 1 1 (gLst gaN)) (ak (kf 2 0 (gLst (gA1 (aa 0)))) (ak (xv [3] (gn (aa 2)) (ak (bo 3 (gMc "list" 2 Aq gaN)) (ak (ig (Ao 1 (aa 3))) (ig (gMc "list" 2 Bt (gaE (gRev (av 1 rn (gA1 (aa 3))) (uy (gI 1))) gaN)))))) (ax (aa 1)))))
def lg:GP:=λds R=>∃s:Say,ds=[s.t]/\s.size<=1000/\R (.new (.lst (s.parts.map Say.t)))
def jd (l:List Say):Nat:=(l.map Say.size).sum
def Say.size_pos (s:Say):1<=s.size:=by cases s<;>simp[Say.size]
def Say.size_kids (s:Say):s.size=jd s.kids+1:=by cases s<;>simp[Say.size,Say.kids,jd]<;>lia
def Ay (a b:List Say):jd (a++b)=jd a+jd b:=by simp[jd]
theorem wj:∀l:List Say,l.length<=jd l
 | []=>aJ _
 |s::l=>by
  have:=wj l;have:=s.size_pos;simp[jd]at *;lia
def Ih (l:List Say):jd l.reverse=jd l:=by simp[jd,List.sum_reverse]
def Ui:Pm (Uh) 4 3 1 (lg):=by
 intro ds R g h;obtain⟨s,rfl,hs,q⟩:=h;show{cP _,bg rfl,?_};show{λk m=>∃P W:List Say,m={[KE (.v s.t),KE (.c 2),KE (.c 1),LY],[LY,KE (.lst (W.map Say.t)),KE (.lst (P.map Say.t))]}/\k=jd W/\P++W.reverse.flatMap Say.parts=s.parts,{_,[],[s],rfl,rfl,by simp},?_};intro k m b;obtain⟨P,W,rfl,rfl,e⟩:=b;have pl:=ML tR e;rw[aI,s.parts_len]at pl;have d:jd W=(W.reverse.flatMap Say.parts).length:=by
  rw[List.length_flatMap,<-Ih];unfold jd;congr 1;show lK λx _=>x.parts_len.symm
 have ml:=wj W;rcases jC W with rfl | ⟨a,x,rfl⟩
 ·change R _;simp at e;rw[e];show q
 ·rw[jD]at *;have ex:x.t=x.t:=rfl;change if (!((a++[x]).map Say.t).isEmpty)=LZ then _ else _
  have i:=x.size_kids;rw[Ay]at d;have j:jd [x]=x.size:=(by simp[jd]);rw[MF ∅];show{λm=>m={[KE (.v s.t),KE (.c 2),KE (.c 1),KE (.v x.t)],[LY,KE (.lst ((a++x.kids.reverse).map Say.t)),KE (.lst ((P++[x]).map Say.t))]},?_,?_}
  ·intro m b;subst b;show{jd (a++x.kids.reverse),?_,P++[x],a++x.kids.reverse,rfl,rfl,?_}
   ·rw[Ay,Ay,Ih];lia
   ·rw[<-e,List.reverse_append,List.reverse_append,List.reverse_reverse,List.flatMap_append,List.flatMap_append,dY,List.reverse_singleton];congr 1;rw[qE,List.flatMap_nil,bX,x.parts_eq];rfl
  ·show{rfl,aw (x:=x.t) (by rw[bI];show List.getLast?_concat) ?_};show{rfl,by change(P.map Say.t).length < 1000000;rw[aC];lia,rfl,rfl,x,rfl,rfl,?_};have f:((a++[x]).map Say.t).dropLast=a.map Say.t:=(by rw[bI];show List.dropLast_concat);change _/\(_:M)=_;rw[f];show⟨by rw[aC,fJ,aC];have:=wj x.kids;have:=wj a;lia,?_⟩;change({[KE (.v s.t),KE (.c 2),KE (.c 1),KE (.v x.t)],[LY,KE (.lst (a.map Say.t++(x.kids.map Say.t).reverse)),KE (.lst (P.map Say.t++[x.t]))]}:M)=_;rw[<-nM,<-bI];rw[bI (l₁:=P)];rfl
def Say.own (ws:List (Str×Nat)):Say->Prop
 | .is f v=>∃p c,look ws f=KE (p,c)/\0<=v/\v < (c:Int)
 | .put f v=>∃p c,look ws f=KE (p,c)/\0<=v/\v < (c:Int)
 | .no s=>s.isT=LZ
 |_=>True
def Say.good (ws:List (Str×Nat))(s:Say):Prop:=∀x∈s.parts,x.own ws
def Say.inT:Say->Bool
 | .nought=>LZ | .every=>LZ | .is _ _=>LZ | .no _=>LZ | .either _ _=>LZ | .both _ _=>LZ
 |_=>MA
theorem Say.isT_all:∀s:Say,s.parts.all Say.inT=s.isT
 | .no s=>by simp[Say.parts,Say.inT,Say.isT,s.isT_all]
 | .again s=>by simp[Say.parts,Say.inT,Say.isT]
 | .either a b=>by simp[Say.parts,Say.inT,Say.isT,a.isT_all,b.isT_all]
 | .both a b=>by simp[Say.parts,Say.inT,Say.isT,a.isT_all,b.isT_all]
 | .nought | .every | .note | .is _ _ | .put _ _=>by simp[Say.parts,Say.inT,Say.isT]
def Say.isN:Say->Bool
 | .note=>LZ
 |_=>MA
theorem Say.nts_all:∀s:Say,(s.parts.filter Say.isN).length=s.nts
 | .no s=>by simp[Say.parts,Say.isN,Say.nts,s.nts_all]
 | .again s=>by simp[Say.parts,Say.isN,Say.nts,s.nts_all]
 | .either a b=>by simp[Say.parts,Say.isN,Say.nts,a.nts_all,b.nts_all]
 | .both a b=>by simp[Say.parts,Say.isN,Say.nts,a.nts_all,b.nts_all]
 | .nought | .every | .note | .is _ _ | .put _ _=>rfl
def ago (l:List a)(g:a->Bool):(l.map λx=>Tr.v (.bl (g x)))=(l.map g).map λn=>Tr.v (.bl n):=by rw[dQ];rfl
def X1:GS:=(ax (gCB (blsG λbs=>bs.all id) (gaE (cv 1 [] (giL (av 1 lg (gA1 (aa 0)))) (.one 0) dh (gOp (inG MA) (gX (aa 0) (gI 0)) (gC vg))) gaN)))
def Az:GP:=λds R=>∃s:Say,ds=[s.t]/\s.size<=1000/\R (.val (.v (.bl s.isT)))
def X2:Pm (X1) 1 1 1 (Az):=by
 intro ds R e h;obtain⟨s,rfl,hs,q⟩:=h;show{rfl,s,rfl,hs,?_};show cj (out:=λx:Say=>Tr.v (.bl x.inT)) rfl _ _ (by change 0+_<=_;rw[s.parts_len];lia) (λx f Y a=>?_) ?_
 ·rw[x.t_eq];show ix0 ?_;show{Gr,λc d=>?_};cases qm d (b:=x.inT) ((⋯:∀n:Fin 9,decide (gc n∈[cW "none",cW "all",cW "is",cW "not",cW "either",cW "then"])=decide (n∈[0,1,3,5,7,8])) x.tag |>.trans (by cases x<;>rfl));show a
 ·show{s.parts.map Say.inT,by rw[bM];show ago _ _,?_};change R (.val (.v (.bl ((s.parts.map Say.inT).all id))));rw[tF,show(id∘Say.inT)=Say.inT from rfl,s.isT_all];show q
def Uj:GS:=(ax (gCB ff (gaE (cv 1 [] (giL (av 1 lg (gA1 (aa 0)))) (.one 0) (gT (gOp (eqG MA) (gX (aa 0) (gI 0)) (gS "note"))) (aa 0)) gaN)))
def yt:GP:=λds R=>∃s:Say,ds=[s.t]/\s.size<=1000/\R (.val (.v (.int (s.nts:Int))))
def Uk:Pm (Uj) 1 1 1 (yt):=by
 intro ds R d h;obtain⟨s,rfl,hs,q⟩:=h;show{rfl,s,rfl,hs,?_};show iq (p:=Say.isN) (out:=Say.t) rfl _ _ (by change 0+_<=_;rw[s.parts_len];lia) (λx f Y Z a b=>?_) ?_
 ·rw[x.t_eq];show ix0 ?_;show{rfl,?_};change if decide (V.str x.sort=V.str "note")=LZ then _ else _
  have e:decide (V.str x.sort=V.str "note")=x.isN:=((⋯:∀n:Fin 9,decide (V.str (gc n)=V.str "note")=decide (n=2)) x.tag).trans (by cases x<;>rfl);rw[e];cases c:x.isN with
  |true=>rw[MF rfl];rw[<-x.t_eq];show a c
  |false=>rw[MG aO];show b c
 ·change R (.val (.v (.int ((([]:List Tr)++(s.parts.filter Say.isN).map Say.t).length:Int))));rw[bM,aC,s.nts_all];show q
def Oy:GS:=(sIf (oo (gn (av 1 Az (gA1 (aa 0))))) Et cu)
def Mc:GS:=(sIf (gn (av 1 yt (gA1 (aa 0)))) Et cu)
def qv:GP:=λds R=>∃s:Say,ds=[s.t]/\s.size<=1000/\s.isT=LZ/\R (.val (.v .non))
def Oz:Pm (Oy) 1 1 1 (qv):=by
 intro ds R b h;obtain⟨s,rfl,hs,a,q⟩:=h;show{rfl,s,rfl,hs,?_};change if (!s.isT)=LZ then _ else _
 rw[a,MG (by decide)];show q
def vh:GP:=λds R=>∃s:Say,ds=[s.t]/\s.size<=1000/\s.nts=0/\R (.val (.v .non))
def Me:Pm (Mc) 1 1 1 (vh):=by
 intro ds R b h;obtain⟨s,rfl,hs,a,q⟩:=h;show{rfl,s,rfl,hs,?_};change if ((s.nts:Int) != 0)=LZ then _ else _
 rw[a,MG (by decide)];show q
def Say.isNo:Say->Bool
 | .no _=>LZ
 |_=>MA
def Say.isF:Say->Bool
 | .is _ _=>LZ
 | .put _ _=>LZ
 |_=>MA
def O0:GS:=(ak (sIf (gT (gOp (inG MA) (gX (aa 1) (gI 0)) (gC sv))) (ig (av 3 t5 (gaV (aa 0) (gaV (gX (aa 1) (gI 1)) (gA1 (gX (aa 1) (gI 2))))))) cu) (sIf (gT (gOp (eqG MA) (gX (aa 1) (gI 0)) (gS "not"))) (ig (av 1 qv (gA1 (gX (aa 1) (gI 1))))) cu))
def w8:GP:=λds R=>∃(ws:List (Str×Nat))(s:Say),ds=[spT ws,s.t]/\s.size<=1000/\s.own ws/\R (.val (.v .non))
def O1:Pm (O0) 2 1 2 (w8):=by
 intro ds R u h;obtain⟨ws,s,rfl,hs,e,q⟩:=h;have i:decide (V.str s.sort=V.str "not")=s.isNo:=((⋯:∀n:Fin 9,decide (V.str (gc n)=V.str "not")=decide (n=5)) s.tag).trans (by cases s<;>rfl);have a:(!s.isNo)=LZ\/∃y,s=.no y:=(by cases s<;>simp[Say.isNo]);have g:sIf (gT (gOp (eqG MA) (gOp ixG (aa 1) (gC (.v (.int 0)))) (gC (.v (.str "not"))))) (ig (av 1 qv (gaV (gOp ixG (aa 1) (gC (.v (.int 1)))) gaN))) cu { nx:=λm=>R (.val (.v .non)),rt:=As R } ⟨locs 2 (vsW [spT ws,.tup (.v (.str s.sort)::s.rest)]),aY 1 LY⟩:=by
  show ix0 ?_;show{rfl,?_};change if decide (V.str s.sort=V.str "not")=LZ then _ else _
  rw[i];rcases a with a | ⟨y,rfl⟩
  ·rw[MG (by simpa using a)];show q
  ·rw[MF (show y.no.isNo=LZ from rfl)];dsimp only[Say.rest];show{rfl,y,rfl,?_,e,q};simp[Say.size]at hs;lia
 rw[s.t_eq];show ix0 ?_;show{Gr,λc j=>?_};have d:s.isF=MA\/(∃f v,s=.is f v)\/∃f v,s=.put f v:=(by cases s<;>simp[Say.isF]);cases qm j (b:=s.isF) ((⋯:∀n:Fin 9,decide (gc n∈[cW "is",cW "put"])=decide (n∈[3,4])) s.tag |>.trans (by cases s<;>rfl));rcases d with d | ⟨f,v,rfl⟩ | ⟨f,v,rfl⟩
 ·change if s.isF=LZ then _ else _
  rw[d,MG aO];show g
 all_goals
  obtain⟨p,c,l,o,r⟩:=e;change if LZ=LZ then _ else _
  rw[MF rfl];dsimp only[Say.rest];show#v[rfl,ws,f,v,p,c,rfl,l,o,r,g]
theorem Say.parts_size:∀(s x:Say),x∈s.parts->x.size<=s.size
 | .no s,x,h=>by
  rcases aW.mp h with rfl | h
  ·show aJ _
  ·have:=s.parts_size x h;simp only[Say.size];lia
 | .again s,x,h=>by
  rcases aW.mp h with rfl | h
  ·show aJ _
  ·have:=s.parts_size x h;simp only[Say.size];lia
 | .either a b,x,h=>by
  rcases aW.mp h with rfl | h
  ·show aJ _
  ·rcases dO.mp h with h | h
   ·have:=a.parts_size x h;simp only[Say.size];lia
   ·have:=b.parts_size x h;simp only[Say.size];lia
 | .both a b,x,h=>by
  rcases aW.mp h with rfl | h
  ·show aJ _
  ·rcases dO.mp h with h | h
   ·have:=a.parts_size x h;simp only[Say.size];lia
   ·have:=b.parts_size x h;simp only[Say.size];lia
 | .nought,x,h | .every,x,h | .note,x,h | .is _ _,x,h | .put _ _,x,h=>by
  rcases aW.mp h with rfl | h
  ·show aJ _
  ·cases h
def Iw:GS:=(fk [2] (giL (av 1 lg (gA1 (aa 1)))) (.one 2) (ig (av 2 w8 (gaV (aa 0) (gA1 (aa 2))))))
def my:GP:=λds R=>∃(ws:List (Str×Nat))(s:Say),ds=[spT ws,s.t]/\s.size<=1000/\s.good ws/\R (.val (.v .non))
def Iy:Pm (Iw) 3 1 2 (my):=by
 intro ds R f h;obtain⟨ws,s,rfl,hs,b,q⟩:=h;show{rfl,s,rfl,hs,?_};show d7 (I:=λ_ m=>m={[KE (.v (spT ws)),KE (.v s.t),LY],[LY]}) rfl ?_ (λ_ _=>q);intro i x m N c d e;subst d;have a:=aR c;show⟨rfl,ws,x,rfl,by have:=s.parts_size x a;lia,b x a,e _ rfl⟩
end PB
namespace VL
open PySem L2 PySem.Deep
def Ul (i0 iv k:Nat)(fr:List Nat)(i:GI)(t:Tg)(f:GE):GS:=λE m=>i0 < m.loc.length/\i m λds a=>match ds with
 | []=>False
 |d0::b=>gTg t d0 {aY k LY++mv a.loc fr,a.cel} λe=>f e λg d=>match g with
  | .new (.lst (_::r))=>iy d.cel a.loc=LZ/\dg k fr t dh f a.loc (λh c=>match c.loc[iv]? with
    |some (KE (.v j))=>E.nx {c.loc.set i0 (KE (.v (.lst (.lst (j::r)::h)))),c.cel}
    |_=>False) b [] d.cel
  |_=>False
def X3 (l:Lx O W)(f:Rel b W m x)(h0:O.H a=LY)(r:W.F a=LY)(A:∀j,W.C j≠KE a)(D:CellOk b W.F W.H a d):∃e,Lx O e/\e.H=W.H/\e.C=W.C/\(∀c,c≠a->e.F c=W.F c)/\Same W.F e.F/\Rel b e m x/\Rp b e.F (.ref a) d:=by
 have g:Same W.F (dz W.F W.H a):=q5 r;show{{dz W.F W.H a,W.H,W.C},{{λc o z=>g c o (l.same c o z),l.fr,λc z n=>?_,l.cl,l.dm},l.cx},rfl,rfl,λc q=>km q,g,{{v8 f.ok.sub,λj d' E=>?_,f.ok.live,f.ok.dist},λi w hw=>?_,f.len},D.keep r}
 ·by_cases q:c=a
  ·subst q;show .inl h0
  ·have s:dz W.F W.H a c≠LY:=n;rw[km q]at s;show l.nw c z s
 ·obtain⟨u,h,p,G⟩:_:=f.ok.cell j d' E;show{u,h,?_,G.mono g λ_ z=>z};change dz W.F W.H a u=LY;rw[km (λz=>A j (by rw[<-z];show h))];show p
 ·obtain⟨y,h,p⟩:_:=f.loc i w hw;show{y,h,?_};cases w with
  |v d'=>show Rp.mono g p
  |c j=>show p
def abg {b:Type}{a:b}{l:List b}:atI (a::l) 0=KE a:=by unfold atI ixN;rw[MF (by decide),MF (by rw[aZ];omega)];rfl
def X4 {b:B}{O:Wd}{i0 iv k:Nat}{fr:List Nat}{i:GI}{t:Tg}{f:GE}{A:St}{H:Hp}{Q:VK}{D0:Sl}(ht:Di k t)
  (hQ:∀(D g:MB)(u0 v:V) (us rest:List V) (H1:Hp),i0 < A.length->H1 D=KE (.lst (.ref g::rest))->H1 g=KE (.lst (u0::us))->g≠D->A[iv]?=KE (KE v)->D0.nx (A.set i0 (KE (.ref D))) (upd H1 g (.lst (v::us)))->Q (.ref D) H1)
  (h:lfS b O (Ul i0 iv k fr i t f) D0 A H):J7 k fr (lfI b i) (gOf b.K t) (lfT b dh) (lf b f) A H Q:=by
 obtain⟨W,m,E,hW,l,uS,⟨EA,h⟩,q,_⟩:_:=h;rw[uS.len]at EA;show{W,m,_,hW,uS,h,λds m1 s J h1 l1 uR sq D hD=>?_};rcases ds with _ | ⟨d0,ds⟩
 ·show h1.elim
 have h0:W.H D=LY:=l1.dm D hD;obtain⟨lD,JJ,aD,eD,_,fD,cD,_⟩:_:=qe (d:=.lst []) (o:=.lst []) uR.ok hD {[],bp,.nil};cases eD
 let DI:Nat->List V->Hp->Prop:=λi ys w=>∃(W2:Wd)(G:List Tr) (cel:List (Option Tr)) (g:MB) (u0:V) (us rest:List V) (r:List Tr),1<=i/\W2.H=w/\Lx s W2/\Rel b W2 #v[m1.loc,cel] A/\ys=.ref g::rest/\W2.H D=KE (.lst ys)/\W2.F D=LY/\(∀j,W2.C j≠KE D)/\
  g≠D/\s.H g=LY/\W2.H g=KE (.lst (u0::us))/\W2.F g=LY/\(∀j,W2.C j≠KE g)/\Rps b W2.F us r/\Rps b W2.F rest G/\
  dg k fr t dh f m1.loc (λG L=>match L.loc[iv]? with
    |some (KE (.v T))=>E.nx {L.loc.set i0 (KE (.v (.lst (.lst (T::r)::G)))),L.cel}
    |_=>False) (ds.drop (i - 1)) G cel
 have JK:∀(i n:Nat)(ys:List V) (w:Hp),(i+n=(d0::ds).length/\((i=0/\ys=[]/\w=upd s.H D (.lst []))\/DI i ys w))->
   w D=KE (.lst ys)/\((J.stop i w/\Q (.ref D) w)\/(J.go i w/\ys.length < sizeLine/\∃N:List V->Hp->Prop,(∀AM H',N AM H'->∃m',m' < n/\(i+1+m'=(d0::ds).length/\((i+1=0/\AM=[]/\H'=upd s.H D (.lst []))\/DI (i+1) AM H')))/\∀x H3,J.yld i w x H3->Tc k fr (gOf b.K t) (lfT b dh) (lf b f) A D ys N x H3)):=by
  rintro i n ys w ⟨en,⟨rfl,rfl,rfl⟩ | ⟨W2,G,cel,g,u0,us,rest,r,i1,rfl,l2,u,rfl,d1,d2,d3,I,b1,b2,b3,b4,rr,rs,p⟩⟩
  ·show{bp,.inr ?_};have u:=uR.lift lD (λ_=>rfl) JJ;obtain⟨st,go⟩:_:=sq s.F (upd s.H D (.lst [])) (λ_ _ z=>z) u.ok.sub 0;obtain⟨g1,g2⟩:_:=go _ rfl;show{g1,by change 0 < sizeLine;decide,DI 1,λAM H' z=>{n - 1,by rw[aZ]at en;omega,by rw[aZ]at en ⊢;omega,.inr z},λx H3 hy=>?_};obtain⟨W3,e3,l3,wH,r3⟩:_:=yo (W2:={s.F,upd s.H D (.lst []),s.C}) u (g2 x H3 hy);subst e3;show Ar (wH.inner k fr) r3 h1 λm4 σ4 h4 AW FH GQ=>{Gf FH ht GQ,W3,m4,λc m'=>c=LZ/\m'=m4,rfl,AW,#v[rfl,rfl],λcc L W5 h5 l5 zP=>?_};obtain⟨rfl,rfl⟩:_:=h5;show{W5,L,_,rfl,zP,h4,λev m6 U y h6 l6 BL r6=>?_};have GV:Lx (⟨s.F,upd s.H D (.lst []),s.C⟩:Wd) U:=l3.trans (l5.trans l6);rcases ev with d | d | j
   ·show h6.elim
   ·rcases d with _ | _ | (_ | ⟨z0,r⟩) | _ | _ | _ | _<;>try show h6.elim
    obtain⟨lv,h7⟩:_:=h6;obtain⟨g,rfl,p0,p1,p2,xs,p3,p4⟩:_:=r6;obtain⟨k1,k2,k3⟩:_:=qg GV (bp (H:=s.H) (a:=D) (o:=.lst [])) fD cD;have ro:=u.outer GV BL lv;have I:g≠D:=λe=>by
     have w5:=qg (l3.trans l5) (bp (H:=s.H) (a:=D) (o:=.lst [])) fD cD;rw[e,w5.1]at p0;cases p0
    obtain⟨l8,EV⟩:_:=Bu (o:=.lst ([]++[.ref g])) (lD.trans GV) BL.ok hD k2 k3;obtain⟨x0,xs,rfl,pr⟩:∃x0 BH,xs=x0::BH/\Rps b U.F BH r:=(by cases p4 with | cons ph pr=>show{_,_,rfl,pr});show{k1,{U.F,upd U.H D (.lst ([]++[.ref g])),U.C},[],m6.cel,g,x0,xs,[],r,aJ _,rfl,l8,#v[EV,ro.loc,ro.len],rfl,bp,k2,k3,I,?_,?_,p1,p2,pr,.nil,h7}
    ·show(lD.trans (l3.trans l5)).dm g p0
    ·change upd U.H D _ g=_;rw[bc I];show p3
   ·show h6.elim
  ·show{d1,?_};obtain⟨st,go⟩:_:=sq W2.F W2.H l2.same u.ok.sub i;obtain⟨i',rfl⟩:∃i',i=i'+1:={i - 1,()};rw[Nat.add_sub_cancel]at p;by_cases ci:i' < ds.length
   ·have hd:(d0::ds)[i'+1]?=KE ds[i']:=(by rw[List.getElem?_cons_succ];show aB ci);rw[fG ci]at p;obtain⟨g1,g2⟩:_:=go _ hd;obtain⟨hz,p⟩:_:=p;show .inr {g1,by rw[aZ,rs.length];show bQ (nN hz) (by decide),DI (i'+1+1),λAM H' z=>{n - 1,by rw[aZ]at en;omega,by rw[aZ]at en ⊢;omega,.inr z},λx H3 hy=>?_};obtain⟨W3,e3,l3,wH,r3⟩:_:=yo (W2:=W2) u (g2 x H3 hy);subst e3;show Ar (wH.inner k fr) r3 p λm4 σ4 h4 AW FH GQ=>{Gf FH ht GQ,W3,m4,λc m'=>c=LZ/\m'=m4,rfl,AW,#v[rfl,rfl],λcc L W5 h5 l5 zP=>?_};have DG:Lx W2 W5:=l3.trans l5;obtain⟨rfl,rfl⟩:_:=h5;dsimp only[dh]at h4;rw[MF rfl]at h4
    ·show{W5,L,_,rfl,zP,h4,λev m6 U y h6 l6 BL r6=>?_};obtain⟨d',m7,W7,⟨lv,h7⟩,l7,e7,CD,r7⟩:_:=mr l6 BL r6 h6;have BM:Lx W2 W7:=DG.trans l7;obtain⟨k1,k2,k3⟩:_:=qg BM d1 d2 d3;obtain⟨c1,c2,c3⟩:_:=qg BM b2 b3 b4;have ro:=u.outer BM CD lv;obtain⟨l8,EV⟩:_:=Bu (o:=.lst ((.ref g::rest)++[y])) (l2.trans BM) CD.ok hD k2 k3;rw[<-e7];show{k1,{W7.F,upd W7.H D (.lst ((.ref g::rest)++[y])),W7.C},G++[d'],m7.cel,g,u0,us,rest++[y],r,(),rfl,l8,#v[EV,ro.loc,ro.len],rfl,bp,k2,k3,I,b1,?_,c2,c3,rr.mono BM.same,(rs.mono BM.same).append (.cons r7 .nil),h7};change upd W7.H D _ g=_;rw[bc I];show c1
   ·rw[nB ()]at p;show .inl {st (by rw[aZ]at *;omega),?_};change (match m1.loc[iv]? with | some (KE (.v T))=>E.nx {m1.loc.set i0 (KE (.v (.lst (.lst (T::r)::G)))),cel} | _=>False)at p
    rcases e:m1.loc[iv]? with _ | _ | (T | j)
    ·rw[e]at p;show p.elim
    ·rw[e]at p;show p.elim
    ·rw[e]at p;obtain⟨v,ev,rv⟩:_:=u.loc iv _ e;have rv:Rp b W2.F v T:=rv;show hQ D g u0 v us rest W2.H EA d1 b2 I ev ?_;obtain⟨l8,EV⟩:_:=Bu (o:=.lst (v::us)) l2 u.ok b1 b3 b4;have rel8:Rel b ⟨W2.F,upd W2.H g (.lst (v::us)),W2.C⟩ ⟨m1.loc,cel⟩ A:=#v[EV,u.loc,u.len];obtain⟨W9,l9,e9,c9,f9,s9,rel9,r9⟩:_:=X3 (d:=.lst (T::r)) l8 rel8 b1 b3 b4 {_,bp,.cons rv rr};have hD9:W9.H D=KE (.lst (.ref g::rest)):=(by rw[e9];change upd W2.H g _ D=_;rw[bc (Ne.symm I)];show d1);obtain⟨LQ,DH,e10,c10,f10,HJ,Y,FT⟩:_:=X3 (a:=D) (d:=.lst (.lst (T::r)::G)) l9 rel9 hD (by rw[f9 D (Ne.symm I)];show d2) (λj=>by rw[c9];show d3 j) {_,hD9,.cons r9 (rs.mono s9)};have eH:upd W2.H g (.lst (v::us))=LQ.H:=(by rw[e10,e9]);rw[eH];show q _ LQ _ p (l.trans (l1.trans DH).toLe) (l1.trans DH).same (Y.set FT)
    ·rw[e]at p;show p.elim
 show{_,{(d0::ds).length,(),.inl #v[rfl,rfl,rfl]},JK}
section
variable {X:Cx}
def abh {i0 iv:Nat}{d:Str}{l m:Pos}{n:ME}{rest:List ME}{g:GS}{j iter e:MD}{b:mE}{c:Pos}{ns ys:List Str}{fr:List Nat}{cl:List (Str×MB)}{i:GI}{t:Tg}{f:GE}(o:X.N.Nodup)(p:X.N[i0]?=KE d)(q:X.env.scope.names.lookup d=KE .local)(S:og X ns ys fr b cl)(r:X.calm=LZ)
  (hi:VI X e iter i) (u:∀C s H a,VG (cxC X (ns++ys) b cl C s H a) e t) (w:∀C s H a,VE (cxC X (ns++ys) b cl C s H a) j f) (hk:Di ns.length t) (y:i0≠iv) (A:PS X n (Y0 (Sn iv) (gSub (tOp (rIxL X.K) (Sn i0) (tC (.int 0))) (tC (.int 0)) aco))) (E:VSs X rest g)
  (hs:∀x,iJ iter X.env x=pure x:=by intro _;rfl) (G:kA (.ListComp j [{e,iter,[],0}] b c) (KE (.Name d l)) m.line X.env=pure LZ:=by rfl) :
  VSs X (.Assign [.Name d l] (.ListComp j [{e,iter,[],0}] b c) m::n::rest) (ak (Ul i0 iv ns.length fr i t f) g):=⟨λO=>
PSs.sub (Cw (Rr (g:=gOf X.K t) (tt:=lfT X.B dh) (te:=lf X.B f) o p q S r hi.out (λC s H a=>(u C s H a).out) (λC s H a=>cg) (λC s H a=>(w C s H a).out) hs G)
  (Cw A (E.out O))) λD Y H h=>X4 (iv:=iv) (i0:=i0) (D0:={ D with nx:=lfS X.B O g D }) hk (λI J u0 v us rs H1 L Q T ne U z=>by
    show{v,by rw[cM y];show U,_,cY L,I,_,_,_,rfl,rfl,SqL.of Q,abg,J,_,0,0,rfl,rfl,T,by unfold ixN;rw[MF (by decide),MF (by rw[aZ];omega)];rfl,z}) (Li h)⟩
end
end VL
namespace S1
def Gs:m∈longer a c↔∃l∈a,∃v:Nat,v < c/\m=l++[(v:Int)]:=by
 constructor
 ·show tu
 ·intro b;obtain⟨l,d,v,e,rfl⟩:=b;show List.mem_flatMap.mpr {l,d,List.mem_map.mpr {v,dI.mpr e,rfl}}
def Um (cs:List Nat)(l:List Int):Prop:=l.length=cs.length/\∀(i:Nat)(v:Int),l[i]?=KE v->∃c,cs[i]?=KE c/\0<=v/\v < (c:Int)
def Ii {cs:List Nat}{c:Nat}{l:List Int}{v:Int}:Um (cs++[c]) (l++[v])↔Um cs l/\0<=v/\v < (c:Int):=by
 constructor
 ·intro f;obtain⟨a,b⟩:=f;have g:l.length=cs.length:=(by simpa using a);show{{g,λi u hi=>?_},?_}
  ·have h:=(bH.mp hi).1;obtain⟨d,hd,r⟩:=b i u (by rw[bS h];show hi);rw[bS ()]at hd;show#v[d,hd,r]
  ·obtain⟨d,hd,r⟩:=b l.length v ∅;rw[g]at hd;have:c=d:=(by simpa using hd);subst this;show r
 ·intro f;obtain⟨⟨a,b⟩,j⟩:=f;show{by simp[a],λi u hi=>?_};rcases Nat.lt_trichotomy i l.length with q | q | q
  ·rw[bS q]at hi;obtain⟨d,hd,r⟩:=b i u hi;show{d,by rw[bS ()];show hd,r}
  ·subst q;have e:v=u:=(by simpa using hi);subst e;show{c,by rw[a];simp,j}
  ·rw[bR (by rw[aI,cT];lia)]at hi;cases hi
def O2 (cs:List Nat)(l:List Int):l∈df cs↔Um cs l:=by
 suffices z:∀(ds:List Nat)(l:List Int),l∈df ds.reverse↔Um ds.reverse l by
  have:=z cs.reverse l
  rwa [List.reverse_reverse]at this
 intro ds
 induction ds with
 |nil=>
  intro l;change l∈[[]]↔_;rw[bC];constructor
  ·rintro rfl;show{rfl,λi v e=>by simp at e}
  ·rintro⟨h,_⟩;show iO.mp h
 |cons c cs a=>
  intro l;rw[iK,L1,Gs];constructor
  ·intro d;obtain⟨m,f,v,n,rfl⟩:=d;show Ii.mpr {(a m).mp f,(),()}
  ·intro h;have b:l≠[]:=λe=>(by rw[e]at h;have:=h.1;simp at this);obtain⟨m,v,rfl⟩:∃m v,l=m++[v]:={l.dropLast,l.getLast b,(List.dropLast_concat_getLast b).symm};obtain⟨g,j,o⟩:=Ii.mp h;show{m,(a m).mpr g,v.toNat,(),by rw[Int.toNat_of_nonneg j]}
def akg (h:HT.lexLt a b=LZ):a≠b:=by
 intro c;subst c
 induction a with
 |nil=>cases h
 |cons x r d=>rw[HT.lexLt_cons,MF rfl]at h;show d h
def i9 (cs:List Nat):(df cs).Nodup:=(fv cs).ord.imp λh=>akg h
def O3 {cs:List Nat}{l:List Int}{i:Nat}{v:Int}{c:Nat}(a:l∈df cs)(b:cs[i]?=KE c)(h0:0<=v)(d:v < (c:Int)):l.set i v∈df cs:=by
 rw[O2]at a ⊢;show{by rw[eF];show a.1,λj u e=>?_};rw[qF]at e
 split at e
 ·rename_i f
  subst f
  split at e
  ·cases e;show#v[c,b,h0,d]
  ·cases e
 ·show a.2 j u e
def E1 (a:∀c∈cs,c<=6)(b:cs.length<=3):(df cs).length<=216:=by
 rw[xw];show bK (ake cs a) (bK (Nat.pow_le_pow_right (by decide) b) (by decide))
end S1
namespace PB
open PySem L2 VL Bits S1
structure SpOk (ws:List (Str×Nat)):Prop where
 lo:1<=ws.length
 hi:ws.length<=3
 cnt:∀w∈ws,1<=w.2/\w.2<=6
abbrev LL (ws:List (Str×Nat)):List (List Int):=df (ws.map (·.2))
def Uo {ws:List (Str×Nat)}(h:SpOk ws):(LL ws).length<=216:=E1 (λc a=>by
  obtain⟨x,b,rfl⟩:=dA.mp a;show(h.cnt x b).2) (by rw[aC];show h.hi)
def Mf {ws:List (Str×Nat)}(h:SpOk ws){x:Str}{p c:Nat}{v:Int}(lk:look ws x=KE (p,c))(d:0<=v)(e:v < (c:Int)):Can (LL ws) p v:=by
 have g:=Uo h;obtain⟨k,e0,a,_⟩:=By lk;rw[fE]at e0;subst e0;have i:p < ws.length:=(bH.mp a).1;show{i9 _,(),λl b=>?_};have f:=(fv _).wide l b;rw[aC]at f;have:=h.hi;show{(),(),O3 b (by rw[aK,a,rC]) d e}
def Say.W (ws:List (Str×Nat)):Say->Nat->Nat->Rl
 | .nought=>λ_ _ _ _=>False
 | .every=>λ_ _ i j=>j=i
 | .note=>Bx
 | .is f v=>λ_ _=>match look ws f with | some (p,_)=>isR (LL ws) p v | none=>λ_ _=>False
 | .put f v=>λ_ _=>match look ws f with | some (p,_)=>Ug (LL ws) p v | none=>λ_ _=>False
 | .no s=>λ_ _=>L4 (LL ws).length (s.W ws 0 0)
 | .again s=>xx (LL ws).length (s.W ws)
 | .either a b=>mw (LL ws).length (a.rm+1) (a.W ws) (b.W ws)
 | .both a b=>tw (LL ws).length (a.rm+1) (a.W ws) (b.W ws)
abbrev Gu (ws:List (Str×Nat))(s:Say)(d:Tr):Prop:=o8 (LL ws).length (s.rm+1) (s.W ws) d
def Say.lone:Say->Bool
 | .nought=>LZ | .every=>LZ | .is _ _=>LZ | .put _ _=>LZ
 |_=>MA
def ifN {c:Bool}{P Q:Prop}(h:c=MA)(q:Q):if c=LZ then P else Q:=by rw[MG (by rw[h];decide)];show q
def ifY {c:Bool}{P Q:Prop}(h:c=LZ)(p:P):if c=LZ then P else Q:=by rw[MF h];show p
def tE (k:Fin 9):decide (V.str (gc k)=V.str "either")=decide (k=7):=(⋯:∀k:Fin 9,decide (V.str (gc k)=V.str "either")=decide (k=7)) k
def tB (k:Fin 9):decide (V.str (gc k)=V.str "then")=decide (k=8):=(⋯:∀k:Fin 9,decide (V.str (gc k)=V.str "then")=decide (k=8)) k
def tA (k:Fin 9):decide (V.str (gc k)=V.str "again")=decide (k=6):=(⋯:∀k:Fin 9,decide (V.str (gc k)=V.str "again")=decide (k=6)) k
def tN (k:Fin 9):decide (V.str (gc k)=V.str "not")=decide (k=5):=(⋯:∀k:Fin 9,decide (V.str (gc k)=V.str "not")=decide (k=5)) k
def tO (k:Fin 9):decide (V.str (gc k)=V.str "note")=decide (k=2):=(⋯:∀k:Fin 9,decide (V.str (gc k)=V.str "note")=decide (k=2)) k
def tZ (k:Fin 9):decide (V.str (gc k)=V.str "none")=decide (k=0):=(⋯:∀k:Fin 9,decide (V.str (gc k)=V.str "none")=decide (k=0)) k
def tL (k:Fin 9):decide (V.str (gc k)=V.str "all")=decide (k=1):=(⋯:∀k:Fin 9,decide (V.str (gc k)=V.str "all")=decide (k=1)) k
def tI' (k:Fin 9):decide (V.str (gc k)=V.str "is")=decide (k=3):=(⋯:∀k:Fin 9,decide (V.str (gc k)=V.str "is")=decide (k=3)) k
def sfN {c:Bool}{P Q:Prop}(h:c=MA)(q:Q):if (if MA=LZ then !c else c)=LZ then P else Q:=by subst h;rw[MG (by decide)];show q
def sfY {c:Bool}{P Q:Prop}(h:c=LZ)(p:P):if (if MA=LZ then !c else c)=LZ then P else Q:=by subst h;rw[MF (by decide)];show p
def Ds:GS:=(ak (sIf (gT (gOp (eqG MA) (gX (aa 2) (gI 0)) (gS "none"))) (ax (av 1 ny (gA1 (gCB ff (gaE (aa 1) gaN))))) cu) (ak (sIf (gT (gOp (eqG MA) (gX (aa 2) (gI 0)) (gS "all"))) (ax (av 1 k9 (gA1 (gCB ff (gaE (aa 1) gaN))))) cu) (ak (bo 3 (av 3 t5 (gaV (aa 0) (gaV (gX (aa 2) (gI 1)) (gA1 (gX (aa 2) (gI 2))))))) (ak (sIf (gT (gOp (eqG MA) (gX (aa 2) (gI 0)) (gS "is"))) (ax (av 3 su (gaV (aa 1) (gaV (aa 3) (gA1 (gX (aa 2) (gI 2))))))) cu) (ax (av 3 ql (gaV (aa 1) (gaV (aa 3) (gA1 (gX (aa 2) (gI 2)))))))))))
def nh:GP:=λds R=>∃(ws:List (Str×Nat))(s:Say),ds=[spT ws,ltT (LL ws),s.t]/\SpOk ws/\s.lone=LZ/\s.own ws/\Dm (LL ws).length (s.W ws 0 0) R
def Dt:Pm (Ds) 4 1 3 (nh):=by
 intro ds R g h;obtain⟨ws,s,rfl,ok,lo,d,q⟩:=h;have le:=Uo ok;have e:((LL ws).map tI).length=(LL ws).length:=aC ..;rw[s.t_eq];cases s with
 |nought=>
  exists tZ,rfl;show{rfl,(LL ws).length,?_,(),q};rw[<-e]
 |every=>
  exists tZ;exists tL,rfl;show{rfl,(LL ws).length,?_,(),q};rw[<-e]
 |is f v=>
  obtain⟨p,c,l,a,b⟩:=d;dsimp only[Say.W]at q;rw[l]at q;exists tZ;exists tL;dsimp only[Say.rest];show{rfl,ws,f,v,p,c,rfl,l,a,b,?_};exists tI',rfl;dsimp only[Say.rest];show{rfl,LL ws,p,v,rfl,Mf ok l a b,q}
 |put f v=>
  obtain⟨p,c,l,a,b⟩:=d;dsimp only[Say.W]at q;rw[l]at q;exists tZ;exists tL;dsimp only[Say.rest];show{rfl,ws,f,v,p,c,rfl,l,a,b,?_};exists tI';dsimp only[Say.rest];show{rfl,LL ws,p,v,rfl,Mf ok l a b,q}
 |_=>cases lo
def O4:GS:=(ak (bo 3 (av 2 ix (gaV (gX (aa 0) (gI 0)) (gA1 (aa 1))))) (ak (bo 4 (cv 2 [3] (T3 (gaV (gSl (aa 0) (goS (gI 1)) goN) (gA1 (gSl (aa 2) (goS (gI 1)) goN)))) (.tup [0,1]) dh (av 2 mj (gaV (aa 0) (gA1 (av 2 ix (gaV (aa 2) (gA1 (aa 1))))))))) (ax (gOp b9 (gLst (gA1 (aa 3))) (aa 4)))))
def yu (n:Nat)(a:Nat->Rl)(A:Rl)(b:Nat->Rl)(c:Nat):Rl:=if c=0 then o6 n (a 0) A else orR n (a c) (o6 n (o6 n (a 0) A) (b c))
def xb:GP:=λds R=>∃(n k:Nat)(a b:Nat->Rl) (A:Rl) (x y z:Tr),ds=[x,y,z]/\Ax n (k+1) a x/\RelT n A y/\Ax n (k+1) b z/\k<=300/\n<=300/\∀l,LstT (λc=>RelT n (yu n a A b c)) (k+1) l->R (.new (.lst l))
def O5:Pm (O4) 5 1 3 (xb):=by
 intro ds R hl h;obtain⟨n,k,u,w,A,_,_,_,rfl,⟨r,rfl,f⟩,⟨x,rfl,y⟩,⟨m,rfl,h0⟩,hk,g,q⟩:=h;obtain⟨_,C,D,rfl,E⟩:=f.at (c:=0) ();have rl:=f.len;have G:=h0.len;have o:=f.tail;have p:=h0.tail;show aw (bh (i:=0) C) {rfl,n,D,x,_,_,rfl,E,y,g,λne s=>?_};change dg _ _ _ _ _ _ _ (prs (au r (KE 1) LY) (au m (KE 1) LY)) _ _;rw[qj,qj];have pl:(prs (r.drop 1) (m.drop 1)).length=k:=(by rw[Gb,o.len,p.len,mB]);show wb (P:=λc=>RelT n (yu n u A w (c+1))) rfl () (λc d e Y H=>?_) (λbs j=>?_)
 ·obtain⟨a,b,I,J,rfl⟩:=Ln e;obtain⟨n3,rfl,L⟩:=o.get c a I;obtain⟨N,rfl,O⟩:=p.get c b J;show{rfl,n,ne,N,_,_,rfl,s,O,g,λQ T=>{rfl,n,n3,Q,_,_,rfl,L,T,g,λU p6=>H _ {U,rfl,?_}}};unfold yu;rw[MG ()];show p6
 ·rw[pl]at j;have bl:=j.len;show{bg rfl,?_};show{by change 1+bs.length<=_;lia,?_};show q _ ?_;rw[oC k 1];show LstT.append (k:=1) (l:=[iL ne]) (.one {ne,rfl,?_}) j λc d hc z=>?_
  ·unfold yu;rw[MF rfl];show s
  ·rw[oC 1 c];show z
def Mg:GS:=(ak (bo 1 (av 1 lr (gA1 (gX (gX (aa 0) (gI 0)) (gI 0))))) (ak (Ul 2 1 1 [1,0] (giL (aa 0)) (.one 0) (av 3 xb (gaV (aa 0) (gaV (aa 1) (gA1 (gX (aa 2) (gI 0))))))) (ax (aa 2))))
def vi:GP:=λds R=>∃(n k:Nat)(W:Nat->Nat->Rl) (x:Tr),ds=[x]/\o8 n (k+1) W x/\k<=300/\n<=300/\∀d,o8 n (k+1) (xx n W) d->R (.val d)
def js {P:Nat->Tr->Prop}{k:Nat}{l:List Tr}(h:LstT P (k+1) l):∃d a,l=d::a/\P 0 d/\LstT (λc=>P (c+1)) k a:=by
 rcases l with _ | ⟨d,a⟩
 ·have:=h.len;simp at this
 ·show⟨d,a,rfl,h.get 0 d rfl,⟨by have:=h.len;simpa using this,λc x e=>h.get (c+1) x e⟩⟩
def LstT.cons {P:Nat->Tr->Prop}{k:Nat}{d:Tr}{l:List Tr}(h:P 0 d)(h':LstT (λc=>P (c+1)) k l):LstT P (k+1) (d::l):=⟨by rw[aZ,h'.len],λc x e=>by
  cases c with
  |zero=>cases e;show h
  |succ c=>show h'.get c x e⟩
def Mh:Pm (Mg) 3 1 1 (vi):=by
 intro ds R E h;obtain⟨n,k,W,_,rfl,hw,hk,a,q⟩:=h;obtain⟨l,rfl,b⟩:=id hw;obtain⟨_,e0,m,rfl,h0⟩:=b.at (c:=0) ();obtain⟨_,s,u,rfl,w⟩:=h0.at (c:=0) ();have G:=b.len;show aw (bh (i:=0) e0) (aw (bh (i:=0) s) {rfl,n,u,_,rfl,w,a,λf g=>?_});show{fF 2,?_};obtain⟨d0,H,rfl,y,o⟩:=js b;have l2:=o.len;show aw (bh (i:=0) e0) {rfl,n,k,W 0,W 0,_,_,_,_,rfl,y,#v[f,rfl,g],#v[m,rfl,h0],hk,a,λr j=>?_};obtain⟨I,J,rfl,L,A⟩:=js j;show{rfl,?_};show wb (P:=λc=>Ax n (k+1) (yu n (W (c+1)) (Star n (W 0 0)) (W 0))) rfl () (λc d e Y C=>?_) (λbs p=>?_)
 ·show aw (bh (i:=0) e0) {rfl,n,k,W (c+1),W 0,_,_,_,_,rfl,o.get c d e,#v[f,rfl,g],#v[m,rfl,h0],hk,a,λr j=>C _ #v[r,rfl,j]}
 ·show q _ {_,rfl,?_};rw[l2]at p;show LstT.cons {_,rfl,LstT.cons {f,rfl,?_} (A.imp λc d _ z=>z.eq ?_)} (p.imp λr d _ z=>?_)
  ·show g
  ·unfold yu xx;rw[MG (),MG ()]
  ·obtain⟨x,rfl,D⟩:=z;show{x,rfl,D.imp λc d _ z=>z.eq ?_};unfold yu xx;by_cases h:c=0
   ·rw[MF h,MF h,MG ()]
   ·rw[MG h,MG h]
def Gv:GS:=(ak (sIf (gT (gOp (eqG MA) (gX (aa 2) (gI 0)) (gS "either"))) (ax (av 2 sr (gaV (gX (aa 3) (gI 0)) (gA1 (gX (aa 3) (gI 1)))))) cu) (ak (sIf (gT (gOp (eqG MA) (gX (aa 2) (gI 0)) (gS "then"))) (ax (av 2 w6 (gaV (gX (aa 3) (gI 0)) (gA1 (gX (aa 3) (gI 1)))))) cu) (ak (sIf (gT (gOp (eqG MA) (gX (aa 2) (gI 0)) (gS "again"))) (ax (av 1 vi (gA1 (gX (aa 3) (gI 0))))) cu) (ak (sIf (gT (gOp (eqG MA) (gX (aa 2) (gI 0)) (gS "not"))) (ax (gLst (gA1 (gLst (gA1 (av 1 o7 (gA1 (gX (gX (gX (aa 3) (gI 0)) (gI 0)) (gI 0))))))))) cu) (ak (sIf (gT (gOp (eqG MA) (gX (aa 2) (gI 0)) (gS "note"))) (ax (av 1 wz (gA1 (gCB ff (gaE (aa 1) gaN))))) cu) (ax (gLst (gA1 (gLst (gA1 (av 3 nh (gaV (aa 0) (gaV (aa 1) (gA1 (aa 2)))))))))))))))
def lh:GP:=λds R=>∃(ws:List (Str×Nat))(s:Say) (l:List Tr),ds=[spT ws,ltT (LL ws),s.t,.lst l]/\SpOk ws/\s.own ws/\s.rm<=300/\LstT (λc d=>∃y,s.kids[c]?=KE y/\Gu ws y d) s.kids.length l/\∀d,Gu ws s d->R (.new d)/\R (.val d)
def Gw:Pm (Gv) 4 1 4 (lh):=by
 intro ds R E h;obtain⟨ws,s,l,rfl,ok,p,rm,f,q⟩:=h;have le:=Uo ok;have r:((LL ws).map tI).length=(LL ws).length:=aC ..;rw[s.t_eq];have j:=λd hd=>(q d hd).1;have u:=λd hd=>(q d hd).2;clear q;cases s with
 |either a b=>
  obtain⟨x,l,rfl,⟨_,e,g⟩,f⟩:=js (k:=1) f;cases e;obtain⟨y,l,rfl,⟨_,e,m⟩,f⟩:=js (k:=0) f;cases e;exists tE,rfl;show ix0 (ix1 {rfl,_,_,_,_,_,x,y,rfl,g,m,rm,(),j})
 |both a b=>
  obtain⟨x,l,rfl,⟨_,e,g⟩,f⟩:=js (k:=1) f;cases e;obtain⟨y,l,rfl,⟨_,e,m⟩,f⟩:=js (k:=0) f;cases e;exists tE;exists tB,rfl;show ix0 (ix1 {rfl,_,_,_,_,_,x,y,rfl,g,m,rm,(),j})
 |again a=>
  obtain⟨x,l,rfl,⟨_,e,g⟩,f⟩:=js (k:=0) f;cases e;exists tE;exists tB;exists tA,rfl;show ix0 {rfl,_,_,_,x,rfl,g,rm,(),u}
 |no a=>
  obtain⟨x,l,rfl,⟨_,e,g⟩,f⟩:=js (k:=0) f;cases e;exists tE;exists tB;exists tA;exists tN,rfl;obtain⟨xs,rfl,w⟩:=g;obtain⟨_,e0,G,rfl,h0⟩:=w.at (c:=0) ();obtain⟨_,A,C,rfl,D⟩:=h0.at (c:=0) ();show ix0 (aw (bh (i:=0) e0) (aw (bh (i:=0) A) {rfl,_,C,_,rfl,D,(),λo n=>{bg rfl,bg rfl,j _ {_,rfl,.one {_,rfl,.one #v[o,rfl,n]}}}}))
 |note=>
  exists tE;exists tB;exists tA;exists tN;exists tO,rfl;show{rfl,(LL ws).length,?_,(),j};rw[<-r]
 |_=>
  exists tE;exists tB;exists tA;exists tN;exists tO;show{rfl,ws,_,ML (λz=>[_,_,z]) (Say.t_eq _).symm,ok,rfl,p,λo n=>{bg rfl,bg rfl,j _ {_,rfl,.one {_,rfl,.one #v[o,rfl,n]}}}}
def X5:GS:=(ak (kf 3 0 (gLst gaN)) (ak (fk [4,5] (giV (gA1 (av 1 lg (gA1 (aa 2))))) (.one 4) (ak (bo 5 (cv 1 [3] (giT (av 1 rn (gA1 (aa 4)))) (.one 0) dh (gMc "list" 1 Aq gaN))) (ig (Ao 3 (av 4 lh (gaV (aa 0) (gaV (aa 1) (gaV (aa 4) (gA1 (aa 5)))))))))) (ax (gMc "list" 3 Aq gaN))))
theorem pops (b:mv loc [3]=[KE (.c 1)])(e:∀st,iy [LY,KE (.lst st)] loc=LZ):∀(ks its a st:List Tr),its.length=ks.length->a.length+ks.length<=1000000->Q (a++ks) {loc,[LY,KE (.lst st)]}->dg 1 [3] (.one 0) dh (gMc "list" 1 Aq gaN) loc Q its a [LY,KE (.lst (st++ks.reverse))]
 | [],[],a,st,_,_,q=>by
  rw[bX]at q;rw[jU,bX];show q
 |k::ks,d::its,a,st,f,g,q=>by
  rw[aZ]at g;rw[iK,<-dY];show{(),?_};rw[b];show{rfl,aw (x:=k) List.getLast?_concat ?_};show{e _,?_};have i:((st++ks.reverse)++[k]).dropLast=st++ks.reverse:=List.dropLast_concat;change dg _ _ _ _ _ _ _ _ _ [LY,KE (.lst (((st++ks.reverse)++[k]).dropLast))];rw[i];show pops b e ks its (a++[k]) st (by simpa using f) (by rw[aI,cT];lia) ?_;rw[dY];show q
 | [],_::_,_,_,h,_,_=>by cases h
 |_::_,[],_,_,h,_,_=>by cases h
theorem Say.isT_rm:∀s:Say,s.isT=LZ->s.rm=0
 | .nought,_ | .every,_ | .is _ _,_ | .no _,_=>rfl
 | .either a b,h=>by
  simp only[Say.isT,cO]at h;simp only[Say.rm,a.isT_rm h.1,b.isT_rm h.2]
 | .both a b,h=>by
  simp only[Say.isT,cO]at h;simp only[Say.rm,a.isT_rm h.1,b.isT_rm h.2]
 | .note,h | .put _ _,h | .again _,h=>by cases h
def A0:GP:=λds R=>∃(ws:List (Str×Nat))(s:Say),ds=[spT ws,ltT (LL ws),s.t]/\SpOk ws/\s.size<=1000/\s.good ws/\s.rm<=300/\∀d,Gu ws s d->R (.val d)
abbrev woM (ws:List (Str×Nat))(s:Say)(st:List Tr):M:={[KE (.v (spT ws)),KE (.v (ltT (LL ws))),KE (.v s.t),KE (.c 1),LY,LY],[LY,KE (.lst st)]}
abbrev woB:GS:=(ak (bo 5 (cv 1 [3] (giT (av 1 rn (gaV (aa 4) gaN))) (.one 0) dh (gMc "list" 1 Aq gaN))) (ig (Ao 3 (av 4 lh (gaV (aa 0) (gaV (aa 1) (gaV (aa 4) (gaV (aa 5) gaN))))))))
def lj {s0 x:Say}{ks st rest:List Tr}(ok:SpOk ws)(a:x.own ws)(rm:x.rm<=300)(hk:LstT (λc d=>∃y,x.kids[c]?=KE y/\Gu ws y d) x.kids.length ks)(hs:st.length < 1000000)
  (h:∀d,Gu ws x d->gy [4,5] (.one 4) woB E rest (woM ws s0 (st++[d]))):gy [4,5] (.one 4) woB E (x.t::rest) (woM ws s0 (st++ks.reverse)):=by
 have b:=hk.len;have e:x.kids.length<=2:=(by cases x<;>simp[Say.kids]);show{rfl,x,rfl,?_};show pops rfl (λ_=>rfl) ks _ [] st (by rw[aC];show b.symm) (by change 0+_<=_;lia) ?_;show{rfl,rfl,ws,x,ks,rfl,ok,a,rm,hk,λd hd=>{{hs,h d hd},{hs,h d hd}}}
theorem vj {ws:List (Str×Nat)}{s0:Say}{E:v9}(ok:SpOk ws):∀(s:Say)(st rest:List Tr),s.good ws->s.rm<=300->st.length+s.size < 100000->(∀d,Gu ws s d->gy [4,5] (.one 4) woB E rest (woM ws s0 (st++[d])))->gy [4,5] (.one 4) woB E ((s.parts.map Say.t).reverse++rest) (woM ws s0 st)
 | .either a b,st,rest,g,rm,hs,h=>by
  have e:((Say.either a b).parts.map Say.t).reverse++rest=(b.parts.map Say.t).reverse++((a.parts.map Say.t).reverse++((Say.either a b).t::rest)):=(by simp[Say.parts]);have ga:a.good ws:=λx c=>g x (aP _ (eK _ c));have l:b.good ws:=λx c=>g x (aP _ (bW _ c));have p:a.rm+b.rm<=300:=rm;have m:st.length+(a.size+b.size+1) < 100000:=hs;rw[e];show vj ok b st _ l () () λn o=>vj ok a _ _ ga () (by rw[aI,cT];have:=b.size_pos;lia) λi j=>?_;rw[dY];show lj (ks:=[i,n]) ok (g _ aQ) rm (.cons #v[a,rfl,j] (.cons #v[b,rfl,o] .nil)) () h
 | .both a b,st,rest,g,rm,hs,h=>by
  have e:((Say.both a b).parts.map Say.t).reverse++rest=(b.parts.map Say.t).reverse++((a.parts.map Say.t).reverse++((Say.both a b).t::rest)):=(by simp[Say.parts]);have ga:a.good ws:=λx c=>g x (aP _ (eK _ c));have l:b.good ws:=λx c=>g x (aP _ (bW _ c));have p:a.rm+b.rm<=300:=rm;have m:st.length+(a.size+b.size+1) < 100000:=hs;rw[e];show vj ok b st _ l () () λn o=>vj ok a _ _ ga () (by rw[aI,cT];have:=b.size_pos;lia) λi j=>?_;rw[dY];show lj (ks:=[i,n]) ok (g _ aQ) rm (.cons #v[a,rfl,j] (.cons #v[b,rfl,o] .nil)) () h
 | .again a,st,rest,g,rm,hs,h=>by
  have e:((Say.again a).parts.map Say.t).reverse++rest=(a.parts.map Say.t).reverse++((Say.again a).t::rest):=(by simp[Say.parts]);have ga:a.good ws:=λx c=>g x (aP _ c);have m:st.length+(a.size+1) < 100000:=hs;rw[e];show vj ok a st _ ga rm () λi j=>?_;show lj (ks:=[i]) ok (g _ aQ) rm (.cons #v[a,rfl,j] .nil) () h
 | .no a,st,rest,g,rm,hs,h=>by
  have e:((Say.no a).parts.map Say.t).reverse++rest=(a.parts.map Say.t).reverse++((Say.no a).t::rest):=(by simp[Say.parts]);have ga:a.good ws:=λx c=>g x (aP _ c);have m:st.length+(a.size+1) < 100000:=hs;have it:a.isT=LZ:=g _ aQ;rw[e];show vj ok a st _ ga (by rw[a.isT_rm it];lia) () λi j=>?_;show lj (ks:=[i]) ok (g _ aQ) rm (.cons #v[a,rfl,j] .nil) () h
 | .nought,st,rest,g,rm,hs,h=>by
  have w:=lj (ks:=[]) (st:=st) ok (g _ aQ) rm .nil () h
  rwa [jU,bX]at w
 | .every,st,rest,g,rm,hs,h=>by
  have w:=lj (ks:=[]) (st:=st) ok (g _ aQ) rm .nil () h
  rwa [jU,bX]at w
 | .note,st,rest,g,rm,hs,h=>by
  have w:=lj (ks:=[]) (st:=st) ok (g _ aQ) rm .nil () h
  rwa [jU,bX]at w
 | .is f v,st,rest,g,rm,hs,h=>by
  have w:=lj (ks:=[]) (st:=st) ok (g _ aQ) rm .nil () h
  rwa [jU,bX]at w
 | .put f v,st,rest,g,rm,hs,h=>by
  have w:=lj (ks:=[]) (st:=st) ok (g _ aQ) rm .nil () h
  rwa [jU,bX]at w
def X6:Pm (X5) 6 2 3 (A0):=by
 intro ds R b h;obtain⟨ws,s,rfl,ok,hs,a,rm,q⟩:=h;show{bg rfl,?_};show{rfl,s,rfl,hs,?_};have w:=vj (s0:=s) (E:={ nx:=ax (gMc "list" 3 Aq gaN) { nx:=λm=>R (.val (.v .non)),rt:=As R },rt:=As R }) ok s [] [] a rm (by change 0+_ < _;lia) (λd hd=>by
   show{rfl,q d hd})
 rw[bX]at w;show w
end PB
namespace VL
open PySem L2 PySem.Deep PySem.SeqAt
open PyProof.Rows (envOfC)
structure Md (K:aG)(C:MB)(m vD:Str)(st:ME)(ps:List Str)(f:MB)(fd:gO):Prop where
 fn:Fun K m vD st f fd
 cl:Cls K C
 mt:Sy K C m f
 bd:Binds K fd ps []
structure Cd (K:aG)(mg:Str->Option aE)(x m vD:Str)(st:ME)(ps:List Str)(cR f:MB)(fd:gO):Prop where
 fn:Fun K m vD st f fd
 cm:Zq K cR m f
 at_:mg x=KE (.ref cR)
 bd:Binds K fd ps []
structure Kd (K:aG)(mg:Str->Option aE)(x vD:Str)(st:ME)(ps:List Str)(C f:MB)(fd:gO):Prop where
 fn:Fun K "__init__" vD st f fd
 mk_:Mk K C f
 at_:mg x=KE (.ref C)
 bd:Binds K fd ps []
structure Co (P:aV)(w:bA)(K:aG)(mg:Str->Option aE)(base:MC)(k:Nat)(x m:Str)(ps:List Str)(sp:Sp):Prop where
 ex:∃C f fd,Zq K C m f/\i5 P w K mg base CX0 k f fd ps sp/\mg x=KE (.ref C)/\Binds K fd ps []
section
variable {P:aV}{w:bA}{K:aG}{mg:Str->Option aE}{base:MC}{X:Cx}
def vcm (F:Co X.prog X.w X.K X.mg X.base o x j ps (spR X.B n pp g))(q:Room k X.A)(r:VA X (e::i) ga)(hk:o<=k:=by decide)(s:Gl X x:=by rfl)
  (u:(x == ("__debug__":Str))=MA:=by decide) (y:aN (e::i) X.env=(MA,eval e X.env)::aN i X.env:=by rfl) (z:(dP d (aN i X.env)).any (·.1)=MA:=by rfl)
  (D:eval (.Call (.Attribute (.Name x p) j l) (e::i) [] d) X.env=(do
    let m <-eval (.Name x p) X.env
    oV l.atName
    let (f,first) <-jZ [m] (pI m j pl)
    tW d f first (dP d (aN (e::i) X.env)) (nI d (kN [] X.env))):=by rfl) :
  VE X (.Call (.Attribute (.Name x p) j l) (e::i) [] d) (ic n pp g ga):=by
 show#v[?_];obtain⟨C,f,fd,c,F,a,b⟩:=F;show PE.sub (Zr (pl:=pl) c F (q.mono hk) s a b .nil yc r.out u y z D) λE H Q h=>Eu h
def vfm (F:Md K C x a st ps f fd)(S:fq N ps (b7 st))
  (b:Rdx P w K mg base N a st f k g)
  (c:Pm g N.length e ps.length d):Mo P w K mg base (k+1) C x ps (spP #v[P,w,K] ps.length d):=
 {F.cl,f,fd,fn_g F.fn S b c,F.mt,F.bd}
def vfc (F:Cd K mg y x a st ps b f fd)(S:fq N ps (b7 st))
  (c:Rdx P w K mg base N a st f k g)
  (d:Pr p g N.length h ps.length e):Co P w K mg base (k+1) y x ps (spR #v[P,w,K] ps.length p e):=
 {b,f,fd,F.cm,fn_r F.fn S c d,F.at_,F.bd}
def vfk (F:Kd K mg y a st ps C f fd)(S:fq N ps (b7 st))
  (b:Rdx P w K mg base N a st f k g)
  (c:Pr p g N.length e ps.length d):Ko P w K mg base (k+1) y C ps (spR #v[P,w,K] ps.length p d):=
 {f,fd,F.mk_,fn_r F.fn S b c,F.at_,F.bd}
end
end VL
namespace PB
open PySem L2 VL Bits S1
def Iz:GS:=(ak (kf 2 0 (gLst gaN)) (ak (fk [3] (giL (aa 0)) (.one 3) (ig (gMc "list" 2 Bt (gaE (cv 1 [3] (giR (gA1 (aa 1))) (.one 0) dh (gOp b9 (aa 1) (gTup (gA1 (aa 0))))) gaN)))) (ax (aa 2))))
def sx:GP:=λds R=>∃(ls:List (List Int))(n:Nat),ds=[ltT ls,.v (.int n)]/\ls.length<=1000/\n<=100/\(∀l∈ls,l.length<=100)/\R (.new (ltT (longer ls n)))
def I0:Pm (Iz) 4 2 2 (sx):=by
 intro ds R a h;obtain⟨ls,n,rfl,b,d,f,q⟩:=h;show{bg rfl,?_};show rh (I:=λi=>{[KE (.v (ltT ls)),KE (.v (.v (.int n))),KE (.c 1),LY],[LY,KE (.lst ((longer (ls.take i) n).map tI))]}) rfl (λi l N a g=>?_) ?_
 ·have m:=f l (aR a);show{rfl,by change(-1000000:Int)<=(n:Int);lia,by change(n:Int)<=1000000;lia,?_};change dg _ _ _ _ _ _ _ (jg 0 n) _ _;rw[va];show cj (out:=λv:Nat=>tI (l++[(v:Int)])) rfl _ _ (by simp;lia) (λv o Y j=>?_) ?_
  ·show{by change 1<=1000000;lia,by change(l.map _).length+1<=1000000;simp;lia,?_};change Y (.tup (l.map _++[_])) _;have e:tI (l++[(v:Int)])=.tup (l.map (λn=>Tr.v (.int n))++[.v (.int v)]):=(by simp[tI]);rw[<-e];show j
  ·have e:longer (ls.take (i+1)) n=longer (ls.take i) n++(bE n).map λv:Nat=>l++[(v:Int)]:=by
    unfold longer;rw[cV,a];simp
   have p:(longer (ls.take i) n).length<=100000:=by
    rw[sj,bN];show bK (Nat.mul_le_mul (bK (qN _ _) b) d) (by decide)
   show{?_,?_}
   ·rw[bM,aC,aC,cA];lia
   ·show cast (ML N ?_) g;rw[e,bI,dQ];rfl
 ·change R _;rw[cX];show q
def Mi:GS:=(ak (bo 1 (gLst (gA1 (gTup gaN)))) (ak (fk [2] (giT (aa 0)) (.one 2) (bo 1 (av 2 sx (gaV (aa 1) (gA1 (gX (aa 2) (gI 1))))))) (ax (aa 1))))
def pf:GP:=λds R=>∃ws:List (Str×Nat),ds=[spT ws]/\SpOk ws/\R (.val (ltT (LL ws)))
def Ij (a:List (List Int))(cs:List Nat)(c:Nat):ir a (cs++[c])=longer (ir a cs) c:=by unfold ir;rw[kR];rfl
theorem SpOk.take (h:SpOk ws)(i:Nat):(df ((ws.take i).map (·.2))).length<=216:=E1 (λc a=>by
  obtain⟨x,b,rfl⟩:=dA.mp a;show(h.cnt x (oI b)).2) (by rw[aC,bN];have:=h.hi;lia)
def Mj:Pm (Mi) 3 1 1 (pf):=by
 intro ds R a h;obtain⟨ws,rfl,ok,q⟩:=h;show{bg rfl,bg rfl,?_};show rh (I:=λi=>{[KE (.v (spT ws)),KE (.v (ltT (df ((ws.take i).map (·.2))))),LY],[LY]}) rfl (λi x N b c=>?_) ?_
 ·have d:=ok.cnt x (aR b);have e:=ok.hi;show⟨rfl,df ((ws.take i).map (·.2)),x.2,rfl,by have:=ok.take i;lia,(),λl a=>?_,?_⟩
  ·rw[(fv _).wide l a,aC,bN];lia
  ·show cast (ML N ?_) c;rw[cV,b];change({[_,KE (.v (ltT (df ((ws.take i++[x]).map (·.2))))),_],_}:M)=_;rw[bI];unfold df;rw[bB,iH,Ij];rfl
 ·change R _;rw[cX];show q
def adl (C:MB)(ls:List (List Int))(k:Nat)(W:Nat->Nat->Rl)(d:Tr):Prop:=∃x,d=.obj C YB [ltT ls,x]/\o8 ls.length (k+1) W x
def O6 (C:MB):GS:=(ak (T9 C 0 "letters" (aa 1)) (T9 C 0 "ways" (aa 2)))
def xc (C:MB):GR:=λds d R=>∃x y,ds=[x,y]/\d=.obj C [] []/\R (.val (.v .non)) (.obj C YB [x,y])
def O7:Pr 0 (O6 C) 3 0 3 (xc C):=by
 intro ds d R a h;obtain⟨x,y,rfl,rfl,q⟩:=h;show{rfl,rfl,by decide,rfl,rfl,by decide,q}
def MskT (n:Nat)(T:Nat->Nat->Prop)(c:Nat)(d:Tr):Prop:=∃m,d=.v (.int m)/\MaskP n m (T c)
def Bz (W:Nat->Nat->Rl)(a:List Nat)(i:Nat)(c j:Nat):Prop:=∃r,r∈a/\W r c i j
abbrev rmT (rs:List Nat):Tr:=.tup (rs.map λ(r:Nat)=>Tr.v (.int (r:Int)))
def Ask (C:MB)(ls:List (List Int))(k:Nat)(W:Nat->Nat->Rl)(m:Tr)(a:List Nat)(l:List Int):Prop:=adl C ls k W m/\(∀r∈a,r < k+1)/\l∈ls/\ls.length<=300/\k<=300
def B8 (C:MB):GS:=(ak (bo 3 (gMt "list" An (Lv C "letters" (aa 0)) (gaE (aa 2) gaN))) (ak (bo 4 (gOp ux (gLst (gA1 (gI 0))) (gCB ff (gaE (Lv C "ways" (aa 0)) gaN)))) (ak (fk [5] (giT (aa 1)) (.one 5) (bo 4 (cv 2 [3] (T3 (gaV (aa 4) (gA1 (gX (Lv C "ways" (aa 0)) (aa 5))))) (.tup [0,1]) dh (gOp (du λi j=>.int (dR i j)) (aa 0) (gX (aa 1) (aa 2)))))) (ax (aa 4)))))
def lu (C:MB):GP:=λds R=>∃ls k W m a l,ds=[m,rmT a,tI l]/\Ask C ls k W m a l/\∀x,LstT (MskT ls.length (Bz W a (ls.idxOf l))) (k+1) x->R (.val (.lst x))
def B9 {C:MB}:Pm (B8 C) 6 1 3 (lu C):=by
 intro ds R hl h;obtain⟨ls,k,W,_,s,l,rfl,⟨⟨x,rfl,J⟩,L,w,hn,hk⟩,q⟩:=h;obtain⟨f,rfl,hw⟩:=J;have O:=hw.len;have Q:ls.idxOf l < ls.length:=eU.mpr w;show{rfl,rfl,ls,l,rfl,rfl,w,?_};show{bg rfl,rfl,by change(-1000000:Int)<=(f.length:Int);lia,by change(f.length:Int)<=1000000;lia,by change 1 * ((f.length:Int)).toNat<=1000000;lia,?_};show d7 (I:=λi m=>∃y,m={[KE (.v (.obj C YB [ltT ls,.lst f])),KE (.v (rmT s)),KE (.v (tI l)),KE (.v (.v (.int (ls.idxOf l)))),KE (.v (.lst y)),LY],[LY]}/\LstT (MskT ls.length (Bz W (s.take i) (ls.idxOf l))) (k+1) y) {_,rfl,?_} ?_ ?_
 ·rw[Gj,bZ,O];show LstT.rep _ λc _=>⟨0,rfl,(jz _).iff λj _=>⟨λz=>z.elim,λT=>by obtain⟨_,z,_⟩:=T;show by simp at z⟩⟩
 ·intro i r m N A g U;obtain⟨y,rfl,n⟩:=g;have yl:=n.len;obtain⟨_,ey,D,rfl,hz⟩:=hw.at (L r (aR A));have zl:=hz.len;show{rfl,aw (x:=.lst f) rfl (aw (bh ey) ?_)};change dg _ _ _ _ _ _ _ (prs y D) _ _;have pl:(prs y D).length=k+1:=(by rw[Gb,yl,zl,mB]);show wb (P:=MskT ls.length (Bz W (s.take (i+1)) (ls.idxOf l))) rfl () (λc d e Y hY=>?_) (λbs E=>?_)
  ·obtain⟨a,b,ea,eb,rfl⟩:=Ln e;obtain⟨m1,rfl,p1⟩:=n.get c a ea;obtain⟨o,rfl,G⟩:=hz.get c b eb;have h2:ls.idxOf l < o.length:=(by rw[G.1];show Q);have H:o[ls.idxOf l]?=KE o[ls.idxOf l]:=aB h2;show aw (x:=.v (.int o[ls.idxOf l])) (bh (i:=ls.idxOf l) (by rw[aK,H];rfl)) (hY _ {_,rfl,(vb p1 (G.2 _ _ H)).iff λj _=>?_});unfold Bz;rw[cV,A];constructor
   ·rintro(⟨u,z1,p⟩ | z)
    ·show{u,eK _ z1,p}
    ·show{r,bW _ ∅,z}
   ·intro g;obtain⟨u,z1,p⟩:=g;rcases dO.mp z1 with z1 | z1
    ·show .inl #v[u,z1,p]
    ·simp at z1;subst z1;show .inr p
  ·rw[pl]at E;show U _ #v[bs,rfl,E]
 ·intro m g;obtain⟨y,rfl,n⟩:=g;rw[cX]at n;show q y n
def Du (C:MB):GS:=(ax (av 2 vd (gaV (Lv C "letters" (aa 0)) (gA1 (gX (Ke C "masks_from" 3 (lu C) (aa 0) (gaV (aa 1) (gA1 (aa 2)))) (gI 0))))))
def ni (C:MB):GP:=λds R=>∃ls k W m a l,ds=[m,rmT a,tI l]/\Ask C ls k W m a l/\∀mk,MaskP ls.length mk (Bz W a (ls.idxOf l) 0)->R (.new (ltT (pick mk ls ls.length)))
def Dv:Pm (Du C) 3 1 3 (ni C):=by
 intro ds R g h;obtain⟨ls,k,W,_,d,l,rfl,a,q⟩:=h;obtain⟨x,rfl,j⟩:=id a.1;show{rfl,rfl,rfl,rfl,ls,k,W,_,d,l,rfl,a,λy f=>?_};obtain⟨_,e,mk,rfl,b⟩:=f.at (c:=0) ();show aw (bh (i:=0) e) {rfl,ls.length,mk,ls,rfl,b.1,a.2.2.2.1,q mk b}
def O8 (C:MB):GS:=(ax (Ke C "ends_from" 3 (ni C) (aa 0) (gaV (gTup (gA1 (aa 1))) (gA1 (aa 2)))))
def xf (C:MB):GP:=λds R=>∃ls k W m r l,ds=[m,.v (.int (r:Nat)),tI l]/\Ask C ls k W m [r] l/\∀mk,MaskP ls.length mk (W r 0 (ls.idxOf l))->R (.new (ltT (pick mk ls ls.length)))
def O9 {C:MB}:Pm (O8 C) 3 1 3 (xf C):=by
 intro ds R c h;obtain⟨ls,k,W,_,r,l,rfl,a,q⟩:=h;obtain⟨x,rfl,d⟩:=id a.1;show{rfl,rfl,bg rfl,rfl,ls,k,W,_,[r],l,rfl,a,λmk b=>q mk (b.iff λj _=>?_)};unfold Bz;simp
def Gx (C:MB):GS:=(ak (ig (av 2 my (gaV (aa 1) (gA1 (aa 2))))) (ak (bo 3 (av 1 pf (gA1 (aa 1)))) (ig (ic 3 0 (xc C) (gaE (aa 0) (gaV (aa 3) (gA1 (av 3 A0 (gaV (aa 1) (gaV (aa 3) (gA1 (aa 2))))))))))))
def qo (C:MB):GR:=λds d R=>∃ws s,ds=[spT ws,Say.t s]/\d=.obj C [] []/\SpOk ws/\s.size<=1000/\s.good ws/\s.rm<=300/\∀x,adl C (LL ws) s.rm (s.W ws) x->R (.val (.v .non)) x
def Gy:Pr 0 (Gx C) 4 0 3 (qo C):=by
 intro ds d R c h;obtain⟨ws,s,rfl,rfl,ok,hs,a,rm,q⟩:=h;show{rfl,ws,s,rfl,hs,a,?_};show{rfl,ws,rfl,ok,?_};show{rfl,ws,s,rfl,ok,hs,a,rm,λx b=>?_};show{rfl,_,_,rfl,rfl,?_};show q _ #v[x,rfl,b]
structure Row where
 m:List (Option Int)
 ds:List (List (Option Int))
structure RowOk (n:Nat)(r:Row):Prop where
 ml:r.m.length=n
 dl:r.ds.length<=36
 dm:∀d∈r.ds,d.length=n
def put (l:List Int)(p:List (Option Int)):List Int:=(l.zip p).map λx=>x.2.getD x.1
def xy (h:l.length=p.length):(put l p).length=l.length:=by
 unfold put;rw[aC,oQ,h,mB]
def due (l:List Int):List Row->List (List Int)
 | []=>[]
 |r::t=>if put l r.m=l then TupG.srtG (r.ds.map (put l))else due l t
def ly (l m:List Int):List (Option Int):=(m.zip l).map λx=>if x.1=x.2 then LY else KE x.1
def Dw (h:m.length=l.length):(ly l m).length=l.length:=by
 unfold ly;rw[aC,oQ,h,mB]
def agp {l m:List Int}{i:Nat}{o c:Int}(a:m[i]?=KE c)(b:l[i]?=KE o):(ly l m)[i]?=KE (if c=o then LY else KE c):=by
 unfold ly;rw[aK,(lN (z:=(c,o))).mpr #v[a,b]];rfl
def E2 (l:List Int)(ls:List (List Int)):Row:={l.map KE,ls.map (ly l)}
def wid (r:Row)(i:Nat):Row:={r.m.set i LY,r.ds}
abbrev g6:=List (List Int×List (List Int))
def fg (T:List Row)(W:g6):Bool:=W.all λp=>decide (due p.1 T=p.2)
structure TabOk (n:Nat)(T:List Row):Prop where
 rows:∀r∈T,RowOk n r
 few:T.length<=36
def nj (W:g6):Nat->List Row->List Row
 |0,T=>T
 |k+1,T=>nj W k (if fg (T.eraseIdx k) W=LZ then T.eraseIdx k else T)
def qp (W:g6)(p:Nat)(T:List Row)(i:Nat):List Row:=match T[p]? with
 |none=>T
 |some r=>if fg (T.set p (wid r i)) W=LZ then T.set p (wid r i)else T
def ma (W:g6)(p:Nat)(T:List Row)(k:Nat):List Row:=(bE k).foldl (qp W p) T
def jo (W:g6)(n:Nat)(T:List Row)(k:Nat):List Row:=(bE k).foldl (λT p=>ma W p T n) T
def rq (W:g6)(p:Nat)(T:List Row)(k:Nat):ma W p T (k+1)=qp W p (ma W p T k) k:=by
 unfold ma;rw[kD,kR];rfl
def r8 (W:g6)(n:Nat)(T:List Row)(k:Nat):jo W n T (k+1)=ma W k (jo W n T k) n:=by
 unfold jo;rw[kD,kR];rfl
def TabOk.erase (h:TabOk n T)(k:Nat):TabOk n (T.eraseIdx k):={λr a=>h.rows r (List.mem_of_mem_eraseIdx a),bK (List.length_eraseIdx_le _ _) h.few}
theorem RowOk.wid (h:RowOk n r)(i:Nat):RowOk n (wid r i):={by change(r.m.set i LY).length=n;rw[eF,h.ml],h.dl,h.dm}
theorem TabOk.set (h:TabOk n T)(a:RowOk n r):TabOk n (T.set p r):=⟨λx b=>by
  rcases List.mem_or_eq_of_mem_set b with z | z
  · show h.rows x z
  · rw[z];show a,by rw[eF];show h.few⟩
def cnt:List (Option Int)->Nat
 | []=>0
 |none::p=>cnt p
 |some _::p=>cnt p+1
def mu:List Row->Nat
 | []=>0
 |r::T=>1+cnt r.m+mu T
def LeT (a T:List Row):Prop:=a=T\/mu a < mu T
def LeT.trans {A B C:List Row}(h1:LeT A B)(h2:LeT B C):LeT A C:=by
 rcases h1 with rfl | h1
 ·show h2
 ·rcases h2 with rfl | h2
  ·show .inr h1
  ·show .inr (gH h1 h2)
theorem R3:∀p i,p.set i LY=p\/cnt (p.set i LY) < cnt p
 | [],_=>.inl rfl
 |none::p,0=>.inl rfl
 |some v::p,0=>.inr (fF _)
 |c::p,i+1=>by
  rcases R3 p i with h | h
  ·show .inl (by rw[iC,h])
  ·show .inr ?_;rw[iC];cases c with
   |none=>show h
   |some v=>show nN h
theorem Ml:∀T k,LeT (T.eraseIdx k) T
 | [],_=>.inl rfl
 |r::T,0=>.inr (by change mu T < 1+cnt r.m+mu T;lia)
 |r::T,k+1=>by
  rcases Ml T k with h | h
  ·show .inl (by rw[gN,h])
  ·show .inr (by rw[gN];change 1+cnt r.m+mu (T.eraseIdx k) < 1+cnt r.m+mu T;lia)
theorem X7:∀T p i r,T[p]?=KE r->LeT (T.set p (wid r i)) T
 | [],_,_,_,h=>by cases h
 |s::T,0,i,r,h=>by
  have e:s=r:=bU h;subst e;rcases R3 s.m i with z | z
  ·show .inl (by change wid s i::T=s::T;unfold wid;rw[z])
  ·show .inr (by change 1+cnt (s.m.set i LY)+mu T < 1+cnt s.m+mu T;lia)
 |s::T,p+1,i,r,h=>by
  rcases X7 T p i r h with z | z
  ·show .inl (by rw[iC,z])
  ·show .inr (by rw[iC];change 1+cnt s.m+mu (T.set p (wid r i)) < 1+cnt s.m+mu T;lia)
theorem E3 (W:g6):∀k T,LeT (nj W k T) T
 |0,T=>.inl rfl
 |k+1,T=>by
  rw[nj];show LeT.trans (E3 W k _) ?_
  split
  ·show Ml T k
  ·show .inl rfl
def R4 (W:g6)(p:Nat)(T:List Row)(i:Nat):LeT (qp W p T i) T:=by
 unfold qp;cases h:T[p]? with
 |none=>show .inl rfl
 |some r=>
  dsimp only
  split
  ·show X7 T p i r h
  ·show .inl rfl
theorem B0 (W:g6)(p:Nat)(T:List Row):∀k,LeT (ma W p T k) T
 |0=>.inl rfl
 |k+1=>by rw[rq];show LeT.trans (R4 W p _ k) (B0 W p T k)
theorem B1 (W:g6)(n:Nat)(T:List Row):∀k,LeT (jo W n T k) T
 |0=>.inl rfl
 |k+1=>by rw[r8];show LeT.trans (B0 W k _ n) (B1 W n T k)
def iz (W:g6)(n:Nat)(T:List Row):List Row:=jo W n (nj W T.length T) (nj W T.length T).length
def agq (W:g6)(n:Nat)(T:List Row):LeT (iz W n T) T:=LeT.trans (B1 W n _ _) (E3 W _ T)
inductive Gets (W:g6)(n:Nat)(T:List Row):List Row->Prop
 |ref:Gets W n T T
 |step {B:List Row}:Gets W n T B->Gets W n T (iz W n B)
def yw (W:g6)(n:Nat)(T:List Row):Nat->List Row
 |0=>T
 |k+1=>iz W n (yw W n T k)
def Gets.at {W:g6}{n:Nat}{T B:List Row}(h:Gets W n T B):∃k,B=yw W n T k:=by
 induction h with
 |ref=>show{0,rfl}
 |step _ a=>obtain⟨k,rfl⟩:=a;show{k+1,rfl}
theorem yx (e:iz W n (yw W n T k)=yw W n T k):∀d,yw W n T (k+d)=yw W n T k
 |0=>rfl
 |d+1=>by
  change iz W n (yw W n T (k+d))=_;rw[yx e d,e]
def Gets.one {W:g6}{n:Nat}{T A B:List Row}(a:Gets W n T A)(c:iz W n A=A)(b:Gets W n T B)(d:iz W n B=B):A=B:=by
 obtain⟨i,rfl⟩:=a.at;obtain⟨j,rfl⟩:=b.at;rcases Nat.le_total i j with h | h
 ·have z:=yx c (j - i);rw[Nat.add_sub_cancel' h]at z;show z.symm
 ·have z:=yx d (i - j);rw[Nat.add_sub_cancel' h]at z;show z
def dw:Option Int->Tr
 |none=>.v .non
 |some v=>.v (.int v)
abbrev d9 (p:List (Option Int)):Tr:=.tup (p.map dw)
abbrev cp (r:Row):Tr:=.tup [d9 r.m,.tup (r.ds.map d9)]
abbrev gg (T:List Row):Tr:=.lst (T.map cp)
def Gz (l:List a)(m:List b)(f:a->Tr)(g:b->Tr):prs (l.map f) (m.map g)=(l.zip m).map λx=>Tr.tup [f x.1,g x.2]:=by
 unfold prs;rw[List.zipWith_map,List.zip,List.map_zipWith]
theorem yy:∀(n:Nat)(l m:List Int),cmpL n (l.map λx=>Tr.v (.int x)) (m.map λx=>Tr.v (.int x))=LZ
 |_,[],_=>by cases (by assumption:Nat)<;>simp[cmpL]
 |_,_::_,[]=>by simp[cmpL]
 |n,x::l,y::m=>by
  rw[bB,bB,cmpL,yy n l m];cases n<;>rfl
def Mm {l m:List Int}:(l.map λx=>Tr.v (.int x))=(m.map λx=>Tr.v (.int x))↔l=m:={λh=>(iY (λa b z=>by cases z;rfl)).mp h,λh=>by rw[h]}
def X8 {l m:List Int}(h:tI l=tI m):l=m:=Mm.mp (Tr.tup.inj h)
theorem yz:∀(n:Nat)(l m:List (List Int)),cmpL (n+1) (l.map tI) (m.map tI)=LZ
 |_,[],_=>by simp[cmpL]
 |_,_::_,[]=>by simp[cmpL]
 |n,x::l,y::m=>by
  rw[bB,bB,cmpL,yz n l m,nH];show yy n x y
def Dx {l m:List (List Int)}:l.map tI=m.map tI↔l=m:={λh=>(iY (λa b z=>X8 z)).mp h,λh=>by rw[h]}
def vk {c:Bool}{P Q:Prop}[Decidable Q](h:c=LZ↔P)(e:P↔Q):c=decide Q:=by
 by_cases q:Q
 ·rw[MI q];show h.mpr (e.mpr q)
 ·rw[MH q];cases c with
  |false=>rfl
  |true=>show MJ (e.mp (h.mp rfl)) q
def Uq:GS:=(ax (gCB uz (gaE (cv 2 [] (giZ (gaV (aa 0) (gA1 (aa 1)))) (.tup [0,1]) dh (gIf (gT (gOp (wu MA) (aa 1) (gC (.v .non)))) (aa 0) (aa 1))) gaN)))
def t6:GP:=λds R=>∃l p,ds=[tI l,d9 p]/\l.length=p.length/\l.length<=100/\R (.val (tI (put l p)))
def Ur:Pm (Uq) 2 1 2 (t6):=by
 intro ds R d h;obtain⟨l,p,rfl,e,f,q⟩:=h;change dg _ _ _ _ _ _ _ (prs _ _) _ _;rw[Gz];show cj (out:=λx:Int×Option Int=>Tr.v (.int (x.2.getD x.1))) rfl _ _ (by rw[oQ];change 0+_<=_;lia) (λx g Y c=>?_) ?_
 ·obtain⟨a,b⟩:=x;cases b with
  |none=>show c
  |some v=>show c
 ·rw[bM,ku];show q
def X9:GS:=(ax (gOp (eqG MA) (av 2 t6 (gaV (aa 1) (gA1 (aa 0)))) (aa 1)))
def A1:GP:=λds R=>∃l p,ds=[d9 p,tI l]/\l.length=p.length/\l.length<=100/\R (.val (.v (.bl (decide (put l p=l)))))
def Ya:Pm (X9) 2 1 2 (A1):=by
 intro ds R d h;obtain⟨l,p,rfl,e,a,q⟩:=h;show{rfl,l,p,rfl,e,a,yy _ _ _,λc b=>?_};rw[<-vk b Mm]at q;show q
def Us:GS:=(ak (fk [2] (giL (aa 0)) (.one 2) (sIf (gn (av 2 A1 (gaV (gX (aa 2) (gI 0)) (gA1 (aa 1))))) (ax (Dg TupG.srtG (cv 1 [1] (giT (gX (aa 2) (gI 1))) (.one 0) dh (av 2 t6 (gaV (aa 1) (gA1 (aa 0))))))) cu)) (ax (gLst gaN)))
def pj:GP:=λds R=>∃l T,ds=[gg T,tI l]/\(∀r∈T,RowOk l.length r)/\1<=l.length/\l.length<=100/\R (.new (ltT (due l T)))
def Ut:Pm (Us) 3 1 2 (pj):=by
 intro ds R u h;obtain⟨l,T,rfl,j,w,f,q⟩:=h;show d7 (I:=λi m=>m={[KE (.v (gg T)),KE (.v (tI l)),LY],[LY]}/\due l (T.drop i)=due l T) #v[rfl,rfl] ?_ ?_
 ·intro i r m N hi a n;obtain⟨rfl,hd⟩:=a;obtain⟨ml,dl,dm⟩:=j r (aR hi);show{rfl,l,r.m,rfl,ml.symm,f,?_};have g:=cb hi;have o:T.drop i=r::T.drop (i+1):=by
   rw[fG g];rw[aB g]at hi;cases hi;rfl
  rw[o,due]at hd;change if decide (put l r.m=l)=LZ then _ else _
  by_cases c:put l r.m=l
  ·rw[MF c]at hd;rw[MF (MI c)];show cj (out:=λd:List (Option Int)=>tI (put l d)) rfl _ _ (by change 0+_<=_;lia) (λd b Y p=>{rfl,l,d,rfl,(dm d b).symm,f,p}) ?_;show{r.ds.map (put l),by rw[bM,dQ];rfl,by rw[aC];lia,λx s e=>?_,?_}
   ·obtain⟨d,b,rfl⟩:=dA.mp s;have:=xy (dm d b).symm;rw[e]at this;simp at this;lia
   ·rw[hd];show q
  ·rw[MG c]at hd;rw[MG (by rw[MH c];decide)];show n _ #v[rfl,hd]
 ·intro m a;obtain⟨rfl,hd⟩:=a;rw[List.drop_length]at hd;show{bg rfl,?_};rw[<-hd]at q;show q
def Uu:GS:=(ax (gCB uz (gaE (cv 2 [] (giZ (gaV (aa 1) (gA1 (aa 0)))) (.tup [0,1]) dh (gIf (gT (gOp (eqG MA) (aa 0) (aa 1))) (gC (.v .non)) (aa 0))) gaN)))
def y3:GP:=λds R=>∃l m:List Int,ds=[tI l,tI m]/\m.length=l.length/\l.length<=100/\R (.val (d9 (ly l m)))
def Uv:Pm (Uu) 2 1 2 (y3):=by
 intro ds R f h;obtain⟨l,m,rfl,e,g,q⟩:=h;change dg _ _ _ _ _ _ _ (prs _ _) _ _;rw[Gz];show cj (out:=λx:Int×Int=>dw (if x.1=x.2 then LY else KE x.1)) rfl _ _ (by rw[oQ];change 0+_<=_;lia) (λx i Y d=>?_) ?_
 ·obtain⟨a,b⟩:=x;show{rfl,?_};by_cases c:a=b
  ·show sfY (MI (by rw[c])) ?_;dsimp only at d;rw[MF c]at d;show d
  ·show sfN (MH λz=>c (by cases z;rfl)) ?_;dsimp only at d;rw[MG c]at d;show d
 ·rw[bM];unfold ly d9 at q;rw[dQ]at q;show q
def Yb:GS:=(ax (gTup (gaV (aa 0) (gA1 (gCB uz (gaE (cv 1 [0] (giL (aa 1)) (.one 0) dh (av 2 y3 (gaV (aa 1) (gA1 (aa 0))))) gaN))))))
def A2:GP:=λds R=>∃l ls,ds=[tI l,ltT ls]/\(∀m∈ls,m.length=l.length)/\l.length<=100/\ls.length<=1000/\R (.val (cp (E2 l ls)))
def Yc:Pm (Yb) 2 1 2 (A2):=by
 intro ds R i h;obtain⟨l,ls,rfl,a,b,c,q⟩:=h;show cj (out:=λm:List Int=>d9 (ly l m)) rfl _ _ (by change 0+_<=_;lia) (λm d Y e=>{rfl,l,m,rfl,a m d,b,e}) ?_;show{bg rfl,?_};rw[bM];have f:d9 (l.map KE)=tI l:=(by change Tr.tup ((l.map KE).map dw)=_;rw[dQ];rfl);have g:(ls.map (ly l)).map d9=ls.map λm=>d9 (ly l m):=(by rw[dQ];rfl);unfold cp E2 at q;rw[f,g]at q;show q
def Pa:GS:=(ax (gTup (gaV (gOp b9 (gOp b9 (gSl (gX (aa 0) (gI 0)) goN (goS (aa 1))) (gTup (gA1 (gC (.v .non))))) (gSl (gX (aa 0) (gI 0)) (goS (gOp b9 (aa 1) (gI 1))) goN)) (gA1 (gX (aa 0) (gI 1))))))
def R5 {p:List (Option Int)}(h:i < p.length):Tr.tup ((au (p.map dw) LY (KE (i:Int))++[.v .non])++au (p.map dw) (KE ((i:Int)+1)) LY)=d9 (p.set i LY):=by
 rw[show((i:Int)+1)=((i+1:Nat):Int)by lia,o9 _ _ (by rw[aC];lia),ng _ _ (by rw[aC];lia),jN,MF h];change _=Tr.tup ((p.take i++LY::p.drop (i+1)).map dw);rw[bI,bB,nE,nG,dY];rfl
def xg:GP:=λds R=>∃(r:Row)(i:Nat),ds=[cp r,.v (.int i)]/\i < r.m.length/\r.m.length<=100/\R (.val (cp (wid r i)))
def Pb:Pm (Pa) 2 1 2 (xg):=by
 intro ds R a h;obtain⟨r,i,rfl,hi,b,q⟩:=h;show{bg rfl,?_};change(au (r.m.map dw) LY (KE (i:Int))).length+1<=1000000/\(au (r.m.map dw) LY (KE (i:Int))++[Tr.v .non]).length+(au (r.m.map dw) (KE ((i:Int)+1)) LY).length<=1000000/\2<=1000000/\R (.val (.tup [Tr.tup ((au (r.m.map dw) LY (KE (i:Int))++[.v .non])++au (r.m.map dw) (KE ((i:Int)+1)) LY),.tup (r.ds.map d9)]));rw[R5 hi];show{?_,?_,bg rfl,q}
 ·rw[o9 _ _ (by rw[aC];lia),bN,aC];lia
 ·rw[show((i:Int)+1)=((i+1:Nat):Int)by lia,o9 _ _ (by rw[aC];lia),ng _ _ (by rw[aC];lia),aI,bN,dF,aC];change _+1+_<=_;lia
def Uw:GS:=(ak (fk [2,3] (giL (aa 1)) (.tup [2,3]) (sIf (gT (gOp (eqG LZ) (av 2 pj (gaV (aa 0) (gA1 (aa 2)))) (aa 3))) (ax (gC (.v (.bl MA)))) cu)) (ax (gC (.v (.bl LZ)))))
abbrev qr (W:g6):Tr:=.lst (W.map λp=>.tup [tI p.1,ltT p.2])
def t7:GP:=λds R=>∃T W n,ds=[gg T,qr W]/\(∀r∈T,RowOk n r)/\(∀p∈W,p.1.length=n)/\1<=n/\n<=100/\R (.val (.v (.bl (fg T W))))
def Ux:Pm (Uw) 4 1 2 (t7):=by
 intro ds R j h;obtain⟨T,W,n,rfl,b,d,l,o,q⟩:=h;show d7 (I:=λi m=>m={[KE (.v (gg T)),KE (.v (qr W)),LY,LY],[LY]}/\fg T (W.take i)=LZ) #v[rfl,rfl] ?_ ?_
 ·intro i p m N hi a f;obtain⟨rfl,hd⟩:=a;have pn:=d p (aR hi);show{rfl,p.1,T,rfl,by rw[pn];show b,(),(),yz _ _ _,λc g=>?_};cases vk g Dx;change if (!decide (due p.1 T=p.2))=LZ then _ else _
  by_cases c:due p.1 T=p.2
  ·rw[MG (by rw[MI c];decide)];show f _ {rfl,?_};unfold fg at hd ⊢;rw[cV,hi,List.all_append,hd];simp[c]
  ·rw[MF (by rw[MH c];decide)];have e:fg T W=MA:=by
    unfold fg;show qG.mpr λz=>c ?_;show of_decide_eq_true (jS.mp z p (aR hi))
   rw[e]at q;show q
 ·intro m a;obtain⟨rfl,hd⟩:=a;rw[cX]at hd;rw[hd]at q;show q
def Ca:GS:=(ak (fk [2,3] (giD (gaV (gOp (du λi j=>.int (i - j)) (gCB ff (gaE (aa 0) gaN)) (gI 1)) (gaV (uy (gI 1)) (gA1 (uy (gI 1)))))) (.one 2) (ak (bo 3 (gOp b9 (gSl (aa 0) goN (goS (aa 2))) (gSl (aa 0) (goS (gOp b9 (aa 2) (gI 1))) goN))) (sIf (gn (av 2 t7 (gaV (aa 3) (gA1 (aa 1))))) (bo 0 (aa 3)) cu))) (ax (aa 0)))
def Ik {a:Type}(l:List a)(i:Nat)(h:i < l.length):au l LY (KE (i:Int))++au l (KE ((i:Int)+1)) LY=l.eraseIdx i:=by
 rw[show((i:Int)+1)=((i+1:Nat):Int)by lia,o9 _ _ (),ng _ _ (),List.eraseIdx_eq_take_drop_succ]
def ue {a:Type}(l:List a)(i:Nat)(h:i < l.length):(au l LY (KE (i:Int))).length+(au l (KE ((i:Int)+1)) LY).length<=l.length:=by
 rw[show((i:Int)+1)=((i+1:Nat):Int)by lia,o9 _ _ (),ng _ _ (),bN,dF];lia
theorem sy {b c:Type}(f:b->c):∀(l:List b)(i:Nat),(l.map f).eraseIdx i=(l.eraseIdx i).map f
 | [],_=>rfl
 |a::l,0=>rfl
 |a::l,i+1=>by rw[bB,gN,gN,bB,sy f l i]
def Yd (n:Nat):Er n=(bE n).map λi:Nat=>Tr.v (.int ((n:Int) - 1 - (i:Int))):=rfl
def Ye (F:g6->Nat->List Row->List Row):GP:=λds R=>∃T W n,ds=[gg T,qr W]/\TabOk n T/\(∀p∈W,p.1.length=n)/\1<=n/\n<=100/\(TabOk n (F W n T)->R (.val (gg (F W n T))))
abbrev me:GP:=Ye λW _ T=>nj W T.length T
def Cb:Pm (Ca) 4 1 2 (me):=by
 intro ds R C h;obtain⟨T,W,n,rfl,g,s,u,w,q⟩:=h;have few:=g.few;show{T.length,by change((T.map cp).length:Int) - 1=_;rw[aC],rfl,rfl,(),?_};rw[Yd];show d7 (I:=λi m=>∃a,m={[KE (.v (gg a)),KE (.v (qr W)),LY,LY],[LY]}/\TabOk n a/\nj W (T.length - i) a=nj W T.length T/\T.length - i<=a.length) {T,rfl,g,rfl,aJ _} ?_ ?_
 ·intro i x m N d f j;obtain⟨a,rfl,b,e,le⟩:=f;have hi:=cb d;rw[cA]at hi;rw[cG hi]at d;cases d;obtain⟨k,y⟩:∃k,T.length - i=k+1:={T.length - i - 1,()};have l:T.length - (i+1)=k:=();have A:((T.length:Int) - 1 - (i:Int))=(k:Int):=();rw[y]at e le;rw[nj]at e;have o:=b.few;rw[A];have p:Tr.lst (au (a.map cp) LY (KE (k:Int))++au (a.map cp) (KE ((k:Int)+1)) LY)=gg (a.eraseIdx k):=by
   rw[Ik _ _ (by rw[aC];lia),sy]
  have r:=b.erase k;show{bK (ue _ _ (by rw[aC];lia)) (by rw[aC];lia),?_};show{rfl,a.eraseIdx k,W,n,ML (λz=>[z,qr W]) p,r.rows,s,u,w,?_};change if fg (a.eraseIdx k) W=LZ then _ else _
  by_cases c:fg (a.eraseIdx k) W=LZ
  ·rw[MF c]at e ⊢;show j _ {a.eraseIdx k,ML (λz=>({[KE (.v z),KE (.v (qr W)),LY,LY],[LY]}:M)) p,r,by rw[l];show e,?_};rw[List.length_eraseIdx]
   split<;>lia
  ·rw[MG c]at e ⊢;show j _ {a,rfl,b,by rw[l];show e,()}
 ·intro m f;obtain⟨a,rfl,b,e,_⟩:=f;rw[cA,Nat.sub_self]at e;dsimp only at q;rw[<-e]at q;show q b
def y4:GS:=(ak (fk [2,3,4] (giR (gA1 (gCB ff (gaE (aa 0) gaN)))) (.one 2) (fk [3,4] (giR (gA1 (gCB ff (gaE (gX (gX (aa 0) (aa 2)) (gI 0)) gaN)))) (.one 3) (ak (bo 4 (gOp b9 (gOp b9 (gSl (aa 0) goN (goS (aa 2))) (gLst (gA1 (av 2 xg (gaV (gX (aa 0) (aa 2)) (gA1 (aa 3))))))) (gSl (aa 0) (goS (gOp b9 (aa 2) (gI 1))) goN))) (sIf (gn (av 2 t7 (gaV (aa 4) (gA1 (aa 1))))) (bo 0 (aa 4)) cu)))) (ax (aa 0)))
def R6 (l:List a)(i:Nat)(x:a)(h:i < l.length):(au l LY (KE (i:Int))++[x])++au l (KE ((i:Int)+1)) LY=l.set i x:=by
 rw[show((i:Int)+1)=((i+1:Nat):Int)by lia,o9 _ _ (),ng _ _ (),jN,MF h,dY];rfl
abbrev j3:GP:=Ye λW n T=>jo W n T T.length
def abj (W:g6)(p:Nat)(T:List Row)(i:Nat):(qp W p T i).length=T.length:=by
 unfold qp
 split
 ·rfl
 ·split
  ·rw[eF]
  ·rfl
theorem Dy (W:g6)(p:Nat)(T:List Row):∀k,(ma W p T k).length=T.length
 |0=>rfl
 |k+1=>by rw[rq,abj,Dy W p T k]
theorem Mn (W:g6)(n:Nat)(T:List Row):∀k,(jo W n T k).length=T.length
 |0=>rfl
 |k+1=>by rw[r8,Dy,Mn W n T k]
def y6:Pm (y4) 5 1 2 (j3):=by
 intro ds R Y h;obtain⟨T,W,n,rfl,u,G,H,w,q⟩:=h;have few:=u.few;have J:(T.map cp).length=T.length:=aC ..;show{by change(-1000000:Int)<=((T.map cp).length:Int);lia,by change((T.map cp).length:Int)<=1000000;lia,?_};change gy _ _ _ _ (jg 0 (((T.map cp).length:Int)).toNat) _;rw[J,rk];show d7 (I:=λi m=>m={[KE (.v (gg (jo W n T i))),KE (.v (qr W)),LY,LY,LY],[LY]}/\TabOk n (jo W n T i)) #v[rfl,u] ?_ ?_
 ·intro i x m N a b y;obtain⟨rfl,f⟩:=b;have hi:=cb a;rw[cA]at hi;rw[cG hi]at a;cases a;have ol:=Mn W n T i;have L:i < (jo W n T i).length:=();obtain⟨r,A⟩:∃r,(jo W n T i)[i]?=KE r:={_,aB L};have rm:=(f.rows r (aR A)).ml;show aw (x:=cp r) (bh (by rw[aK,A];rfl)) ?_;have ml:(r.m.map dw).length=n:=(by rw[aC,rm]);show{by change(-1000000:Int)<=((r.m.map dw).length:Int);lia,by change((r.m.map dw).length:Int)<=1000000;lia,?_};change gy _ _ _ _ (jg 0 (((r.m.map dw).length:Int)).toNat) _;rw[ml,rk];show d7 (I:=λj m=>m={[KE (.v (gg (ma W i (jo W n T i) j))),KE (.v (qr W)),KE (.v (.v (.int (i:Int)))),LY,LY],[LY]}/\TabOk n (ma W i (jo W n T i) j)) #v[rfl,f] ?_ ?_
  ·intro j x m N' a b e;obtain⟨rfl,d⟩:=b;have g:=cb a;rw[cA]at g;rw[cG g]at a;cases a;have il:=Dy W i (jo W n T i) j;have O:ma W i (jo W n T i) (j+1)=qp W i (ma W i (jo W n T i) j) j:=rq ..;rw[O]at e;generalize ma W i (jo W n T i) j=U at *;have l:i < U.length:=();obtain⟨s,o⟩:∃s,U[i]?=KE s:={_,aB l};have hs:=d.rows s (aR o);have C:=d.few;show aw (x:=cp s) (bh (by rw[aK,o];rfl)) ?_;show{rfl,s,j,rfl,by rw[hs.ml];show g,by rw[hs.ml];show w,?_};show{bg rfl,?_};have ul:(U.map cp).length=U.length:=aC ..;have cl:=ue (U.map cp) i ();have D:Tr.lst ((au (U.map cp) LY (KE (i:Int))++[cp (wid s j)])++au (U.map cp) (KE ((i:Int)+1)) LY)=gg (U.set i (wid s j)):=by
    rw[R6 _ _ _ (),<-List.map_set]
   have E:=d.set (p:=i) (hs.wid j);show{by change(au (U.map cp) LY (KE (i:Int))).length+1<=1000000;lia,?_};show{by change(au (U.map cp) LY (KE (i:Int))++[cp (wid s j)]).length+(au (U.map cp) (KE ((i:Int)+1)) LY).length<=1000000;rw[aI];change _+1+_<=_;lia,?_};show{rfl,U.set i (wid s j),W,n,ML (λz=>[z,qr W]) D,E.rows,G,H,w,?_};have Q:qp W i U j=if fg (U.set i (wid s j)) W=LZ then U.set i (wid s j)else U:=by unfold qp;rw[o]
   rw[Q]at e;change if fg (U.set i (wid s j)) W=LZ then _ else _
   by_cases c:fg (U.set i (wid s j)) W=LZ
   ·rw[MF c]at e ⊢;show e _ {ML (λz=>({[KE (.v z),KE (.v (qr W)),KE (.v (.v (.int (i:Int)))),LY,LY],[LY]}:M)) D,E}
   ·rw[MG c]at e ⊢;show e _ #v[rfl,d]
  ·intro m b;obtain⟨rfl,d⟩:=b;rw[cA]at d ⊢;rw[r8]at y;show y _ #v[rfl,d]
 ·intro m b;obtain⟨rfl,f⟩:=b;rw[cA]at f ⊢;show q f
theorem abk:∀{a b},dw a=dw b->a=b
 |none,LY,_=>rfl
 |none,KE _,h=>by cases h
 |some _,LY,h=>by cases h
 |some a,KE b,h=>by cases h;rfl
def Mp (h:d9 p=d9 q):p=q:=(iY λa b z=>abk z).mp (Tr.tup.inj h)
def abl (h:cp r=cp s):r=s:=by
 have c:=Tr.tup.inj h;have d:d9 r.m=d9 s.m:=(nD c).1;have e:Tr.tup (r.ds.map d9)=.tup (s.ds.map d9):=(nD (nD c).2).1;have f:=(iY λa b z=>Mp z).mp (Tr.tup.inj e);obtain⟨rm,rd⟩:=r;obtain⟨sm,g⟩:=s;cases Mp d;cases f;rfl
def abm {T U:List Row}:T.map cp=U.map cp↔T=U:={λh=>(iY (λa b z=>abl z)).mp h,λh=>by rw[h]}
def agr (n:Nat)(a b:Option Int):gv n (dw a) (dw b)=LZ:=by cases a<;>cases b<;>cases n<;>rfl
theorem x4 {c:Type}{f:c->Tr}{n:Nat}(h:∀a b,gv n (f a) (f b)=LZ):∀(l m:List c),cmpL n (l.map f) (m.map f)=LZ
 | [],_=>by simp[cmpL]
 |_::_,[]=>by simp[cmpL]
 |x::l,y::m=>by rw[bB,bB,cmpL,h,x4 h l m];rfl
def R7 (n:Nat)(p q:List (Option Int)):gv (n+1) (d9 p) (d9 q)=LZ:=x4 (agr n) p q
def R8 (n:Nat)(r s:Row):gv (n+3) (cp r) (cp s)=LZ:=by
 have a:=R7 (n+1) r.m s.m;have b:gv (n+2) (.tup (r.ds.map d9)) (.tup (s.ds.map d9))=LZ:=x4 (R7 n) r.ds s.ds;change cmpL (n+2) [d9 r.m,.tup (r.ds.map d9)] [d9 s.m,.tup (s.ds.map d9)]=LZ;rw[cmpL,cmpL,a,b,cmpL]
 ·rfl
 ·simp
def Mq:GS:=(ak (bo 2 (gLst gaN)) (ak (xv [] (gT (gOp (eqG LZ) (aa 0) (aa 2))) (ak (bo 2 (aa 0)) (bo 0 (av 2 j3 (gaV (av 2 me (gaV (aa 0) (gA1 (aa 1)))) (gA1 (aa 1))))))) (ax (aa 0))))
def vm:GP:=λds R=>∃T W n,ds=[gg T,qr W]/\TabOk n T/\(∀p∈W,p.1.length=n)/\1<=n/\n<=100/\∀a,TabOk n a->Gets W n T a->(a=[]\/iz W n a=a)->R (.val (gg a))
open Classical in
def Mr:Pm (Mq) 3 1 2 (vm):=by
 intro ds R o h;obtain⟨T,W,n,rfl,i,b,d,e,q⟩:=h;show{bg rfl,?_};show{λk m=>∃A B,m={[KE (.v (gg A)),KE (.v (qr W)),KE (.v (gg B))],[LY]}/\TabOk n A/\Gets W n T A/\(B=[]\/A=iz W n B)/\k=if A=B then 0 else mu A+1,{_,T,[],rfl,i,.ref,.inl rfl,rfl},?_}
 intro k m a;obtain⟨A,B,rfl,f,g,j,rfl⟩:=a;show{x4 (R8 36) A B,λc l=>?_};cases vk l abm;change if (!decide (A=B))=LZ then _ else _
 by_cases c:A=B
 ·rw[MG (by rw[MI c];decide)];show q A f g ?_;subst c;rcases j with h | h
  ·show .inl h
  ·show .inr h.symm
 ·rw[MF (by rw[MH c];decide),MG c];show{λm=>m={[KE (.v (gg (iz W n A))),KE (.v (qr W)),KE (.v (gg A))],[LY]}/\TabOk n (iz W n A),?_,?_}
  ·intro m a;obtain⟨rfl,ok⟩:=a;show{_,?_,iz W n A,A,rfl,ok,g.step,.inr rfl,rfl}
   split
   ·lia
   ·rcases agq W n A with h | h
    ·contradiction
    ·lia
  ·show{rfl,A,W,n,rfl,f,b,d,e,λok=>?_};show{rfl,_,W,n,rfl,ok,b,d,e,λok=>#v[rfl,ok]}
theorem Say.rm_le:∀s:Say,s.rm<=s.nts
 | .note=>aJ _
 | .again s=>s.rm_le
 | .either a b=>pC a.rm_le b.rm_le
 | .both a b=>pC a.rm_le b.rm_le
 | .no _=>cP _
 | .nought | .every | .is _ _ | .put _ _=>cP _
open Classical in
noncomputable def aj (ws:List (Str×Nat))(s:Say)(l:List Int):List (List Int):=(LL ws).filter λm=>decide (s.W ws 0 0 ((LL ws).idxOf l) ((LL ws).idxOf m))
noncomputable def dt (ws:List (Str×Nat))(s:Say):g6:=(LL ws).map λl=>(l,aj ws s l)
def tf (W:g6):List Row:=W.map λp=>E2 p.1 p.2
def Uy (C:MB):GS:=(ak (ig (av 2 my (gaV (aa 0) (gA1 (aa 1))))) (ak (ig (av 1 vh (gA1 (aa 1)))) (ak (bo 2 (adi C 3 (qo C) (gaV (aa 0) (gA1 (aa 1))))) (ak (bo 3 (cv 1 [2] (giL (av 1 pf (gA1 (aa 0)))) (.one 0) dh (gTup (gaV (aa 0) (gA1 (Ke C "ends" 3 (xf C) (aa 1) (gaV (gI 0) (gA1 (aa 0))))))))) (ax (av 2 vm (gaV (cv 2 [] (giL (aa 3)) (.tup [0,1]) dh (av 2 A2 (gaV (aa 0) (gA1 (aa 1))))) (gA1 (aa 3)))))))))
def t8:GP:=λds R=>∃ws s,ds=[spT ws,s.t]/\SpOk ws/\s.size<=1000/\s.good ws/\s.nts=0/\(LL ws).length<=36/\∀T,TabOk ws.length T->Gets (dt ws s) ws.length (tf (dt ws s)) T->(T=[]\/iz (dt ws s) ws.length T=T)->R (.val (gg T))
def aki {ls:List (List Int)}(nd:ls.Nodup)(e:ls[k]?=KE x):ls.idxOf x=k:=by
 have b:x∈ls:=aR e;have a:ls.idxOf x < ls.length:=eU.mpr b;have z:ls[ls.idxOf x]?=KE x:=(by rw[aB a,iW]);show(mU a nd).mp (z.trans e.symm)
open Classical in
def Pc {ls:List (List Int)}(nd:ls.Nodup)(h:MaskP ls.length mk p):pick mk ls ls.length=ls.filter λm=>decide (p (ls.idxOf m)):=by
 have:∀k,k<=ls.length->pick mk ls k=(ls.take k).filter λm=>decide (p (ls.idxOf m)):=by
  intro k hk
  induction k with
  |zero=>rfl
  |succ k d=>
   have a:ls[k]?=KE ls[k]:=aB ();have b:=aki nd a;rw[cV,a,Option.toList,List.filter_append,<-d ()];by_cases c:p k
   ·rw[Lz ((h.2 k ()).mpr c) a];simp[b,c]
   ·rw[R0 (qG.mpr λz=>c ((h.2 k ()).mp z))];simp[b,c]
 rw[this _ (aJ _),cX]
def nk (h:m∈aj ws s l):m∈LL ws:=(iG.mp h).1
def B2 (ws:List (Str×Nat))(s:Say)(l:List Int):(aj ws s l).length<=(LL ws).length:=nS ..
def eh (h:l∈LL ws):l.length=ws.length:=by
 rw[(fv _).wide l h,aC]
def vo (h:p∈dt ws s):p.1∈LL ws/\p.2=aj ws s p.1:=by
 obtain⟨l,a,rfl⟩:=dA.mp h;show#v[a,rfl]
def ags (h:(LL ws).length<=36):TabOk ws.length (tf (dt ws s)):=⟨λr c=>by
  obtain⟨p,e,rfl⟩:=dA.mp c;obtain⟨f,a⟩:=vo e;have w:=eh f;show{by change(p.1.map KE).length=_;rw[aC,w],by change(p.2.map (ly p.1)).length<=36;rw[aC,a];show bK (B2 ws s p.1) h,λd hd=>?_};obtain⟨m,b,rfl⟩:=dA.mp hd;rw[a]at b;have g:=eh (nk b);rw[Dw (),w],by unfold tf dt;rw[aC,aC];show h⟩
def Uz {C:MB}:Pm (Uy C) 4 1 2 (t8):=by
 intro ds R c h;obtain⟨ws,s,rfl,ok,hs,d,i,j,q⟩:=h;have rm:s.rm=0:=(by have:=s.rm_le;lia);have E:=ok.hi;have n:=ok.lo;show{rfl,ws,s,rfl,hs,d,?_};show{rfl,s,rfl,hs,i,?_};show{rfl,ws,s,rfl,rfl,ok,hs,d,(),λx e=>{trivial,?_}};obtain⟨y,rfl,G⟩:=id e;show{rfl,ws,rfl,ok,?_};show cj (out:=λl:List Int=>Tr.tup [tI l,ltT (aj ws s l)]) rfl _ _ (by change 0+_<=_;lia) (λl c Y a=>?_) ?_
 ·show{rfl,rfl,rfl,LL ws,s.rm,s.W ws,_,0,l,rfl,{e,λr o=>by simp at o;lia,c,(),()},λmk u=>{bg rfl,?_}};rw[Pc (i9 _) u];show a
 ·rw[bM];have w:((LL ws).map λl:List Int=>Tr.tup [tI l,ltT (aj ws s l)])=(dt ws s).map λp=>Tr.tup [tI p.1,ltT p.2]:=(by unfold dt;rw[dQ];rfl);rw[w];have H:(dt ws s).length=(LL ws).length:=aC ..;show cj (out:=λp:List Int×List (List Int)=>cp (E2 p.1 p.2)) rfl _ _ (by change 0+_<=_;lia) (λp b Y a=>?_) ?_
  ·obtain⟨z,f⟩:=vo b;have A:=eh z;show⟨rfl,p.1,p.2,rfl,λm g=>by rw[f]at g;rw[eh (nk g),A],(),by rw[f];have:=B2 ws s p.1;lia,a⟩
  ·rw[bM];have D:((dt ws s).map λp:List Int×List (List Int)=>cp (E2 p.1 p.2))=(tf (dt ws s)).map cp:=(by unfold tf;rw[dQ];rfl);rw[D];show{rfl,tf (dt ws s),dt ws s,ws.length,rfl,ags j,λp b=>eh (vo b).1,n,(),q}
def abc:Str:="abcdefghijklmnopqrstuvwxyz"
def agt:abc.cps.toList.length=26:=by decide +kernel
def jh (a:Int)(h:0 < m):0<=a % m/\a % m < m:={Int.emod_nonneg _ (Int.ne_of_gt h),Int.emod_lt_of_pos _ h}
def akj (h0:0<=v)(b:v < 26):∃c,atI abc.cps.toList v=KE c:=by
 have hk:v.toNat < abc.cps.toList.length:=(by rw[agt];lia);have a:v=((v.toNat:Nat):Int):=();have q:atI abc.cps.toList ((v.toNat:Nat):Int)=KE abc.cps.toList[v.toNat]:=bh (aB hk);rw[<-a]at q;show{_,q}
structure Wds (ws:List (Str×Nat)):Prop where
 nd:(ws.map (·.1)).Nodup
def Tail (a:Int)(b:Str)(ws:List (Str×Nat)):Prop:=∀(i:Nat)(w:Str×Nat),ws[i]?=KE w->∃c,atI abc.cps.toList ((a+9 * (i:Int)) % 26)=KE c/\w.1=#v[#[c]]++b
def abn {a:Int}:Tail a b []:=λi w h=>by cases h
def Yf {ws:List (Str×Nat)}(h:Tail b d ws)(f:ws.length=i)(e:atI abc.cps.toList ((b+9 * (i:Int)) % 26)=KE c):Tail b d (ws++[(#v[#[c]]++d,k)]):=λj w a=>by
 rcases Nat.lt_or_ge j ws.length with z | z
 ·rw[bS z]at a;show h j w a
 ·have g:j=ws.length:=by
   have:=(bH.mp a).1;rw[aI]at this;simp at this;lia
  subst g;rw[cK (aJ _),Nat.sub_self]at a;cases a;rw[f];show#v[c,e,rfl]
def agu (f:0<=v)(i:v < 26)(j:0<=u)(l:u < 26)(h:atI abc.cps.toList v=KE c)(g:atI abc.cps.toList u=KE c):v=u:=by
 have key:∀n:Nat,n < 26->abc.cps.toList[n]?=KE (97+n):=⋯;have d:=key v.toNat ();have e:=key u.toNat ();have a:atI abc.cps.toList ((v.toNat:Nat):Int)=KE (97+v.toNat):=bh d;have b:atI abc.cps.toList ((u.toNat:Nat):Int)=KE (97+u.toNat):=bh e;rw[show((v.toNat:Nat):Int)=v by lia,h]at a;rw[show((u.toNat:Nat):Int)=u by lia,g]at b;have m:=bU a;have o:=bU b;lia
def abo (h:(#v[#[c]]++x:Str)=#v[#[d]]++x):c=d:=by
 have e:∀c:Nat,((⟨#[c]⟩:Str)++x).cps.toList=c::x.cps.toList:=λc=>by
  change(#[c]++x.cps).toList=_;simp
 have z:=ML (λs:Str=>s.cps.toList) h;simp only[e]at z;show(nD z).1
def Tail.ok {ws:List (Str×Nat)}(h:Tail fi tl ws)(l3:ws.length<=3)(f0:0<=fi)(f1:fi < 26):Wds ws where
 nd:=by
  unfold List.Nodup;rw[List.pairwise_iff_getElem];intro i j hi hj LJ;rw[aC]at hi hj;rw[List.getElem_map,List.getElem_map];obtain⟨c,ec,wc⟩:=h i _ (aB (show i < ws.length by lia));obtain⟨d,ed,wd⟩:=h j _ (aB hj);intro z;rw[wc,wd]at z;have:=abo z;subst this;have m1:=jh (fi+9 * (i:Int)) (m:=26) (by decide);have m2:=jh (fi+9 * (j:Int)) (m:=26) (by decide);have:=agu m1.1 m1.2 m2.1 m2.2 ec ed;lia
def prd:List Nat->Nat
 | []=>1
 |c::cs=>c * prd cs
theorem Ms:∀cs k,prd (cs++[k])=prd cs * k
 | [],k=>by change k * 1=1 * k;lia
 |c::cs,k=>by change c * prd (cs++[k])=c * prd cs * k;rw[Ms cs k,pU]
def abp {cs:List Nat}{k:Nat}{lf:Int}(h:(prd cs:Int) * lf<=24)(b:1<=k)(c:0<=lf):(prd (cs++[k]):Int) * (lf / (k:Int))<=24:=by
 rw[Ms,Int.natCast_mul,Int.mul_assoc];have a:(k:Int) * (lf / (k:Int))<=lf:=Int.mul_ediv_self_le ();show tH (Int.mul_le_mul_of_nonneg_left a (lP _)) h
def Mt:List Str:=["note","put","again","not","all","is","either","then"]
def akk:Bool:=(bE 8).all λv=>Mt.all λw=>decide (w.cps.toList.tail≠(gQ ("abcdefg":Str) LY (KE (v:Int))).cps.toList)
def akl:akk=LZ:=by decide +kernel
def agv (h0:0<=v)(d:v < 8)(hw:w∈Mt):w≠#v[#[c]]++gQ ("abcdefg":Str) LY (KE v):=λe=>by
 have a:v=((v.toNat:Nat):Int):=();have h:=of_decide_eq_true (jS.mp (jS.mp akl v.toNat (dI.mpr ())) w hw);rw[<-a]at h;show h ?_;rw[e];have b:((⟨#[c]⟩:Str)++gQ ("abcdefg":Str) LY (KE v)).cps.toList=c::(gQ ("abcdefg":Str) LY (KE v)).cps.toList:=by
  change(#[c]++(gQ ("abcdefg":Str) LY (KE v)).cps).toList=_;simp
 rw[b];rfl
abbrev iT (i:Int):Tr:=.v (.int i)
def Pd:GS:=(ak (sIf (gT (gOp (du λi j=>.bl (decide (i < j))) (aa 1) (gCB ff (gaE (aa 0) gaN)))) (ax (gX (aa 0) (aa 1))) cu) (ax (gI 0)))
def xh:GP:=λds R=>∃(ns:List Int)(k:Nat),ds=[.scr (ns.map iT),iT k]/\∀x:Int,R (.val (iT x))
def Pe:Pm (Pd) 2 1 2 (xh):=by
 intro ds R a h;obtain⟨ns,k,rfl,q⟩:=h;change if decide ((k:Int) < (((ns.map iT).length:Nat):Int))=LZ then _ else _
 by_cases c:k < ns.length
 ·rw[MF (by rw[aC];show MI ())];show aw (x:=iT ns[k]) (bh (by rw[aK,aB c];rfl)) (q _)
 ·rw[MG (by rw[aC,MH ()];decide)];show q 0
def Mu:GS:=(ak (bo 1 (gOp (ie (λ_ j=>0 < j) λi j=>.int (i % j)) (aa 0) (gI 2147483647))) (ak (bo 2 (gI 1)) (ak (fk [3] (giR (gA1 (gI 16))) (.one 3) (ak (bo 1 (gOp (ie (λ_ j=>0 < j) λi j=>.int (i % j)) (gOp b9 (gOp b9 (gOp b9 (gOp ux (aa 1) (aa 1)) (gOp ux (gOp ux (gI 48271) (aa 3)) (aa 3))) (aa 3)) (gI 3)) (gI 2147483629))) (bo 2 (gOp b9 (gOp ux (aa 2) (gI 2147483587)) (gOp (ie (λ_ j=>0 < j) λi j=>.int (i % j)) (gOp ux (aa 1) (aa 1)) (gI 2147483587)))))) (ak (sIf (gT (gOp (eqG MA) (gOp (ie (λ_ j=>0 < j) λi j=>.int (i % j)) (aa 0) (gI 2)) (gI 0))) (ax (gLst (gaV (gOp (ie Kj λi j=>.int (i / j)) (gCB absG (gaE (aa 0) gaN)) (gI 2)) (gA1 (aa 2))))) cu) (ax (gLst (gaV (gI 0) (gA1 (aa 2)))))))))
def pq:GP:=λds R=>∃n:Int,ds=[iT n]/\∀a b:Int,0<=a->0<=b->R (.new (.lst [iT a,iT b]))
def Mv:Pm (Mu) 4 1 1 (pq):=by
 intro ds R r h;obtain⟨n,rfl,q⟩:=h;have f:=jh n (m:=2147483647) (by decide);show{by change(0:Int) < 2147483647;decide,by decide,by decide,?_};change gy _ _ _ _ (jg 0 16) _;rw[va];show d7 (I:=λi m=>∃x y:Int,m={[KE (.v (iT n)),KE (.v (iT x)),KE (.v (iT y)),LY],[LY]}/\0<=x/\x < 2147483647/\0<=y) {_,_,rfl,f.1,f.2,by decide} ?_ ?_
 ·intro i k m N hk d g;obtain⟨x,y,rfl,j,l,a⟩:=d;have hi:=cb hk;rw[cA]at hi;rw[cG hi]at hk;cases hk;have b:=jh (x * x+48271 * (i:Int) * (i:Int)+(i:Int)+3) (m:=2147483629) (by decide);have o:=jh ((x * x+48271 * (i:Int) * (i:Int)+(i:Int)+3) % 2147483629 * ((x * x+48271 * (i:Int) * (i:Int)+(i:Int)+3) % 2147483629)) (m:=2147483587) (by decide);show{.inl {(),()},.inl {by decide,by decide},.inr {(),()},by change(0:Int) < 2147483629;decide,?_};show{.inr {by decide,by decide},.inl {Int.lt_of_lt_of_le (by decide) b.1,Int.lt_trans b.2 (by decide)},by change(0:Int) < 2147483587;decide,?_};show g _ {_,_,rfl,b.1,Int.lt_trans b.2 (by decide),?_};show Int.add_nonneg (Int.mul_nonneg a (by decide)) o.1
 ·intro m d;obtain⟨x,y,rfl,j,l,a⟩:=d;show{by change(0:Int) < 2;decide,rfl,?_};have z:0<=(if n < 0 then -n else n):=by split<;>lia
  have p:0<=(if n < 0 then -n else n) / 2:=by lia
  by_cases c:n % 2=0
  ·show sfY (MI (show V.int (n % 2)=V.int 0 by rw[c])) ?_;show{{by decide,by decide},bg rfl,q _ _ p a}
  ·show sfN (MH λe=>c (V.int.inj e)) ?_;show{bg rfl,q _ _ (Int.le_refl 0) a}
def Pf:GS:=(ak (bo 2 (gCB Tw (gaE (gOp (eqG MA) (gX (aa 0) (gI 0)) (gI 0)) gaN))) (ak (bo 3 (gOp (ie (λ_ j=>0 < j) λi j=>.int (i % j)) (gX (aa 0) (aa 2)) (aa 1))) (ak (si 0 (gOp (ie Kj λi j=>.int (i / j)) (gX (aa 0) (aa 2)) (aa 1)) (aa 2)) (ax (aa 3)))))
def Dz (a b:Int):Tr:=.lst [iT a,iT b]
def d8:GR:=λds d R=>∃m a b:Int,ds=[iT m]/\d=Dz a b/\0<=a/\0<=b/\0 < m/\m < 1073741824/\∀v c e:Int,0<=v->v < m->0<=c->0<=e->R (.val (iT v)) (Dz c e)
def Pg:Pr 0 (Pf) 4 0 2 (d8):=by
 intro ds d R l h;obtain⟨m,a,b,rfl,rfl,e,f,c,g,q⟩:=h;have i:=jh a c;have j:=jh b c;show{rfl,?_};generalize hk:decide (V.int a=V.int 0)=k;cases k with
 |true=>show{c,#v[c,g],q _ _ _ j.1 j.2 e (Int.ediv_nonneg f (Int.le_of_lt c))}
 |false=>show{c,#v[c,g],q _ _ _ i.1 i.2 (Int.ediv_nonneg e (Int.le_of_lt c)) f}
def U0 {ns:List Int}(h0:0<=v)(b:v < (ns.length:Int)):∃x∈ns,atI (ns.map iT) v=KE (iT x):=by
 have hk:v.toNat < ns.length:=();have a:v=((v.toNat:Nat):Int):=();have q:atI (ns.map iT) ((v.toNat:Nat):Int)=KE (iT ns[v.toNat]):=bh (by rw[aK,aB hk];rfl);rw[<-a]at q;show{_,jR hk,q}
def U1 {ns:List Str}(h0:0<=v)(b:v < (ns.length:Int)):∃x∈ns,atI (ns.map λx=>Tr.v (.str x)) v=KE (.v (.str x)):=by
 have hk:v.toNat < ns.length:=();have a:v=((v.toNat:Nat):Int):=();have q:atI (ns.map λx=>Tr.v (.str x)) ((v.toNat:Nat):Int)=KE (.v (.str ns[v.toNat])):=bh (by rw[aK,aB hk];rfl);rw[<-a]at q;show{_,jR hk,q}
def akm (h0:0<=v)(a:v < 8):(gQ ("abcdefg":Str) LY (KE v)).length<=7:=by
 have z:v=0\/v=1\/v=2\/v=3\/v=4\/v=5\/v=6\/v=7:=();rcases z with z | z | z | z | z | z | z | z<;>subst z<;>decide +kernel
def ixN0 (h:Q 0):kn (ixN (n+1) 0) Q:=aw (by unfold ixN;rw[MF (by decide),MF ()];rfl) h
def Jh:GS:=(ak (kf 2 1 (av 1 pq (gA1 (aa 0)))) (ak (bo 3 (ic 2 0 d8 (gaE (aa 2) (gA1 (gI 26))))) (ak (bo 4 (gS "abcdefghijklmnopqrstuvwxyz")) (ak (bo 5 (gX (gLst (gaV (gI 8) (gaV (gI 8) (gaV (gI 6) (gaV (gI 8) (gaV (gI 12) (gaV (gI 8) (gaV (gI 4) (gA1 (gI 24)))))))))) (ic 2 0 d8 (gaE (aa 2) (gA1 (gI 8)))))) (ak (bo 6 (gCB (two λi j=>if j > i then j else i) (gaE (aa 1) (gaE (gOp b9 (gI 1) (ic 2 0 d8 (gaE (aa 2) (gA1 (gI 3))))) gaN)))) (ak (bo 7 (gSl (gS "abcdefg") goN (goS (ic 2 0 d8 (gaE (aa 2) (gA1 (gI 8))))))) (ak (kf 8 0 (gLst gaN)) (ak (fk [9,10] (giR (gA1 (aa 6))) (.one 9) (ak (bo 10 (gCB (two λi j=>if j < i then j else i) (gaE (gX (gLst (gaV (gI 2) (gaV (gI 3) (gaV (gI 4) (gaV (gI 1) (gaV (gI 6) (gA1 (gI 5)))))))) (ic 2 0 d8 (gaE (aa 2) (gA1 (gI 6))))) (gaE (aa 5) gaN)))) (ak (bo 5 (gOp (ie Kj λi j=>.int (i / j)) (aa 5) (aa 10))) (ig (Ao 8 (gTup (gaV (gOp b9 (gX (aa 4) (gOp (ie (λ_ j=>0 < j) λi j=>.int (i % j)) (gOp b9 (aa 3) (gOp ux (gI 9) (aa 9))) (gI 26))) (aa 7)) (gA1 (aa 10))))))))) (ak (bo 11 (gX (gLst (gaV (gS "note") (gaV (gS "put") (gaV (gS "again") (gaV (gS "not") (gaV (gS "all") (gaV (gS "is") (gaV (gS "either") (gA1 (gS "then")))))))))) (ic 2 0 d8 (gaE (aa 2) (gA1 (gI 8)))))) (ak (sIf (gT (gOp (eqG MA) (ic 2 0 d8 (gaE (aa 2) (gA1 (gI 8)))) (gI 7))) (si 8 (gTup (gaV (aa 11) (gA1 (gX (gX (aa 8) (gI 0)) (gI 1))))) (gI 0)) cu) (ax (gCB uz (gaE (aa 8) gaN)))))))))))))
def tj:GP:=λds R=>∃n l:Int,ds=[iT n,iT l]/\1<=l/\l<=3/\∀ws,SpOk ws->Wds ws->prd (ws.map (·.2))<=24->l<=(ws.length:Int)->R (.val (spT ws))
def Ji:Pm (Jh) 12 3 2 (tj):=by
 intro ds R hl h;obtain⟨n,l,rfl,l1,l3,q⟩:=h;show{rfl,n,rfl,λa b d f=>?_};show{rfl,_,_,_,rfl,rfl,d,f,by decide,by decide,λC a b f0 f1 d f=>?_};show{bg rfl,?_};show{rfl,_,_,_,rfl,rfl,d,f,by decide,by decide,λv a b g j d f=>?_};obtain⟨lf,L,e⟩:=U0 (ns:=[8,8,6,8,12,8,4,24]) g j;show aw e ?_;have o:1<=lf/\lf<=24:=by
  simp only[aW,dG,or_false]at L;lia
 clear e L g j;show{rfl,_,_,_,rfl,rfl,d,f,by decide,by decide,λv a b g j d f=>?_};obtain⟨p,O,mn1,mn3,mnl⟩:∃p:Nat,(if 1+v > l then 1+v else l)=(p:Int)/\1<=p/\p<=3/\l<=(p:Int):=by
  show{(if 1+v > l then 1+v else l).toNat,?_,?_,?_,?_}<;>split<;>lia
 clear g j;show{rfl,_,_,_,rfl,rfl,d,f,by decide,by decide,λu a b Q T d f=>?_};show{bg rfl,bg rfl,?_};have tll:=akm Q T;show{by change(-1000000:Int)<=if 1+v > l then 1+v else l;lia,by change(if 1+v > l then 1+v else l)<=1000000;lia,?_}
 change gy _ _ _ _ (jg 0 (if 1+v > l then 1+v else l).toNat) _
 rw[O,bZ,va];have U:∀ws,SpOk ws->prd (ws.map (·.2))<=24->l<=(ws.length:Int)->Wds ws->R (.val (spT ws)):=λws h1 h2 h3 h4=>q ws h1 h4 h2 h3;clear q;show d7 (I:=λi m=>∃(lf:Int)(ws:List (Str×Nat)) (a b:Int),m={[KE (.v (iT n)),KE (.v (iT l)),KE (.c 2),KE (.v (iT C)),KE (.v (.v (.str "abcdefghijklmnopqrstuvwxyz"))),KE (.v (iT lf)),KE (.v (iT p)),KE (.v (.v (.str (gQ ("abcdefg":Str) LY (KE u))))),KE (.c 1),LY,LY,LY],[LY,KE (.lst (ws.map pT)),KE (Dz a b)]}/\ws.length=i/\(∀w∈ws,1<=w.2/\w.2<=6)/\Tail C (gQ ("abcdefg":Str) LY (KE u)) ws/\(prd (ws.map (·.2)):Int) * lf<=24/\1<=lf/\lf<=24/\0<=a/\0<=b) {lf,[],a,b,?_,rfl,(λw hw=>nomatch hw),abn,?_,o.1,o.2,d,f} ?_ ?_
 ·rw[<-O];rfl
 ·change(1:Int) * lf<=24;lia
 ·clear a b d f lf o;intro i k m N hk E hN;obtain⟨lf,ws,a,b,rfl,s,G,D,H,o,Y,d,f⟩:=E;have hi:=cb hk;rw[cA]at hi;rw[cG hi]at hk;cases hk;show{bg rfl,?_};show{rfl,_,_,_,rfl,rfl,d,f,by decide,by decide,λv a b g j d f=>?_};obtain⟨x,J,e⟩:=U0 (ns:=[2,3,4,1,6,5]) g j;show aw e ?_;have x1:1<=x/\x<=6:=by
   simp only[aW,dG,or_false]at J;lia
  obtain⟨c,ec,c1,c6,cl⟩:∃c:Nat,(if lf < x then lf else x)=(c:Int)/\1<=c/\c<=6/\(c:Int)<=lf:=by
   show{(if lf < x then lf else x).toNat,?_,?_,?_,?_}<;>split<;>lia
  have m1:=jh (C+9 * (i:Int)) (m:=26) (by decide);obtain⟨ch,LW⟩:=akj m1.1 m1.2;show{{by change 0 < (if lf < x then lf else x);lia,by change(if lf < x then lf else x) < 1073741824;lia},?_}
  show{rfl,.inl {by decide,by decide},by change(0:Int) < 26;decide,?_};show{by decide +kernel,?_};show aw LW ?_;show{by change 1+_<=_;lia,bg rfl,?_};show{by change(ws.map pT).length < 1000000;rw[aC];lia,?_};show hN _ {lf / c,ws++[(#v[#[ch]]++gQ ("abcdefg":Str) LY (KE u),c)],a,b,?_,by rw[aI,s];rfl,λw hw=>?_,Yf D s LW,?_,?_,?_,d,f}
  ·change({[KE (.v (iT n)),KE (.v (iT l)),KE (.c 2),KE (.v (iT C)),KE (.v (.v (.str "abcdefghijklmnopqrstuvwxyz"))),KE (.v (iT (lf / (if lf < x then lf else x)))),KE (.v (iT p)),KE (.v (.v (.str (gQ ("abcdefg":Str) LY (KE u))))),KE (.c 1),LY,LY,LY],[LY,KE (.lst (ws.map pT++[.tup [.v (.str (#v[#[ch]]++gQ ("abcdefg":Str) LY (KE u))),iT (if lf < x then lf else x)]])),KE (Dz a b)]}:M)=_
   rw[bI,ec];rfl
  ·rcases dO.mp hw with hw | hw
   ·show G w hw
   ·cases bC.mp hw;show#v[c1,c6]
  ·rw[bI];show abp H c1 ()
  ·show(Int.le_ediv_iff_mul_le ()).mpr ()
  ·show tH (Int.ediv_le_self _ ()) Y
 ·clear a b d f lf o;intro m E;obtain⟨lf,ws,a,b,rfl,s,G,D,H,o,Y,d,f⟩:=E;rw[cA]at s;have A:SpOk ws:={(),(),G};have wds:Wds ws:=D.ok () f0 f1;have pr:prd (ws.map (·.2))<=24:=by
   have h:=tH (Int.mul_le_mul_of_nonneg_left o (lP (prd (ws.map (·.2))))) H;lia
  show{bg rfl,?_};show{rfl,_,_,_,rfl,rfl,d,f,by decide,by decide,λv a b g j d f=>?_};obtain⟨x,J,e⟩:=U1 (ns:=Mt) g j;show aw e ?_;show{rfl,_,_,_,rfl,rfl,d,f,by decide,by decide,λv a b g j d f=>{rfl,?_}};by_cases c:v=7
  ·show sfY (MI (by rw[c])) ?_;obtain⟨w,r,rfl⟩:∃w r,ws=w::r:=by
    rcases ws with _ | ⟨w,r⟩
    ·simp at s;lia
    ·show#v[w,r,rfl]
   show ix0 ?_;show{bg rfl,?_};show ixN0 ?_;show U ((x,w.2)::r) {A.lo,A.hi,λy hy=>?_} pr (by rw[aZ]at s ⊢;lia) #v[?_]
   ·rcases aW.mp hy with rfl | hy
    ·show A.cnt w aQ
    ·show A.cnt y (aP _ hy)
   ·have nd:=wds.nd;rw[bB,List.nodup_cons]at nd ⊢;show{λz=>?_,nd.2};obtain⟨y,hy,ey⟩:=dA.mp z;obtain⟨i,hi⟩:=kW.mp hy;obtain⟨ch,_,e2⟩:=D (i+1) y hi;show agv Q T J (ey.symm.trans e2)
  ·show sfN (MH λe=>c (V.int.inj e)) ?_;show U ws A pr () wds
def G0:GS:=(ak (bo 1 (gLst (gA1 (gTup gaN)))) (ak (fk [2,3,4,5] (giT (aa 0)) (.tup [2,3]) (ak (bo 4 (gLst gaN)) (ak (fk [5] (giL (aa 1)) (.one 5) (bo 4 (gOp b9 (aa 4) (cv 1 [5] (giR (gA1 (aa 3))) (.one 0) dh (gOp b9 (aa 1) (gTup (gA1 (aa 0)))))))) (bo 1 (aa 4))))) (ax (aa 1))))
def qt:GP:=λds R=>∃ws:List (Str×Nat),ds=[spT ws]/\SpOk ws/\R (.val (ltT (LL ws)))
def G1:Pm (G0) 6 1 1 (qt):=by
 intro ds R a h;obtain⟨ws,rfl,ok,q⟩:=h;have s:=ok.hi;show{bg rfl,bg rfl,?_};show rh (I:=λi=>{[KE (.v (spT ws)),KE (.v (ltT (df ((ws.take i).map (·.2))))),LY,LY,LY,LY],[LY]}) rfl (λi x N c d=>?_) ?_
 ·have f:=ok.cnt x (aR c);have g:=ok.take i;have b:=ok.take (i+1);have en:df ((ws.take (i+1)).map (·.2))=longer (df ((ws.take i).map (·.2))) x.2:=by
   rw[cV,c];change df ((ws.take i++[x]).map (·.2))=_;rw[bI];unfold df;rw[bB,iH,Ij]
  have wide:∀l∈df ((ws.take i).map (·.2)),l.length<=3:=λl a=>by
   rw[(fv _).wide l a,aC,bN];lia
  rw[en]at d b;generalize df ((ws.take i).map (·.2))=ls at *;show{bg rfl,?_};show rh (I:=λj=>{[KE (.v (spT ws)),KE (.v (ltT ls)),KE (.v (.v (.str x.1))),KE (.v (iT x.2)),KE (.v (ltT (longer (ls.take j) x.2))),LY],[LY]}) rfl (λj l m a o=>?_) ?_
  ·have u:=wide l (aR a);show{by change(-1000000:Int)<=(x.2:Int);lia,by change(x.2:Int)<=1000000;lia,?_};change dg _ _ _ _ _ _ _ (jg 0 x.2) _ _;rw[va];show cj (out:=λv:Nat=>tI (l++[(v:Int)])) rfl _ _ (by simp;lia) (λv w Y p=>?_) ?_
   ·show{by change 1<=1000000;lia,by change(l.map _).length+1<=1000000;simp;lia,?_};change Y (.tup (l.map _++[_])) _;have e:tI (l++[(v:Int)])=.tup (l.map (λn=>Tr.v (.int n))++[.v (.int v)]):=(by simp[tI]);rw[<-e];show p
   ·have e:longer (ls.take (j+1)) x.2=longer (ls.take j) x.2++(bE x.2).map λv:Nat=>l++[(v:Int)]:=by
     unfold longer;rw[cV,a];simp
    have y:(longer (ls.take j) x.2).length<=100000:=by
     rw[sj,bN];show bK (Nat.mul_le_mul (bK (qN _ _) g) f.2) (by decide)
    have r:(longer (ls.take j) x.2).map tI++([]++(bE x.2).map λv:Nat=>tI (l++[(v:Int)]))=(longer (ls.take (j+1)) x.2).map tI:=by
     rw[e,bM,bI,dQ];rfl
    show{by change((longer (ls.take j) x.2).map tI).length+([]++(bE x.2).map λv:Nat=>tI (l++[(v:Int)])).length<=1000000;rw[bM,aC,aC,cA];lia,?_};show cast (ML (λz=>m ({[KE (.v (spT ws)),KE (.v (ltT ls)),KE (.v (.v (.str x.1))),KE (.v (iT x.2)),KE (.v (.lst z)),LY],[LY]}:M)) r.symm) o
  ·rw[cX];show d
 ·change R _;rw[cX];show q
theorem fu:∀{ws w} i,(ws.map (·.1)).Nodup->w∈ws->∃p,wg w.1 ws i=KE (p,w.2)
 |v::r,w,i,nd,h=>by
  rw[bB,List.nodup_cons]at nd;rcases aW.mp h with e | e
  ·subst e;show{i,MF rfl}
  ·obtain⟨p,a⟩:=fu (i+1) nd.2 e;have ne:v.1≠w.1:=λz=>nd.1 (by rw[z];show oU e);show{p,by rw[wg,MG ne,a]}
def Ph:GS:=(ak (Lm (.tup [3,4]) (gX (aa 2) (ic 2 0 d8 (gaE (aa 1) (gA1 (gCB ff (gaE (aa 2) gaN))))))) (ax (gX (gLst (gaV (gTup (gaV (gS "is") (gaV (aa 3) (gA1 (ic 2 0 d8 (gaE (aa 1) (gA1 (aa 4)))))))) (gaV (gTup (gaV (gS "put") (gaV (aa 3) (gA1 (ic 2 0 d8 (gaE (aa 1) (gA1 (aa 4)))))))) (gaV (gTup (gA1 (gS "all"))) (gA1 (gTup (gA1 (gS "none")))))))) (aa 0))))
def Lone (ws:List (Str×Nat))(st:Int)(s:Say):Prop:=s.good ws/\s.isT=decide (st≠1)/\s.nts=0/\s.size=1
def xi:GR:=λds d R=>∃st a b ws,ds=[iT st,spT ws]/\d=Dz a b/\0<=st/\st<=3/\0<=a/\0<=b/\SpOk ws/\Wds ws/\∀s c e,0<=c->0<=e->Lone ws st s->R (.val s.t) (Dz c e)
def Pi:Pr 1 (Ph) 5 0 3 (xi):=by
 intro ds d R C h;obtain⟨st,a,b,ws,rfl,rfl,s0,D,c,e,ok,j,q⟩:=h;have E:(ws.map pT).length=ws.length:=aC ..;have G:=ok.hi;have H:=ok.lo;show{rfl,_,_,_,rfl,rfl,c,e,by change(0:Int) < ((ws.map pT).length:Int);lia,by change((ws.map pT).length:Int) < 1073741824;lia,λv a b I l c e=>?_};have m:v < ((ws.map pT).length:Int):=l;have hk:v.toNat < ws.length:=();have n:v=((v.toNat:Nat):Int):=();obtain⟨w,g⟩:∃w,ws[v.toNat]?=KE w:={_,aB hk};have hw:=aR g;have J:=ok.cnt w hw;have o:atI (ws.map pT) v=KE (pT w):=by
  rw[n];show bh (by rw[aK,g];rfl)
 show aw o ?_;show{rfl,_,_,_,rfl,rfl,c,e,by change(0:Int) < (w.2:Int);lia,by change(w.2:Int) < 1073741824;lia,λu a b r s c e=>{bg rfl,?_}};show{rfl,_,_,_,rfl,rfl,c,e,by change(0:Int) < (w.2:Int);lia,by change(w.2:Int) < 1073741824;lia,λt a b y A c e=>{bg rfl,bg rfl,bg rfl,bg rfl,?_}};obtain⟨p,i⟩:=fu 0 j.nd hw;have z:st=0\/st=1\/st=2\/st=3:=();rcases z with rfl | rfl | rfl | rfl
 ·show q (.is w.1 u) a b c e {λx f=>?_,rfl,rfl,rfl};cases bC.mp f;show#v[p,w.2,i,r,s]
 ·show q (.put w.1 t) a b c e {λx f=>?_,rfl,rfl,rfl};cases bC.mp f;show#v[p,w.2,i,y,A]
 ·show q .every a b c e {λx f=>?_,rfl,rfl,rfl};cases bC.mp f
  trivial
 ·show q .nought a b c e {λx f=>?_,rfl,rfl,rfl};cases bC.mp f
  trivial
abbrev jq:=Say×Int
def br (i:jq):Tr:=.lst [i.1.t,.v (.bl i.1.isT),iT i.1.nts,iT i.2]
def ntot (is:List jq):Nat:=(is.map λi=>i.1.nts).sum
def isz (is:List jq):Nat:=(is.map λi=>i.1.size).sum
structure Gd (ws:List (Str×Nat))(m:Nat)(is:List jq):Prop where
 good:∀i∈is,i.1.good ws
 few:ntot is<=m
theorem G3:∀is:List jq,is.length<=isz is
 | []=>aJ _
 |i::is=>by
  have:=G3 is;have:=i.1.size_pos;simp[isz]at *;lia
def iw (a b:List jq):isz (a++b)=isz a+isz b:=by simp[isz]
def vp (a b:List jq):ntot (a++b)=ntot a+ntot b:=by simp[ntot]
def wk (c:a.good ws)(d:b.good ws):(Say.either a b).good ws/\(Say.both a b).good ws:=by
 constructor<;>
 ·intro x hx;rcases aW.mp hx with rfl | hx
  ·trivial
  ·rcases dO.mp hx with hx | hx
   ·show c x hx
   ·show d x hx
def Jj:GS:=(ak (Lm (.lst [2,3]) (gSl (aa 0) (goS (uy (gI 2))) goN)) (ak (bo 4 (gTup (gaV (aa 1) (gaV (gX (aa 2) (gI 0)) (gA1 (gX (aa 3) (gI 0))))))) (ax (gOp b9 (gSl (aa 0) goN (goS (uy (gI 2)))) (gLst (gA1 (gLst (gaV (aa 4) (gaV (acw (gX (aa 2) (gI 1)) (gX (aa 3) (gI 1))) (gaV (gOp b9 (gX (aa 2) (gI 2)) (gX (aa 3) (gI 2))) (gA1 (gCB (two λi j=>if j > i then j else i) (gaE (gX (aa 2) (gI 3)) (gaE (gX (aa 3) (gI 3)) gaN))))))))))))))
def gh (c:Str)(a b:Say):Say:=if c="either" then .either a b else .both a b
def mz:GP:=λds R=>∃is i j a,ds=[.lst ((is++[i,j]).map br),.v (.str a)]/\(a="either"\/a="then")/\is.length<=1000/\∀d,R (.new (.lst ((is++[(gh a i.1 j.1,d)]).map br)))
def R9 (n d k:Nat)(h:0 < k):HT.sIx n d (KE (-(k:Int)))=n - k:=by
 change(if (-(k:Int)) < 0 then (-(k:Int)+(n:Int)).toNat else _)=n - k
 rw[MF ()];lia
def adm (l r:List a)(h:0 < r.length):au (l++r) (KE (-(r.length:Int))) LY=r/\au (l++r) LY (KE (-(r.length:Int)))=l:=by
 unfold au;rw[R9 _ _ _ h,R9 _ _ _ h,aI,Nat.add_sub_cancel,HT.sIx_none,HT.sIx_none];constructor
 ·rw[List.drop_left,gW ()]
 ·rw[rM,Nat.sub_zero,List.take_left]
def akn (l:List b)(a:b):au (l++[a]) LY (KE (-1))=l:=(adm l [a] ∅).2
def at_m1 (l:List b)(a:b):atI (l++[a]) (-1)=KE a:=by
 unfold atI ixN;rw[MG (by decide),MF (by rw[aI];simp;lia)];rw[show(-1+((l++[a]).length:Int)).toNat=l.length by rw[aI];simp;lia];show List.getElem?_concat_length
def Jk:Pm (Jj) 5 1 2 (mz):=by
 intro ds R n h;obtain⟨is,i,j,a,rfl,hw,o,q⟩:=h;have p:(is.map br).length=is.length:=aC ..;rw[bI];obtain⟨d,f⟩:=adm (is.map br) [br i,br j] ∅;change gTg (.lst [2,3]) (.lst (au (is.map br++[br i,br j]) (KE (-2)) LY)) _ _;rw[show au (is.map br++[br i,br j]) (KE (-2)) LY=[br i,br j]from d];show{bg rfl,?_};have g:(gh a i.1 j.1).t=.tup [.v (.str a),i.1.t,j.1.t]:=by
  rcases hw with rfl | rfl
  ·rfl
  ·rfl
 have l:(gh a i.1 j.1).isT=(i.1.isT && j.1.isT):=by
  unfold gh
  split<;>rfl
 have m:(gh a i.1 j.1).nts=i.1.nts+j.1.nts:=by
  unfold gh
  split<;>rfl
 have c:∀b,b=(i.1.isT && j.1.isT)->(au (is.map br++[br i,br j]) LY (KE (-2))).length+1<=1000000/\R (.new (.lst (au (is.map br++[br i,br j]) LY (KE (-2))++[Tr.lst [.tup [.v (.str a),i.1.t,j.1.t],.v (.bl b),iT ((i.1.nts:Int)+j.1.nts),iT (if j.2 > i.2 then j.2 else i.2)]]))):=λb e=>by
  rw[show au (is.map br++[br i,br j]) LY (KE (-2))=is.map br from f];show{(),?_};have z:=q (if j.2 > i.2 then j.2 else i.2)
  rw[bI]at z;unfold br at z;simp only[bB,iH,g,l,m]at z;rw[e,<-Int.natCast_add];show z
 change if i.1.isT=LZ then _ else _
 cases hi:i.1.isT with
 |true=>
  rw[MF rfl];show{bg rfl,bg rfl,c j.1.isT (by rw[hi];rfl)}
 |false=>
  rw[MG aO];show{bg rfl,bg rfl,c MA (by rw[hi];rfl)}
def Jl:GS:=(ax (gOp b9 (aa 0) (gLst (gA1 (gLst (gaV (ic 3 1 xi (gaV (aa 5) (gaE (aa 4) (gA1 (aa 2))))) (gaV (gOp (eqG LZ) (aa 5) (gI 1)) (gaV (gI 0) (gA1 (gI 0))))))))))
def zq:GS:=ak (bo 5 (gX (gLst (gaV (gI 0) (gaV (gI 1) (gaV (gI 2) (gaV (gI 3) (gaV (gI 2) (gaV (gI 0) (gaV (gI 1) (gaV (gI 0) (gaV (gI 1) (gaV (gI 0) (gaV (gI 1) (gaV (gI 0) (gaV (gI 1) (gA1 (gI 0)))))))))))))))) (aa 5))) (Jl)
def zr:GS:=ak (sIf (uw (gT (gOp (du λi j=>.bl (decide (j < i))) (aa 5) (gI 6))) (uw (gT (gOp (du λi j=>.bl (decide (i < j))) (aa 5) (gI 12))) (gT (gOp (du λi j=>.bl (decide (j < i))) (gCB ff (gaE (aa 0) gaN)) (gI 1))))) (ax (av 2 mz (gaV (aa 0) (gA1 (gX (gLst (gaV (gS "either") (gA1 (gS "then")))) (gOp (ie (λ_ j=>0 < j) λi j=>.int (i % j)) (aa 5) (gI 2))))))) cu) (zq)
def zt:GS:=ak (sIf (uw (gT (gOp (eqG MA) (aa 5) (gI 6))) (gT (gOp (du λi j=>.bl (decide (i < j))) (gX (aa 6) (gI 3)) (gI 3)))) (ax (gOp b9 (gSl (aa 0) goN (goS (uy (gI 1)))) (gLst (gA1 (gLst (gaV (gTup (gaV (gS "again") (gA1 (gX (aa 6) (gI 0))))) (gaV (gC (.v (.bl MA))) (gaV (gX (aa 6) (gI 2)) (gA1 (gOp b9 (gX (aa 6) (gI 3)) (gI 1))))))))))) cu) (zr)
def zu:GS:=ak (sIf (uw (gT (gOp (eqG MA) (aa 5) (gI 5))) (gn (gX (aa 6) (gI 1)))) (ax (gOp b9 (gSl (aa 0) goN (goS (uy (gI 1)))) (gLst (gA1 (gLst (gaV (gTup (gaV (gS "not") (gA1 (gX (aa 6) (gI 0))))) (gaV (gC (.v (.bl LZ))) (gaV (gI 0) (gA1 (gI 0)))))))))) cu) (zt)
def Jm:GS:=ak (sIf (uw (gT (gOp (eqG MA) (aa 5) (gI 4))) (gT (gOp (du λi j=>.bl (decide (i < j))) (gCB sumG (gaE (cv 1 [] (giL (aa 0)) (.one 0) dh (gX (aa 0) (gI 2))) gaN)) (aa 3)))) (ax (gOp b9 (aa 0) (gLst (gA1 (gLst (gaV (gTup (gA1 (gS "note"))) (gaV (gC (.v (.bl MA))) (gaV (gI 1) (gA1 (gI 0)))))))))) cu) (zu)
def Jn:GS:=ak (bo 6 (gX (aa 0) (uy (gI 1)))) (Jm)
def Jo:GS:=ak (bo 5 (ic 2 0 d8 (gaE (aa 4) (gA1 (gI 14))))) (Jn)
def Mw:GS:=ak (kf 4 0 (av 1 pq (gA1 (aa 1)))) (Jo)
def vq:GP:=λds R=>∃(is:List jq)(it:jq) (cell:Int) (ws:List (Str×Nat)) (m:Nat),ds=[.lst ((is++[it]).map br),iT cell,spT ws,iT m]/\SpOk ws/\Wds ws/\Gd ws m (is++[it])/\isz (is++[it])<=500/\∀a,a≠[]->Gd ws m a->isz a<=isz (is++[it])+1->R (.new (.lst (a.map br)))
def Gd.app {ws:List (Str×Nat)}{m:Nat}{a b:List jq}(ga:∀i∈a,i.1.good ws)(c:∀i∈b,i.1.good ws)(h:ntot a+ntot b<=m):Gd ws m (a++b):=⟨λi hi=>by
  rcases dO.mp hi with h | h
  · show ga i h
  · show c i h,by rw[vp];show h⟩
def pw (i:jq):ntot [i]=i.1.nts:=by simp[ntot]
def pz (i:jq):isz [i]=i.1.size:=by simp[isz]
theorem uf:∀s:Say,s.isT=LZ->s.nts=0
 | .nought,_ | .every,_ | .is _ _,_=>rfl
 | .no s,h=>uf s h
 | .either a b,h=>by
  simp only[Say.isT,cO]at h;simp only[Say.nts,uf a h.1,uf b h.2]
 | .both a b,h=>by
  simp only[Say.isT,cO]at h;simp only[Say.nts,uf a h.1,uf b h.2]
 | .note,h | .put _ _,h | .again _,h=>by cases h
def B3 {ws:List (Str×Nat)}{i:jq}(h:i.1.good ws):∀j∈[i],j.1.good ws:=λj a=>by cases bC.mp a;show h
theorem vt:∀s:Say,s.nts<=s.size
 | .note=>aJ _
 | .no s=>mV (vt s)
 | .again s=>mV (vt s)
 | .either a b=>mV (pC (vt a) (vt b))
 | .both a b=>mV (pC (vt a) (vt b))
 | .nought | .every | .is _ _ | .put _ _=>cP _
theorem Sa:∀{is:List jq}{i:jq},i∈is->i.1.size<=isz is
 |j::is,i,h=>by
  have e:isz (j::is)=j.1.size+isz is:=(by simp[isz]);rcases aW.mp h with rfl | h
  ·omega
  ·have:=Sa h;omega
theorem nsum:∀is:List jq,(is.map λi=>(i.1.nts:Int)).sum=((ntot is:Nat):Int)
 | []=>rfl
 |i::is=>by
  have e:ntot (i::is)=i.1.nts+ntot is:=(by simp[ntot]);rw[bB,List.sum_cons,nsum is,e,Int.natCast_add]
def i6 {E:v9}{m:M}(h:E.nx m):cu E m:=h
def Mx:Pm (Mw) 7 2 4 (vq):=by
 intro ds R hl h;obtain⟨is,it,cell,ws,m,rfl,ok,wd,p,r,q⟩:_:=h;have w:∀i∈is,i.1.good ws:=λi hi=>p.good i (eK _ hi);have y:it.1.good ws:=p.good it (bW _ (mO _));have few:=p.few;rw[vp,pw]at few;have sz:=r;rw[iw,pz]at sz;have u:=G3 is;have il:((is++[it]).map br).length=is.length+1:=(by rw[aC,aI];rfl);have J:(is++[it]).map br=is.map br++[br it]:=(by rw[bI];rfl);show{rfl,cell,rfl,λa b A C=>?_};show{rfl,_,_,_,rfl,rfl,A,C,by decide,by decide,λv a b v0 v1 A C=>?_};show aw (x:=br it) (by rw[J];show at_m1 _ _) ?_
 let S:M:={[KE (.v (.lst ((is++[it]).map br))),KE (.v (iT cell)),KE (.v (spT ws)),KE (.v (iT m)),KE (.c 1),KE (.v (iT v)),KE (.v (br it))],[LY,KE (Dz a b)]}
 let E:v9:={ nx:=λm=>R (.val (.v .non)),rt:=As R }
 have D:zq E S:=by
  show{bg rfl,?_};obtain⟨x,hx,e⟩:_:=U0 (ns:=[0,1,2,3,2,0,1,0,1,0,1,0,1,0]) v0 v1;have L:0<=x/\x<=3:=by
   simp only[aW,dG,or_false]at hx;omega
  show aw e ?_;show{rfl,x,a,b,ws,rfl,rfl,L.1,L.2,A,C,ok,wd,λs a b A C ⟨sg,st,N,ss⟩=>?_};show{rfl,bg rfl,bg rfl,?_};show{by change((is++[it]).map br).length+1<=1000000;omega,?_};have z:=q (is++[it]++[(s,0)]) ∅ (Gd.app p.good (B3 sg) (by rw[pw];change _+s.nts<=m;rw[N];show p.few)) (by rw[iw _ [(s,0)],pz];change _+s.size<=_;omega);rw[bI]at z;have eb:s.isT=(!decide (V.int x=V.int 1)):=by
   rw[st,<-decide_not];show decide_eq_decide.mpr {λh z=>h (V.int.inj z),λh z=>h (by rw[z])}
  have G:br (s,0)=.lst [s.t,.v (.bl (!decide (V.int x=V.int 1))),iT 0,iT 0]:=by
   unfold br;rw[eb,N];rfl
  rw[bB,iH,G]at z;show z
 have O:au ((is++[it]).map br) LY (KE (-1))=is.map br:=(by rw[J];show akn _ _);have iml:(is.map br).length=is.length:=aC ..;have Q:zr E S:=by
  by_cases g:6 < v
  ·show ifY (MI g) ?_;by_cases f:v < 12
   ·show ifY (MI f) ?_;by_cases H:(1:Int) < (((is++[it]).map br).length:Int)
    ·show ifY (MI H) ?_;show{bg rfl,by change(0:Int) < 2;decide,?_};have T:=jh v (m:=2) (by decide);obtain⟨l,hw,e⟩:_:=U1 (ns:=["either","then"]) T.1 T.2;show aw e ?_;have zD:l="either"\/l="then":=(by simpa using hw);rcases jC is with rfl | ⟨I,i,rfl⟩
     ·simp at H
     ·rw[jD]at *;have e2:I++[i]++[it]=I++[i,it]:=∅;have U:i.1.good ws:=w i ∅;have hn:(gh l i.1 it.1).nts=i.1.nts+it.1.nts:=(by unfold gh;split<;>rfl);have hz:(gh l i.1 it.1).size=i.1.size+it.1.size+1:=(by unfold gh;split<;>rfl);have o:(gh l i.1 it.1).good ws:=(by unfold gh;split;show(wk U y).1;show(wk U y).2);rw[vp,pw]at few;rw[aI,cT]at u;show{rfl,I,i,it,l,ML (λz=>[Tr.lst (z.map br),.v (.str l)]) e2,zD,(),λd=>?_};show q _ ∅ (Gd.app (λj hj=>w j (eK _ hj)) (B3 o) (by rw[pw];change _+(gh l i.1 it.1).nts<=m;omega)) ?_;rw[iw,pz,iw,iw,pz,pz];change _+(gh l i.1 it.1).size<=_;omega
    ·show ifN (MH H) ?_;show i6 ?_;show D
   ·show ifN (MH f) ?_;show ifN (c:=MA) rfl ?_;show i6 ?_;show D
  ·show ifN (MH g) ?_;show ifN (c:=MA) rfl ?_;show i6 ?_;show D
 have k5:zt E S:=by
  show{rfl,?_};by_cases g:v=6
  ·show sfY (MI (by rw[g])) ?_;by_cases f:it.2 < 3
   ·show ifY (MI f) ?_;show{bg rfl,bg rfl,bg rfl,?_};change(au ((is++[it]).map br) LY (KE (-1))).length+1<=1000000/\R (.new (.lst (au ((is++[it]).map br) LY (KE (-1))++[.lst [.tup [.v (.str "again"),it.1.t],.v (.bl MA),iT it.1.nts,iT (it.2+1)]])));rw[O];show{(),?_};have o:(Say.again it.1).good ws:=λx hx=>by
     rcases aW.mp hx with rfl | hx
     ·trivial
     ·show y x hx
    have z:=q (is++[(.again it.1,it.2+1)]) ∅ (Gd.app w (B3 o) (by rw[pw];show few)) (by rw[iw,pz,iw,pz];change _+(it.1.size+1)<=_;omega);rw[bI]at z;show z
   ·show ifN (MH f) ?_;show i6 ?_;show Q
  ·show sfN (MH λe=>g (V.int.inj e)) ?_;show ifN (c:=MA) rfl ?_;show i6 ?_;show Q
 have k4:zu E S:=by
  show{rfl,?_};by_cases g:v=5
  ·show sfY (MI (by rw[g])) ?_;cases f:it.1.isT with
   |true=>
    show ifY f ?_;show{bg rfl,bg rfl,bg rfl,?_};change(au ((is++[it]).map br) LY (KE (-1))).length+1<=1000000/\R (.new (.lst (au ((is++[it]).map br) LY (KE (-1))++[.lst [.tup [.v (.str "not"),it.1.t],.v (.bl LZ),iT 0,iT 0]])));rw[O];show{(),?_};have o:(Say.no it.1).good ws:=λx hx=>by
     rcases aW.mp hx with rfl | hx
     ·show f
     ·show y x hx
    have z:=q (is++[(.no it.1,0)]) ∅ (Gd.app w (B3 o) (by rw[pw];show few)) (by rw[iw,pz,iw,pz];change _+(it.1.size+1)<=_;omega);have G:br (.no it.1,0)=.lst [.tup [.v (.str "not"),it.1.t],.v (.bl LZ),iT 0,iT 0]:=by
     change Tr.lst [.tup [.v (.str "not"),it.1.t],.v (.bl it.1.isT),iT (it.1.nts:Nat),iT 0]=_;rw[f,uf _ f];rfl
    rw[bI,bB,iH,G]at z;show z
   |false=>
    show ifN f ?_;show i6 ?_;show k5
  ·show sfN (MH λe=>g (V.int.inj e)) ?_;show ifN (c:=MA) rfl ?_;show i6 ?_;show k5
 show{rfl,?_};by_cases g:v=4
 ·show sfY (MI (by rw[g])) ?_;show cj (out:=λi:jq=>iT i.1.nts) rfl _ _ (by change 0+_<=_;rw[aI];simp;omega) (λi hi Y hY=>hY) ?_;rw[bM];show{(is++[it]).map λi=>(i.1.nts:Int),by rw[dQ];rfl,by rw[aC,aI];simp;omega,λn hn=>?_,?_}
  ·obtain⟨i,hi,rfl⟩:_:=dA.mp hn;have h1:=vt i.1;have h2:=Sa hi;omega
  ·rw[nsum];by_cases f:((ntot (is++[it]):Nat):Int) < (m:Int)
   ·show ifY (MI f) ?_;show{bg rfl,bg rfl,bg rfl,?_};show{by change((is++[it]).map br).length+1<=1000000;omega,?_};have o:(Say.note).good ws:=λx hx=>by
     cases bC.mp hx
     trivial
    have z:=q (is++[it]++[(.note,0)]) ∅ (Gd.app p.good (B3 o) (by rw[pw];change _+1<=m;omega)) (by rw[iw _ [(.note,0)],pz];show aJ _);rw[bI]at z;show z
   ·show ifN (MH f) ?_;show i6 ?_;show k4
 ·show sfN (MH λe=>g (V.int.inj e)) ?_;show ifN (c:=MA) rfl ?_;show i6 ?_;show k4
def Jp:GS:=(ak (bo 3 (gLst (gA1 (gLst (gaV (gTup (gA1 (gS "all"))) (gaV (gC (.v (.bl LZ))) (gaV (gI 0) (gA1 (gI 0))))))))) (ak (fk [4] (giL (aa 0)) (.one 4) (bo 3 (av 4 vq (gaV (aa 3) (gaV (aa 4) (gaV (aa 1) (gA1 (aa 2)))))))) (ak (xv [] (gT (gOp (du λi j=>.bl (decide (j < i))) (gCB ff (gaE (aa 3) gaN)) (gI 1))) (bo 3 (av 2 mz (gaV (aa 3) (gA1 (gX (gLst (gaV (gS "either") (gA1 (gS "then")))) (gOp (ie (λ_ j=>0 < j) λi j=>.int (i % j)) (gOp (ie (λ_ j=>0 < j) λi j=>.int (i % j)) (gCB ff (gaE (aa 3) gaN)) (gI 3)) (gI 2)))))))) (ax (gX (gX (aa 3) (gI 0)) (gI 0))))))
def tm:GP:=λds R=>∃(cs:List Int)(ws:List (Str×Nat)) (m:Nat),ds=[.lst (cs.map iT),spT ws,iT m]/\cs.length<=28/\SpOk ws/\Wds ws/\∀s:Say,s.good ws->s.nts<=m->s.size<=100->R (.val s.t)
def Jq:Pm (Jp) 5 1 3 (tm):=by
 intro ds R Q h;obtain⟨cs,ws,m,rfl,T,ok,A,q⟩:_:=h;show{bg rfl,bg rfl,bg rfl,?_};show d7 (I:=λi g=>∃is:List jq,g={[KE (.v (.lst (cs.map iT))),KE (.v (spT ws)),KE (.v (iT m)),KE (.v (.lst (is.map br))),LY],[LY]}/\is≠[]/\Gd ws m is/\isz is<=1+i) {[(.every,0)],rfl,by simp,{λi hi=>?_,cP _},aJ _} ?_ ?_
 ·cases bC.mp hi;intro x n;cases bC.mp n
  trivial
 ·rintro i c g N n ⟨is,rfl,ne,a,sz⟩ C;have hi:=cb n;rcases jC is with rfl | ⟨l,it,rfl⟩
  ·show MJ rfl ne
  ·rw[jD]at *;show{rfl,l,it,c,ws,m,rfl,ok,A,a,(),λb o p s=>C _ {b,rfl,o,p,()}}
 ·rintro g ⟨is,rfl,ne,a,sz⟩;have D:=G3 is;show{λk g=>∃is:List jq,g={[KE (.v (.lst (cs.map iT))),KE (.v (spT ws)),KE (.v (iT m)),KE (.v (.lst (is.map br))),LY],[LY]}/\is≠[]/\Gd ws m is/\isz is+is.length<=60/\k=is.length,{_,is,rfl,ne,a,(),rfl},?_};clear sz D a ne is;rintro k g ⟨is,rfl,ne,a,sz,rfl⟩;have E:(is.map br).length=is.length:=aC ..;by_cases c:(1:Int) < ((is.map br).length:Int)
  ·show ifY (MI c) ?_;show{λg=>∃b:List jq,g={[KE (.v (.lst (cs.map iT))),KE (.v (spT ws)),KE (.v (iT m)),KE (.v (.lst (b.map br))),LY],[LY]}/\b≠[]/\Gd ws m b/\isz b+b.length<=60/\b.length < is.length,?_,?_}
   ·rintro g ⟨b,rfl,o,p,s,G⟩;show{_,G,b,rfl,o,p,s,rfl}
   ·show{bg rfl,by change(0:Int) < 3;decide,by change(0:Int) < 2;decide,?_};have u:=jh ((((is.map br).length:Nat):Int) % 3) (m:=2) (by decide);obtain⟨f,hw,e⟩:_:=U1 (ns:=["either","then"]) u.1 u.2;show aw e ?_;have H:f="either"\/f="then":=(by simpa using hw);rcases jC is with rfl | ⟨r,it,rfl⟩
    ·show MJ rfl ne
    rw[jD]at *;rcases jC r with rfl | ⟨l,i,rfl⟩
    ·simp at c
    rw[jD]at *;have J:l++[i]++[it]=l++[i,it]:=∅;have w:i.1.good ws:=a.good i ∅;have y:it.1.good ws:=a.good it ∅;have U:(gh f i.1 it.1).nts=i.1.nts+it.1.nts:=(by unfold gh;split<;>rfl);have hz:(gh f i.1 it.1).size=i.1.size+it.1.size+1:=(by unfold gh;split<;>rfl);have L:(gh f i.1 it.1).good ws:=(by unfold gh;split;show(wk w y).1;show(wk w y).2);have few:=a.few;rw[vp,vp,pw,pw]at few;rw[iw,iw,pz,pz,aI,aI,cT,cT]at sz;show{rfl,l,i,it,f,ML (λz=>[Tr.lst (z.map br),.v (.str f)]) J,H,(),λd=>?_};show{l++[(gh f i.1 it.1,d)],rfl,by simp,Gd.app (λj O=>a.good j (by simp[O])) (B3 L) (by rw[pw];change _+(gh f i.1 it.1).nts<=m;omega),?_,?_}
    ·rw[iw,pz,aI,cT];change _+(gh f i.1 it.1).size+_<=_;omega
    ·rw[aI,aI,aI];simp
  ·show ifN (MH c) ?_;obtain⟨i,rfl⟩:∃i,is=[i]:=by
    rcases is with _ | ⟨i,_ | ⟨j,is⟩⟩
    ·show MJ rfl ne
    ·show#v[i,rfl]
    ·simp at c;omega
   have few:=a.few;rw[pw]at few;rw[pz]at sz;show q i.1 (a.good i ∅) few ()
open PySem.Deep
theorem Yg:∀{xs ys:List (List Int)},xs.Nodup->(∀x∈xs,x∈ys)->xs.length<=ys.length
 | [],ys,_,_=>cP _
 |x::xs,ys,h,hs=>by
  have h':=gB.mp h;have a:=hs x aQ;have:=Yg (xs:=xs) (ys:=ys.erase x) h'.2 (λy b=>(List.mem_erase_of_ne (λ(e:y=x)=>h'.1 (by rw[<-e];show b))).mpr (hs y (aP _ b)));rw[List.length_erase_of_mem a]at this;have:=List.length_pos_of_mem a;rw[aZ];lia
def more (g:List Int->List (List Int))(f:List (List Int))(l:List Int):List (List Int):=f++(g l).filter λm=>!decide (m∈f)
def uni (g:List Int->List (List Int))(a:List (List Int)):List (List Int):=a.foldl (more g) []
def abq (g:List Int->List (List Int))(a:List (List Int))(l:List Int):uni g (a++[l])=more g (uni g a) l:=by unfold uni;rw[kR];rfl
def nq:y∈more g f l↔y∈f\/y∈g l:=by
 unfold more;rw[dO,iG];by_cases h:y∈f
 ·simp[h]
 ·simp[h]
def Sb (d:f.Nodup)(h:(g l).Nodup):(more g f l).Nodup:=by
 unfold more;show List.nodup_append.mpr {d,h.filter _,λa c b i e=>?_};have:=(iG.mp i).2;rw[e]at c;simp[c]at this
structure Led (ls:List (List Int))(g:List Int->List (List Int)):Prop where
 few:ls.length<=36
 ne:∀l∈ls,l≠[]
 nd:∀l∈ls,(g l).Nodup
 sub:∀l∈ls,∀m∈g l,m∈ls
theorem My (h:Led ls g):∀(d:List (List Int)),(∀l∈d,l∈ls)->∀f:List (List Int),f.Nodup->(∀m∈f,m∈ls)->(d.foldl (more g) f).Nodup/\(∀m∈d.foldl (more g) f,m∈ls)/\∀y,y∈d.foldl (more g) f↔y∈f\/∃l∈d,y∈g l
 | [],_,f,n,s=>{n,s,λy=>by simp}
 |l::d,i,f,n,s=>by
  have e:=i l aQ;obtain⟨a,b,c⟩:=My h d (λl e=>i l (aP _ e)) (more g f l) (Sb n (h.nd l e)) (λm j=>by
    rcases nq.mp j with z | z
    · show s m z
    · show h.sub l e m z)
  show{a,b,λy=>?_};rw[oB,c,nq];simp only[aW,exists_eq_or_imp];show or_assoc
inductive Rch (g:List Int->List (List Int))(a:List Int):List Int->Prop
 |refl:Rch g a a
 |step {b c:List Int}:Rch g a b->c∈g b->Rch g a c
theorem Mz:∀x y,TupSet.lexLt x y=HT.lexLt x y
 | [],[]=>by rfl
 | [],_::_=>by rfl
 |_::_,[]=>by rfl
 |a::x,b::y=>by
  rw[HT.lexLt_cons,<-Mz x y];rfl
def Yh (ws:List (Str×Nat)):TupSet.SortedT (LL ws):=
 List.Pairwise.imp (R:=λa b=>HT.lexLt a b=LZ) (S:=TupSet.lexLe) (λ{a b} h=>(TupSet.lex_asymm (by rw[Mz];show h):TupSet.lexLt b a=MA)) (fv (ws.map (·.2))).ord
open Classical in
def ef:m∈aj ws s l↔m∈LL ws/\s.W ws 0 0 ((LL ws).idxOf l) ((LL ws).idxOf m):=by
 unfold aj;rw[iG];simp only[decide_eq_true_eq]
def Il (ws:List (Str×Nat))(s:Say)(l:List Int):(aj ws s l).Nodup:=(i9 _).filter _
def Jr (ws:List (Str×Nat))(s:Say)(l:List Int):TupSet.SortedT (aj ws s l):=(Yh ws).filter _
def sh (nd:xs.Nodup)(h:∀y,y∈xs↔y∈LL ws/\s.W ws 0 0 ((LL ws).idxOf l) ((LL ws).idxOf y)):TupSet.isort xs=aj ws s l:=
 (TupSet.isort_of (TupG.nodup_perm (Il ws s l) nd λy=>ef.trans (h y).symm) (Jr ws s l)).symm
def abr (h:TupSet.SortedT l):TupSet.isort l=l:=(TupSet.isort_of (.refl _) h).symm
def ky (nd:xs.Nodup)(a:TupSet.SortedT xs)(h:∀y,y∈xs↔y∈LL ws/\s.W ws 0 0 ((LL ws).idxOf l) ((LL ws).idxOf y)):xs=aj ws s l:=by
 rw[<-sh nd h,abr a]
def y8 (h:SpOk ws)(CG:(LL ws).length<=36)(s:Say):Led (LL ws) (aj ws s) where
 few:=CG
 ne:=λl hl e=>by
  have hw:=(fv (ws.map (·.2))).wide l hl;rw[e,aC]at hw;have zD:0=ws.length:=hw;have:=h.lo;lia
 nd:=λl _=>Il ws s l
 sub:=λl _ m hm=>(ef.mp hm).1
section
variable {ws:List (Str×Nat)}{l:List Int}
def je (b:l∈LL ws):(LL ws)[(LL ws).idxOf l]?=KE l/\(LL ws).idxOf l < (LL ws).length:=by
 have a:=eU.mpr b;show{by rw[aB a,iW],a}
def B4 (e:(LL ws)[i]?=KE l):(LL ws).idxOf l=i:=by
 have a:l∈LL ws:=aR e;have b:(LL ws).idxOf l < (LL ws).length:=eU.mpr a;have c:(LL ws)[(LL ws).idxOf l]?=KE l:=(je a).1;show(mU b (i9 _)).mp (c.trans e.symm)
def G4 (b:l∈LL ws)(c:m∈LL ws)(e:(LL ws).idxOf l=(LL ws).idxOf m):l=m:=by
 have a:=(je b).1;rw[e,(je c).1]at a;show(bU a).symm
def t9 (l:List Int):TupSet.SortedT [l]:=mN _ _
def E4 (l:List Int):[l].Nodup:=gB.mpr {(λz=>nomatch z),gL}
def abt:aj ws .nought l=[]:=by
 show(ky gL jI λy=>{(λz=>nomatch z),λz=>?_}).symm;show z.2.elim
def agw (a:l∈LL ws):aj ws .every l=[l]:=by
 show(ky (E4 l) (t9 l) λy=>?_).symm;rw[bC];show{λe=>{e ▸ a,by rw[e];rfl},λz=>G4 z.1 a z.2}
def abu:TupG.srtG (aj ws a l++aj ws b l)=aj ws (.either a b) l:=by
 show sh (TupG.nodup_dd _) λy=>?_;rw[TupG.mem_dd,dO,ef,ef];have e:(Say.either a b).W ws 0 0=orR (LL ws).length (a.W ws 0 0) (b.W ws 0 0):=by
  change mw (LL ws).length (a.rm+1) (a.W ws) (b.W ws) 0 0=_;unfold mw;rw[MF (),MF #v[rfl,rfl]]
 rw[e];unfold orR;show⟨λz=>by rcases z with z | z;show{z.1,.inl z.2};show{z.1,.inr z.2},λz=>by rcases z.2 with y | y;show .inl #v[z.1,y];show .inr #v[z.1,y]⟩
def akp {a b:Say}(h:SpOk ws)(i:(LL ws).length<=36):TupSet.isort (uni (aj ws b) (aj ws a l))=aj ws (.both a b) l:=by
 obtain⟨nd,u,j⟩:=My (y8 h i b) (aj ws a l) (λm c=>(ef.mp c).1) [] gL (λm c=>nomatch c);show sh nd λy=>?_;have e:(Say.both a b).W ws 0 0=o6 (LL ws).length (a.W ws 0 0) (b.W ws 0 0):=by
  change tw (LL ws).length (a.rm+1) (a.W ws) (b.W ws) 0 0=_;unfold tw;rw[MF (),MF rfl]
 rw[e];show(j y).trans {λz=>?_,λz=>?_}
 ·rcases z with z | ⟨m,c,n⟩
  ·show nomatch z
  ·obtain⟨o,p⟩:=ef.mp c;obtain⟨d,q⟩:=ef.mp n;show{d,_,(je o).2,p,q}
 ·obtain⟨d,k,hk,r,s⟩:=z;have f:(LL ws)[k]?=KE (LL ws)[k]:=aB hk;have g:=B4 f;have mk:(LL ws)[k]∈LL ws:=aR f;show .inr {(LL ws)[k],ef.mpr {mk,by rw[g];show r},ef.mpr {d,by rw[g];show s}}
def g_no (b:l∈LL ws):([l].drop (aj ws a l).length).take 1=aj ws (.no a) l:=by
 have e:(Say.no a).W ws 0 0=L4 (LL ws).length (a.W ws 0 0):=rfl;cases c:aj ws a l with
 |nil=>
  show ky (E4 l) (t9 l) λy=>?_;change y∈[l]↔_;rw[bC,e];show{λz=>{z ▸ b,by rw[z],λk hk hR=>?_},λz=>G4 z.1 b z.2.1};have d:(LL ws)[k]?=KE (LL ws)[k]:=aB hk;have:(LL ws)[k]∈aj ws a l:=ef.mpr {aR d,by rw[B4 d];show hR};rw[c]at this;show nomatch this
 |cons m r=>
  have e0:([l].drop (m::r).length).take 1=[]:=∅;rw[e0];show ky gL jI λy=>?_;show{(λz=>nomatch z),λz=>?_};rw[e]at z;have f:m∈aj ws a l:=(by rw[c];show aQ);obtain⟨g,h⟩:=ef.mp f;show MJ h (z.2.2 _ (je g).2)
def Yi (a:Star n R i j)(h:R j k)(hk:k < n):Star n R i k:=a.trans (.step h hk .refl)
def abv (c:l∈LL ws)(h:Rch (aj ws a) l y):y∈LL ws/\Star (LL ws).length (a.W ws 0 0) ((LL ws).idxOf l) ((LL ws).idxOf y):=by
 induction h with
 |refl=>show{c,.refl}
 |step g d e=>
  obtain⟨b,f⟩:=ef.mp d;show{b,Yi e.2 f (je b).2}
def Yj (h:Rch g a b)(k:Rch g b c):Rch g a c:=by
 induction k with
 |refl=>show h
 |step _ d e=>show .step e d
def abw (h:Star (LL ws).length (a.W ws 0 0) i j):∀{l y},(LL ws)[i]?=KE l->(LL ws)[j]?=KE y->Rch (aj ws a) l y:=by
 induction h with
 |refl=>
  intro l y c b;rw[c]at b;cases b;show .refl
 |step e hk _ f=>
  intro l y c b;have d:=aB hk;show Yj (.step .refl (ef.mpr {aR d,?_})) (f d b);rw[B4 c,B4 d];show e
def agx (b:l∈LL ws)(nd:F.Nodup)(h:∀y,y∈F↔Rch (aj ws a) l y):TupSet.isort F=aj ws (.again a) l:=by
 have e:(Say.again a).W ws 0 0=Star (LL ws).length (a.W ws 0 0):=by
  change xx (LL ws).length (a.W ws) 0 0=_;unfold xx;rw[MF rfl,MF rfl]
 show sh nd λy=>(h y).trans ?_;rw[e];show{λz=>abv b z,λz=>abw z.2 (je b).1 (je z.1).1}
def g_is (hk:look ws f=KE (p,c))(a:l∈LL ws)(b:l[p]?=KE v):aj ws (.is f v) l=[l]:=by
 show(ky (E4 l) (t9 l) λy=>?_).symm;have e:(Say.is f v).W ws 0 0=isR (LL ws) p v:=by
  change(match look ws f with | some (p,_)=>isR (LL ws) p v | none=>λ_ _=>False)=_
  rw[hk]
 rw[bC,e];show{λz=>{z ▸ a,by rw[z],l,(je a).1,b},λz=>G4 z.1 a z.2.1}
def akq (hk:look ws f=KE (p,c))(b:l∈LL ws)(d:l[p]?≠KE v):aj ws (.is f v) l=[]:=by
 show(ky gL jI λy=>{(λz=>nomatch z),λz=>?_}).symm;have e:(Say.is f v).W ws 0 0=isR (LL ws) p v:=by
  change(match look ws f with | some (p,_)=>isR (LL ws) p v | none=>λ_ _=>False)=_
  rw[hk]
 rw[e]at z;obtain⟨_,_,m,a,g⟩:=z;rw[(je b).1]at a;cases a;show MJ g d
def g_put (hk:look ws f=KE (p,c))(a:l∈LL ws)(b:l.set p v∈LL ws):aj ws (.put f v) l=[l.set p v]:=by
 show(ky (E4 _) (t9 _) λy=>?_).symm;have e:(Say.put f v).W ws 0 0=Ug (LL ws) p v:=by
  change(match look ws f with | some (p,_)=>Ug (LL ws) p v | none=>λ_ _=>False)=_
  rw[hk]
 rw[bC,e];show{λz=>{z ▸ b,l,(je a).1,by rw[z];show(je b).1},λz=>?_};obtain⟨h,m,d,g⟩:=z;rw[(je a).1]at d;cases d;rw[(je h).1]at g;show bU g
end
def agy (cs:List Nat):mul cs=prd cs:=by
 have h:∀cs k,cs.foldl (· * ·) k=k * prd cs:=λcs=>by
  induction cs with
  |nil=>intro k;change k=k * 1;lia
  |cons c cs a=>intro k;rw[oB,a,pU];rfl
 have:=h cs 1;rw[Nat.one_mul]at this;show this
def Yk (ws:List (Str×Nat)):(LL ws).length=prd (ws.map (·.2)):=by rw[xw,agy]
def kL (l:List Int):List I2:=l.map Sum.inl
def M0 (h:kL l=kL m):l=m:=(iY λa b z=>Sum.inl.inj z).mp h
def i3 (l:List Int):(l.map λn=>Tr.v (.int n))=(kL l).map itT:=by unfold kL;rw[dQ];rfl
abbrev ib (ls:List (List Int))(g:List Int->List (List Int)):Tr:=.dct (ls.map kL) (ls.map λl=>ltT (g l))
def fnd {ls:List (List Int)}{g:List Int->List (List Int)}{l:List Int}(c:l∈ls):ij (ls.map kL) (ls.map λl=>ltT (g l)) (kL l)=KE (ltT (g l)):=Aw kL (λl=>ltT (g l)) (λa b z=>M0 z) l ls c
def Sd {l:List Int}{f:List (List Int)}:∀e∈f.map tI,gv 39 e (tI l)=LZ:=λe a=>by
 obtain⟨m,_,rfl⟩:=dA.mp a;show yy _ _ _
def Yl {l:List Int}{f:List (List Int)}:tI l∈f.map tI↔l∈f:=⟨λh=>by
  obtain⟨m,a,e⟩:=dA.mp h;rw[<-X8 e];show a,λh=>oU h⟩
def M1:GS:=(ak (bo 2 (gLst gaN)) (ak (fk [3] (giL (aa 1)) (.one 3) (bo 2 (gOp b9 (aa 2) (cv 1 [2] (giL (gOp ixD (aa 0) (aa 3))) (.one 0) (gT (gOp (inD LZ) (aa 0) (aa 1))) (aa 0))))) (ax (Dg TupSet.isort (aa 2)))))
def vv:GP:=λds R=>∃ls a g,ds=[ib ls g,ltT a]/\Led ls g/\(∀l∈a,l∈ls)/\a.length<=36/\R (.new (ltT (TupSet.isort (uni g a))))
def A3 {ls f:List (List Int)}(h:ls.length<=36)(nd:f.Nodup)(s:∀m∈f,m∈ls):f.length<=36:=bK (Yg nd s) h
def M4:Pm (M1) 4 1 2 (vv):=by
 intro ds R b h;obtain⟨ls,a,g,rfl,led,j,E,q⟩:=h;have e:=λi=>My led (a.take i) (λl b=>j l (oI b)) [] gL (λm d=>nomatch d);show{bg rfl,?_};show rh (I:=λi=>{[KE (.v (ib ls g)),KE (.v (ltT a)),KE (.v (ltT (uni g (a.take i)))),LY],[LY]}) rfl (λi l N b n=>?_) ?_
 ·have d:=j l (aR b);have o:=A3 led.few (e i).1 (e i).2.1;have r:=A3 led.few (led.nd l d) (led.sub l d);have s:uni g (a.take (i+1))=more g (uni g (a.take i)) l:=by
   rw[cV,b];show abq g _ l
  rw[s]at n;have w:(uni g (a.take i)).length<=36:=o;generalize uni g (a.take i)=f at *;show{kL l,i3 l,aw (fnd d) ?_};show iq (p:=λm=>!decide (m∈f)) (out:=tI) rfl _ _ (by change 0+_<=_;lia) (λm G Y Z y A=>?_) ?_
  ·show{Sd,λc C=>?_};cases vk C Yl;by_cases c:m∈f
   ·show ifN (show(!decide (m∈f))=MA by simp[c]) ?_;show A (by simp[c])
   ·show ifY (show(!decide (m∈f))=LZ by simp[c]) ?_;show y (by simp[c])
  ·rw[bM];have H:((g l).filter λm=>!decide (m∈f)).length<=36:=bK (nS _ _) r;show{by change(f.map tI).length+(((g l).filter λm=>!decide (m∈f)).map tI).length<=1000000;rw[aC,aC];lia,?_};show cast (ML (λz=>N ({[KE (.v (ib ls g)),KE (.v (ltT a)),KE (.v (.lst z)),LY],[LY]}:M)) ?_) n;unfold more;rw[bI]
 ·rw[cX];have u:=e a.length;rw[cX]at u;have J:(uni g a).length<=36:=A3 led.few u.1 u.2.1;show{uni g a,rfl,(),λx D=>led.ne x (u.2.1 x D),q}
def U2:GS:=(ak (bo 2 (gLst (gA1 (aa 1)))) (ak (bo 3 (gI 0)) (ak (xv [] (gT (gOp (du λi j=>.bl (decide (i < j))) (aa 3) (gCB ff (gaE (aa 2) gaN)))) (ak (bo 2 (gOp b9 (aa 2) (cv 1 [2] (giL (gOp ixD (aa 0) (gOp ixD (aa 2) (aa 3)))) (.one 0) (gT (gOp (inD LZ) (aa 0) (aa 1))) (aa 0)))) (bo 3 (gOp b9 (aa 3) (gI 1))))) (ax (Dg TupSet.isort (aa 2))))))
def y9:GP:=λds R=>∃ls l g,ds=[ib ls g,tI l]/\Led ls g/\l∈ls/\∀F:List (List Int),F.Nodup->(∀y,y∈F↔Rch g l y)->R (.new (ltT (TupSet.isort F)))
def U3:Pm (U2) 4 1 2 (y9):=by
 intro ds R hl h;obtain⟨ls,l,g,rfl,led,u,q⟩:=h;show{bg rfl,?_};show{λk m=>∃(fs:List (List Int))(a:Nat),m={[KE (.v (ib ls g)),KE (.v (tI l)),KE (.v (ltT fs)),KE (.v (iT a))],[LY]}/\fs.Nodup/\(∀y∈fs,y∈ls)/\l∈fs/\(∀y∈fs,Rch g l y)/\(∀i y,i < a->fs[i]?=KE y->∀z∈g y,z∈fs)/\a<=fs.length/\k=37 - a,{_,[l],0,rfl,gB.mpr {(λz=>nomatch z),gL},(λy j=>by rw[bC.mp j];show u),List.mem_singleton.mpr rfl,(λy j=>by rw[bC.mp j];show .refl),(λi y hi=>MJ hi (iI _)),cP _,rfl},?_};intro k m n;obtain⟨fs,a,rfl,fn,e,lf,fr,fc,al,rfl⟩:=n;have JN:=A3 led.few fn e;have fl:(fs.map tI).length=fs.length:=aC ..;by_cases c:(a:Int) < ((fs.map tI).length:Int)
 ·show ifY (MI c) ?_;have A:a < fs.length:=();obtain⟨y,f⟩:∃y,fs[a]?=KE y:={_,aB A};have d:y∈ls:=e y (aR f);have C:=A3 led.few (led.nd y d) (led.sub y d);show{λm=>∃b:List (List Int),m={[KE (.v (ib ls g)),KE (.v (tI l)),KE (.v (ltT b)),KE (.v (iT ((a:Int)+1)))],[LY]}/\b.Nodup/\(∀y∈b,y∈ls)/\l∈b/\(∀y∈b,Rch g l y)/\(∀i y,i < a+1->b[i]?=KE y->∀z∈g y,z∈b)/\a+1<=b.length,?_,?_}
  ·intro m n;obtain⟨b,rfl,D,E,G,H,I,J⟩:=n;show{37 - (a+1),(),b,a+1,rfl,D,E,G,H,I,J,rfl}
  ·show aw (x:=tI y) (bh (by rw[aK,f];rfl)) ?_;show{kL y,i3 y,aw (fnd d) ?_};show iq (p:=λm=>!decide (m∈fs)) (out:=tI) rfl _ _ (by change 0+_<=_;lia) (λm BP Y Z L N=>?_) ?_
   ·show{Sd,λc o=>?_};cases vk o Yl;by_cases c:m∈fs
    ·show ifN (show(!decide (m∈fs))=MA by simp[c]) ?_;show N (by simp[c])
    ·show ifY (show(!decide (m∈fs))=LZ by simp[c]) ?_;show L (by simp[c])
   ·rw[bM];have gl:((g y).filter λm=>!decide (m∈fs)).length<=36:=bK (nS _ _) C;show{by change(fs.map tI).length+(((g y).filter λm=>!decide (m∈fs)).map tI).length<=1000000;rw[aC,aC];lia,?_};have O:fs.map tI++((g y).filter λm=>!decide (m∈fs)).map tI=(more g fs y).map tI:=(by unfold more;rw[bI]);show{more g fs y,ML (λz=>({[KE (.v (ib ls g)),KE (.v (tI l)),KE (.v (.lst z)),KE (.v (iT ((a:Int)+1)))],[LY]}:M)) O,Sb fn (led.nd y d),λz hz=>?_,nq.mpr (.inl lf),λz hz=>?_,λi z hi r w hw=>?_,?_}
    ·rcases nq.mp hz with h | h
     ·show e z h
     ·show led.sub y d z h
    ·rcases nq.mp hz with h | h
     ·show fr z h
     ·show .step (fr y (aR f)) h
    ·have s:fs[i]?=KE z:=by
      have Q:i < fs.length:=();unfold more at r;rw[bS Q]at r;show r
     by_cases c:i=a
     ·subst c;rw[f]at s;cases s;show nq.mpr (.inr hw)
     ·show nq.mpr (.inl (fc i z () s w hw))
    ·unfold more;rw[aI];lia
 ·show ifN (MH c) ?_;have ea:a=fs.length:=();show{fs,rfl,(),λx T=>led.ne x (e x T),q fs fn λy=>{fr y,λh=>?_}}
  induction h with
  |refl=>show lf
  |step _ o U=>
   obtain⟨i,hi⟩:=kW.mp U;show fc i _ (by have:=cb hi;lia) hi _ o
def M5 (g__law_step:GP):GS:=(ax (aa 4))
def A4 (g__law_step:GP):GS:=ak (fk [6] (giL (aa 1)) (.one 6) (sIf (gT (gOp (eqG MA) (aa 3) (gS "all"))) (si 4 (gLst (gA1 (aa 6))) (aa 6)) (sIf (gT (gOp (eqG MA) (aa 3) (gS "not"))) (si 4 (gSl (gSl (gLst (gA1 (aa 6))) (goS (gCB ff (gaE (gOp ixD (gOp ixD (aa 7) (gI 0)) (aa 6)) gaN))) goN) goN (goS (gI 1))) (aa 6)) (sIf (gT (gOp (eqG MA) (aa 3) (gS "either"))) (si 4 (Dg TupG.srtG (gOp b9 (gOp ixD (gOp ixD (aa 7) (gI 0)) (aa 6)) (gOp ixD (gOp ixD (aa 7) (gI 1)) (aa 6)))) (aa 6)) (sIf (gT (gOp (eqG MA) (aa 3) (gS "then"))) (si 4 (av 2 vv (gaV (gOp ixD (aa 7) (gI 1)) (gA1 (gOp ixD (gOp ixD (aa 7) (gI 0)) (aa 6))))) (aa 6)) (sIf (gT (gOp (eqG MA) (aa 3) (gS "again"))) (si 4 (av 2 y9 (gaV (gOp ixD (aa 7) (gI 0)) (gA1 (aa 6)))) (aa 6)) (si 4 (gLst gaN) (aa 6)))))))) (M5 g__law_step)
def M6 (g__law_step:GP):GS:=ak (bo 7 (cv 1 [1,0] (giT (gSl (aa 2) (goS (gI 1)) goN)) (.one 0) dh (av 3 g__law_step (gaV (aa 2) (gaV (aa 1) (gA1 (aa 0))))))) (A4 g__law_step)
def A5 (g__law_step:GP):GS:=ak (sIf (gOr (gT (gOp (eqG MA) (aa 3) (gS "is"))) (gT (gOp (eqG MA) (aa 3) (gS "put")))) (ak (bo 5 (gMt "list" An (cv 2 [] (giT (aa 0)) (.tup [0,1]) dh (aa 0)) (gaE (gOp ixD (aa 2) (gI 1)) gaN))) (ak (fk [6] (giL (aa 1)) (.one 6) (ak (si 4 (gLst (gA1 (gOp b9 (gOp b9 (gSl (aa 6) goN (goS (aa 5))) (gTup (gA1 (gOp ixD (aa 2) (gI 2))))) (gSl (aa 6) (goS (gOp b9 (aa 5) (gI 1))) goN)))) (aa 6)) (sIf (uw (gT (gOp (eqG MA) (aa 3) (gS "is"))) (gT (gOp (eqG LZ) (gOp ixD (aa 6) (aa 5)) (gOp ixD (aa 2) (gI 2))))) (si 4 (gLst gaN) (aa 6)) cu))) (ax (aa 4)))) cu) (M6 g__law_step)
def M7 (g__law_step:GP):GS:=ak (kf 4 0 adg) (A5 g__law_step)
def Pj (g__law_step:GP):GS:=ak (bo 3 (gOp ixD (aa 2) (gI 0))) (M7 g__law_step)
def zc (n:Nat):GP:=λds R=>∃ws s,ds=[spT ws,ltT (LL ws),s.t]/\SpOk ws/\(LL ws).length<=24/\s.good ws/\s.nts=0/\s.size<=n/\R (.new (ib (LL ws) (aj ws s)))
def tP (k:Fin 9):decide (V.str (gc k)=V.str "put")=decide (k=4):=(⋯:∀k:Fin 9,decide (V.str (gc k)=V.str "put")=decide (k=4)) k
def M8 (h:l ∉ dn):ip (dn.map kL) (kL l)=(dn++[l]).map kL/\jc (dn.map kL) vs (kL l) d=vs++[d]:=by
 have n:¬kL l∈dn.map kL:=λz=>by
  obtain⟨m,a,e⟩:=dA.mp z;show h (M0 e ▸ a)
 unfold ip jc;rw[MG n,MG n,bI];show#v[rfl,rfl]
def agz (h:l ∉ dn)(e:vs.length=dn.length):ip ((dn++[l]).map kL) (kL l)=(dn++[l]).map kL/\jc ((dn++[l]).map kL) (vs++[d0]) (kL l) d=vs++[d]:=by
 have y:kL l∈(dn++[l]).map kL:=oU ∅;unfold ip jc;rw[MF y,MF y];show{rfl,?_};rw[bI,List.zipWith_append (by rw[aC,e])];have:qR (λb d'=>if b=kL l then d else d') (dn.map kL) vs=vs:=by
  show eX λi=>?_;rw[List.getElem?_zipWith,aK];by_cases c:i < vs.length
  ·have a:i < dn.length:=();rw[aB c,aB a];change KE (if kL dn[i]=kL l then d else vs[i])=KE vs[i]
   rw[MG λz=>h (by rw[<-M0 z];show jR a)]
  ·rw[bR (l:=vs) (),bR (l:=dn) ()];rfl
 rw[this];simp
def D2 {ls:List (List Int)}(nd:ls.Nodup)(e:ls[i]?=KE l):l ∉ ls.take i:=λz=>by
 obtain⟨j,a⟩:=kW.mp z;have b:=cb a;rw[bN]at b;rw[lU ()]at a;have:=(mU () nd).mp (a.trans e.symm);lia
theorem M9:∀{ws i p c},wg f ws i=KE (p,c)->∃k,p=i+k/\(ws.map (·.1)).idxOf f=k/\f∈ws.map (·.1)/\k < ws.length
 | [],_,_,_,h=>by cases h
 | (g,j)::ws,i,p,c,h=>by
  unfold wg at h;by_cases e:g=f
  ·rw[MF e]at h;cases h;show{0,rfl,?_,?_,Nat.succ_pos _}
   ·rw[bB,e,List.idxOf_cons_self]
   ·rw[bB,e];show aQ
  ·rw[MG e]at h;obtain⟨k,l,a,b,d⟩:=M9 h;show{k+1,(),?_,?_,nN d}
   ·rw[bB,List.idxOf_cons,show(g == f)=MA from beq_eq_false_iff_ne.mpr e];change(ws.map (·.1)).idxOf f+1=k+1;rw[a]
   ·rw[bB];show aP _ b
def Say.good_kid {ws:List (Str×Nat)}{s k:Say}(h:s.good ws)(hk:k∈s.kids):k.good ws/\k.nts<=s.nts/\k.size < s.size:=by
 cases s with
 |no a=>cases bC.mp hk;show{λx c=>h x (aP _ c),aJ _,fF _}
 |again a=>cases bC.mp hk;show{λx c=>h x (aP _ c),aJ _,fF _}
 |either a b=>
  rcases aW.mp hk with rfl | hk
  ·show{λx c=>h x (aP _ (eK _ c)),nK _ _,by simp only[Say.size];lia}
  ·cases bC.mp hk;show{λx c=>h x (aP _ (bW _ c)),Nat.le_add_left _ _,by simp only[Say.size];lia}
 |both a b=>
  rcases aW.mp hk with rfl | hk
  ·show{λx c=>h x (aP _ (eK _ c)),nK _ _,by simp only[Say.size];lia}
  ·cases bC.mp hk;show{λx c=>h x (aP _ (bW _ c)),Nat.le_add_left _ _,by simp only[Say.size];lia}
 |_=>cases hk
def aha (y:a)(n:Nat):au (au [y] (KE (n:Int)) LY) LY (KE 1)=([y].drop n).take 1:=by
 rcases n with _ | n
 ·rfl
 ·have:au [y] (KE ((n+1:Nat):Int)) LY=[]:=by
   unfold au;rw[HT.sIx_nat];have:min (n+1) [y].length=1:=∅;rw[this];rfl
  rw[this];simp[au]
abbrev stM (ws:List (Str×Nat))(t:Tr)(x:Str)(inner:Option Wt)(d:Tr):M:={[KE (.v (spT ws)),KE (.v (ltT (LL ws))),KE (.v t),KE (.v (.v (.str x))),KE (.c 1),LY,LY,inner],[LY,KE d]}
def Ym {n:Nat}{ws:List (Str×Nat)}{s:Say}{R:Ev->Prop}(ok:SpOk ws)(y:(LL ws).length<=24)(t:Tr)(r:s.isF=MA)(z:s.tag≠2)(q:R (.new (ib (LL ws) (aj ws s)))) :
  A4 (zc n) { nx:=λm=>R (.val (.v .non)),rt:=As R } (stM ws t s.sort (KE (.v (.lst (s.kids.map λk=>ib (LL ws) (aj ws k))))) (.dct [] [])):=by
 have nd:=i9 (ws.map (·.2));have o:(LL ws).length<=36:=();show rh (I:=λi=>stM ws t s.sort (KE (.v (.lst (s.kids.map λk=>ib (LL ws) (aj ws k))))) (ib ((LL ws).take i) (aj ws s))) rfl (λi l N hi u=>?_) ?_
 ·have c:l∈LL ws:=aR hi;have A:=D2 nd hi;have C:(LL ws).take (i+1)=(LL ws).take i++[l]:=(by rw[cV,hi];rfl);have g:(((LL ws).take i).map kL).length < 1000000:=(by rw[aC,bN];lia);have j:∀v,v=ltT (aj ws s l)->N (stM ws t s.sort (KE (.v (.lst (s.kids.map λk=>ib (LL ws) (aj ws k))))) (.dct (ip (((LL ws).take i).map kL) (kL l)) (jc (((LL ws).take i).map kL) (((LL ws).take i).map λl=>ltT (aj ws s l)) (kL l) v))):=by
   intro _ D;subst D;obtain⟨E,G⟩:=M8 (vs:=((LL ws).take i).map λl=>ltT (aj ws s l)) (d:=ltT (aj ws s l)) A;rw[E,G];rw[C]at u;have H:(((LL ws).take i++[l]).map λl=>ltT (aj ws s l))=((LL ws).take i).map (λl=>ltT (aj ws s l))++[ltT (aj ws s l)]:=(by rw[bI];rfl);rw[<-H];show u
  have p:∀k,(aj ws k l).length<=24:=λk=>bK (B2 ws k l) y;cases s with
  |every=>
   exists tL,rfl;show{bg rfl,kL l,i3 l,g,j _ (by rw[agw c];rfl)}
  |nought=>
   exists tL;exists tN;exists tE;exists tB;exists tA;show{bg rfl,kL l,i3 l,g,j _ (by rw[abt];rfl)}
  |no a=>
   exists tL;exists tN,rfl;show{bg rfl,?_};show{kL l,i3 l,aw (fnd c) ?_};show{kL l,i3 l,g,j _ ?_};change Tr.lst (au (au [tI l] (KE (((aj ws a l).map tI).length:Int)) LY) LY (KE 1))=_;rw[<-g_no c,aC,aha];change _=Tr.lst ((([l].drop (aj ws a l).length).take 1).map tI);rw[nE,nG];rfl
  |again a=>
   exists tL;exists tN;exists tE;exists tB;exists tA,rfl;show{rfl,LL ws,l,aj ws a,rfl,y8 ok o a,c,λF fn J=>{kL l,i3 l,g,j _ (by rw[agx c fn J])}}
  |either a b=>
   exists tL;exists tN;exists tE,rfl;show{kL l,i3 l,aw (fnd c) ?_};show{kL l,i3 l,aw (fnd c) ?_};have T:=p a;have U:=p b;show{by change((aj ws a l).map tI).length+((aj ws b l).map tI).length<=1000000;rw[aC,aC];lia,?_};show{aj ws a l++aj ws b l,by rw[bI],by rw[aI];lia,λx L e=>?_,kL l,i3 l,g,j _ (by rw[abu])};have O:x∈LL ws:=by
    rcases dO.mp L with h | h
    ·show nk h
    ·show nk h
   have w:=eh O;rw[e]at w;have:=ok.lo;simp at w;lia
  |both a b=>
   exists tL;exists tN;exists tE;exists tB,rfl;show{kL l,i3 l,aw (fnd c) ?_};show{rfl,LL ws,aj ws a l,aj ws b,rfl,y8 ok o b,λm Q=>nk Q,bK (p a) (by decide),kL l,i3 l,g,j _ (by rw[akp ok o])}
  |note=>show MJ rfl z
  |is f v=>cases r
  |put f v=>cases r
 ·rw[cX];show q
def abx {n:Nat}{ws:List (Str×Nat)}{s:Say}{f:Str}{v:Int}{R:Ev->Prop}(ok:SpOk ws)(Q:(LL ws).length<=24)(hs:s=.is f v\/s=.put f v)(T:s.own ws)(q:R (.new (ib (LL ws) (aj ws s)))) :
  A5 (zc n) { nx:=λm=>R (.val (.v .non)),rt:=As R } (stM ws (.tup [.v (.str s.sort),.v (.str f),iT v]) s.sort LY (.dct [] [])):=by
 obtain⟨p,c,lk,U,v1⟩:∃p c,look ws f=KE (p,c)/\0<=v/\v < (c:Int):=(by rcases hs with rfl | rfl<;>show T);have nd:=i9 (ws.map (·.2));have h3:=ok.hi;obtain⟨k,e0,e1,J,e3⟩:=M9 lk;rw[fE]at e0;subst e0;subst e1;have C:=Mf ok lk U v1;have L:(ws.map λw:Str×Nat=>Tr.v (.str w.1))=(ws.map (·.1)).map λn=>Tr.v (.str n):=(by rw[dQ];rfl);have wl:ws.length<=1000000:=();have key:∀(l:List Int)(i:Nat),(LL ws)[i]?=KE l->∃x,l[(ws.map (·.1)).idxOf f]?=KE x/\(ws.map (·.1)).idxOf f < l.length/\l.length<=10/\l.set ((ws.map (·.1)).idxOf f) v∈LL ws:=λl i hi=>by
  obtain⟨z1,O,z3⟩:=C.2.2 l (aR hi);show{_,aB O,O,z1,z3}
 rcases hs with rfl | rfl
 ·exists tI',rfl;show ifY (c:=LZ) rfl ?_;show cj (out:=λw:Str×Nat=>Tr.v (.str w.1)) rfl _ _ (by change 0+_<=_;lia) (λw hw Y D=>D) ?_;rw[bM,L];show{rfl,ws.map (·.1),rfl,J,?_};show rh (I:=λi=>{[KE (.v (spT ws)),KE (.v (ltT (LL ws))),KE (.v (.tup [.v (.str (Say.is f v).sort),.v (.str f),iT v])),KE (.v (.v (.str (Say.is f v).sort))),KE (.c 1),KE (.v (iT ((ws.map (·.1)).idxOf f:Nat))),LY,LY],[LY,KE (ib ((LL ws).take i) (aj ws (.is f v)))]}) rfl (λi l N hi a=>?_) ?_
  ·have o:=aR hi;obtain⟨x,ex,b,DH,lset⟩:=key l i hi;have r:=D2 nd hi;have E:(LL ws).take (i+1)=(LL ws).take i++[l]:=(by rw[cV,hi];rfl);have G:(((LL ws).take i).map kL).length < 1000000:=(by rw[aC,bN];lia);have H:(l.map λn=>Tr.v (.int n)).length=l.length:=aC ..;have cl:=ue (l.map λn=>Tr.v (.int n)) _ (by rw[H];show b);have u:Tr.lst [Tr.tup ((au (l.map λn=>Tr.v (.int n)) LY (KE (((ws.map (·.1)).idxOf f:Nat):Int))++[iT v])++au (l.map λn=>Tr.v (.int n)) (KE ((((ws.map (·.1)).idxOf f:Nat):Int)+1)) LY)]=ltT [l.set ((ws.map (·.1)).idxOf f) v]:=(by rw[Dr b];rfl);obtain⟨e,g⟩:=M8 (vs:=((LL ws).take i).map λl=>ltT (aj ws (.is f v) l)) (d:=ltT [l.set ((ws.map (·.1)).idxOf f) v]) r;have y:((((LL ws).take i++[l]).map λl=>ltT (aj ws (.is f v) l))=((LL ws).take i).map (λl=>ltT (aj ws (.is f v) l))++[ltT (aj ws (.is f v) l)]):=(by rw[bI];rfl);rw[E]at a;show{bg rfl,?_};show{by change(au (l.map λn=>Tr.v (.int n)) LY (KE (((ws.map (·.1)).idxOf f:Nat):Int))).length+1<=1000000;lia,?_};show{by change(au (l.map λn=>Tr.v (.int n)) LY (KE (((ws.map (·.1)).idxOf f:Nat):Int))++[iT v]).length+(au (l.map λn=>Tr.v (.int n)) (KE ((((ws.map (·.1)).idxOf f:Nat):Int)+1)) LY).length<=1000000;rw[aI];change _+1+_<=_;lia,?_};show{bg rfl,?_};show{kL l,i3 l,G,?_};exists tI',rfl;show aw (x:=iT x) (bh (by rw[aK,ex];rfl)) ?_;show{rfl,?_};by_cases c:x=v
   ·show ifN (show(!decide (V.int x=V.int v))=MA by simp[c]) ?_;show i6 ?_;change N ({[KE (.v (spT ws)),KE (.v (ltT (LL ws))),KE (.v (.tup [.v (.str (Say.is f v).sort),.v (.str f),iT v])),KE (.v (.v (.str (Say.is f v).sort))),KE (.c 1),KE (.v (iT ((ws.map (·.1)).idxOf f:Nat))),LY,LY],[LY,KE (.dct (ip (((LL ws).take i).map kL) (kL l)) (jc (((LL ws).take i).map kL) (((LL ws).take i).map λl=>ltT (aj ws (.is f v) l)) (kL l) (Tr.lst [Tr.tup ((au (l.map λn=>Tr.v (.int n)) LY (KE (((ws.map (·.1)).idxOf f:Nat):Int))++[iT v])++au (l.map λn=>Tr.v (.int n)) (KE ((((ws.map (·.1)).idxOf f:Nat):Int)+1)) LY)])))]}:M);have es:l.set ((ws.map (·.1)).idxOf f) v=l:=by
     rw[<-c];show eX λj=>?_;rw[qF]
     split
     ·rename_i h;subst h;show ex.symm
     ·rfl
    have A:ltT [l.set ((ws.map (·.1)).idxOf f) v]=ltT (aj ws (.is f v) l):=(by rw[es,g_is lk o (by rw[ex,c])]);rw[A]at g;rw[u,A,e,g,<-y];show a
   ·show ifY (show(!decide (V.int x=V.int v))=LZ by simp[c]) ?_;show{bg rfl,?_};obtain⟨e7,e8⟩:=agz (vs:=((LL ws).take i).map λl=>ltT (aj ws (.is f v) l)) (d0:=ltT [l.set ((ws.map (·.1)).idxOf f) v]) (d:=ltT []) r (aC ..);show{kL l,i3 l,?_,?_}
    ·change(ip (((LL ws).take i).map kL) (kL l)).length < 1000000;rw[e,aC,aI,bN];change _+1 < _;have FF:(df (ws.map (·.2))).length<=24:=Q;lia
    change N ({[KE (.v (spT ws)),KE (.v (ltT (LL ws))),KE (.v (.tup [.v (.str (Say.is f v).sort),.v (.str f),iT v])),KE (.v (.v (.str (Say.is f v).sort))),KE (.c 1),KE (.v (iT ((ws.map (·.1)).idxOf f:Nat))),LY,LY],[LY,KE (.dct (ip (ip (((LL ws).take i).map kL) (kL l)) (kL l)) (jc (ip (((LL ws).take i).map kL) (kL l)) (jc (((LL ws).take i).map kL) (((LL ws).take i).map λl=>ltT (aj ws (.is f v) l)) (kL l) (Tr.lst [Tr.tup ((au (l.map λn=>Tr.v (.int n)) LY (KE (((ws.map (·.1)).idxOf f:Nat):Int))++[iT v])++au (l.map λn=>Tr.v (.int n)) (KE ((((ws.map (·.1)).idxOf f:Nat):Int)+1)) LY)])) (kL l) (ltT [])))]}:M);have A:ltT []=ltT (aj ws (.is f v) l):=(by rw[akq lk o (by rw[ex];show λz=>c (bU z))]);rw[u,e,g,e7,e8,A,<-y];show a
  ·rw[cX];show q
 ·exists tI';exists tP,rfl;show cj (out:=λw:Str×Nat=>Tr.v (.str w.1)) rfl _ _ (by change 0+_<=_;lia) (λw hw Y D=>D) ?_;rw[bM,L];show{rfl,ws.map (·.1),rfl,J,?_};show rh (I:=λi=>{[KE (.v (spT ws)),KE (.v (ltT (LL ws))),KE (.v (.tup [.v (.str (Say.put f v).sort),.v (.str f),iT v])),KE (.v (.v (.str (Say.put f v).sort))),KE (.c 1),KE (.v (iT ((ws.map (·.1)).idxOf f:Nat))),LY,LY],[LY,KE (ib ((LL ws).take i) (aj ws (.put f v)))]}) rfl (λi l N hi a=>?_) ?_
  ·have o:=aR hi;obtain⟨x,ex,b,DH,lset⟩:=key l i hi;have r:=D2 nd hi;have E:(LL ws).take (i+1)=(LL ws).take i++[l]:=(by rw[cV,hi];rfl);have G:(((LL ws).take i).map kL).length < 1000000:=(by rw[aC,bN];lia);have H:(l.map λn=>Tr.v (.int n)).length=l.length:=aC ..;have cl:=ue (l.map λn=>Tr.v (.int n)) _ (by rw[H];show b);have u:Tr.lst [Tr.tup ((au (l.map λn=>Tr.v (.int n)) LY (KE (((ws.map (·.1)).idxOf f:Nat):Int))++[iT v])++au (l.map λn=>Tr.v (.int n)) (KE ((((ws.map (·.1)).idxOf f:Nat):Int)+1)) LY)]=ltT [l.set ((ws.map (·.1)).idxOf f) v]:=(by rw[Dr b];rfl);obtain⟨e,g⟩:=M8 (vs:=((LL ws).take i).map λl=>ltT (aj ws (.put f v) l)) (d:=ltT [l.set ((ws.map (·.1)).idxOf f) v]) r;have y:((((LL ws).take i++[l]).map λl=>ltT (aj ws (.put f v) l))=((LL ws).take i).map (λl=>ltT (aj ws (.put f v) l))++[ltT (aj ws (.put f v) l)]):=(by rw[bI];rfl);rw[E]at a;show{bg rfl,?_};show{by change(au (l.map λn=>Tr.v (.int n)) LY (KE (((ws.map (·.1)).idxOf f:Nat):Int))).length+1<=1000000;lia,?_};show{by change(au (l.map λn=>Tr.v (.int n)) LY (KE (((ws.map (·.1)).idxOf f:Nat):Int))++[iT v]).length+(au (l.map λn=>Tr.v (.int n)) (KE ((((ws.map (·.1)).idxOf f:Nat):Int)+1)) LY).length<=1000000;rw[aI];change _+1+_<=_;lia,?_};show{bg rfl,?_};show{kL l,i3 l,G,?_};exists tI';show ifN (c:=MA) rfl ?_;show i6 ?_;change N ({[KE (.v (spT ws)),KE (.v (ltT (LL ws))),KE (.v (.tup [.v (.str (Say.put f v).sort),.v (.str f),iT v])),KE (.v (.v (.str (Say.put f v).sort))),KE (.c 1),KE (.v (iT ((ws.map (·.1)).idxOf f:Nat))),LY,LY],[LY,KE (.dct (ip (((LL ws).take i).map kL) (kL l)) (jc (((LL ws).take i).map kL) (((LL ws).take i).map λl=>ltT (aj ws (.put f v) l)) (kL l) (Tr.lst [Tr.tup ((au (l.map λn=>Tr.v (.int n)) LY (KE (((ws.map (·.1)).idxOf f:Nat):Int))++[iT v])++au (l.map λn=>Tr.v (.int n)) (KE ((((ws.map (·.1)).idxOf f:Nat):Int)+1)) LY)])))]}:M);rw[u,e,g,<-g_put lk o lset,<-y];show a
  ·rw[cX];show q
def Pk (n:Nat):Pm (Pj (zc n)) 8 2 3 (zc (n+1)):=by
 intro ds R r h;obtain⟨ws,s,rfl,ok,b,d,g,hs,q⟩:=h;rw[s.t_eq];cases a:s.isF with
 |true=>
  obtain⟨f,v,e⟩:∃f v,s=.is f v\/s=.put f v:=by
   cases s<;>first | show{_,_,.inl rfl} | show{_,_,.inr rfl} | cases a
  have i:s.own ws:=d s (by cases s<;>show aQ);have c:s.rest=[.v (.str f),iT v]:=(by rcases e with rfl | rfl<;>rfl);rw[c];show abx ok b e i q
 |false=>
  have n3:decide (s.tag=3)=MA:=by cases s<;>first | rfl | cases a
  have j:decide (s.tag=4)=MA:=by cases s<;>first | rfl | cases a
  have l:s.tag≠2:=λz=>by
   have m:decide (s.tag=2)=LZ:=MI z;cases s with
   |note=>cases g
   |_=>cases m
  have c:s.rest=s.kids.map Say.t:=by cases s<;>first | rfl | cases a
  show ix0 ?_;show{rfl,?_};show sfN ((tI' _).trans n3) ?_;show{rfl,?_};show sfN ((tP _).trans j) ?_;show i6 ?_;change dg _ _ _ _ _ _ _ (au (.v (.str s.sort)::s.rest) (KE 1) LY) _ _;rw[qj,List.drop_one,List.tail_cons,c];have u:s.kids.length<=2:=(by cases s<;>simp[Say.kids]);show cj (out:=λk:Say=>ib (LL ws) (aj ws k)) rfl _ _ (by change 0+_<=_;lia) (λk hk Y o=>?_) ?_
  ·obtain⟨p,w,x⟩:=Say.good_kid d hk;show{rfl,ws,k,rfl,ok,b,p,(),(),o}
  ·rw[bM];show Ym ok b _ a l q
def Pl:GS:=(ax (gOp (eqG MA) (gCB ff (gaE (cv 1 [1,0] (giR (gA1 (gCB ff (gaE (aa 1) gaN)))) (.one 0) (uw (gT (gOp (wu LZ) (gX (aa 2) (aa 0)) (gC (.v .non)))) (gT (gOp (eqG LZ) (gX (aa 2) (aa 0)) (gX (aa 1) (aa 0))))) (aa 0)) gaN)) (gI 0)))
def xj:GP:=λds R=>∃l p,ds=[d9 p,tI l]/\l.length=p.length/\l.length<=100/\R (.val (.v (.bl (decide (put l p=l)))))
def A6 (l:List Int)(p:List (Option Int))(k:Nat):Bool:=match p[k]?,l[k]? with
 |some (KE v),KE x=>decide (v≠x)
 |_,_=>MA
def Na {l:List Int}{p:List (Option Int)}{k:Nat}{x:Int}{c:Option Int}(a:l[k]?=KE x)(b:p[k]?=KE c):(put l p)[k]?=KE (c.getD x):=by
 unfold put;rw[aK,(lN (z:=(x,c))).mpr #v[a,b]];rfl
def Nb {l:List Int}{p:List (Option Int)}(e:l.length=p.length):((bE l.length).filter (A6 l p)).length=0↔put l p=l:=by
 rw[List.length_eq_zero_iff,List.filter_eq_nil_iff];constructor
 ·intro h;show eX λk=>?_;by_cases hk:k < l.length
  ·have a:l[k]?=KE l[k]:=aB hk;have b:p[k]?=KE p[k]:=aB ();rw[Na a b,a];have:=h k (dI.mpr hk);unfold A6 at this;rw[a,b]at this;cases c:p[k]with
   |none=>rfl
   |some v=>
    rw[c]at this;have:v=l[k]:=(by simpa using this);rw[this];rfl
  ·rw[bR (by rw[xy e];lia),bR ()]
 ·intro h k hk;have hk:=dI.mp hk;have a:l[k]?=KE l[k]:=aB hk;have b:p[k]?=KE p[k]:=aB ();have d:=Na a b;rw[h,a]at d;unfold A6;rw[a,b];cases c:p[k]with
  |none=>simp
  |some v=>
   rw[c]at d;have:l[k]=v:=bU d;simp[this]
def Pn:Pm (Pl) 2 1 2 (xj):=by
 intro ds R o h;obtain⟨l,p,rfl,e,r,q⟩:=h;have i:(l.map λn=>Tr.v (.int n)).length=l.length:=aC ..;show{by change(-1000000:Int)<=((l.map λn=>Tr.v (.int n)).length:Int);lia,by change((l.map λn=>Tr.v (.int n)).length:Int)<=1000000;lia,?_};change dg _ _ _ _ _ _ _ (jg 0 (((l.map λn=>Tr.v (.int n)).length:Int)).toNat) _ _;rw[i,rk];show iq (p:=A6 l p) (out:=λk:Nat=>iT k) rfl _ _ (by rw[cA];change 0+_<=_;lia) (λk hk Y Z j f=>?_) ?_
 ·have hk:=dI.mp hk;have g:l[k]?=KE l[k]:=aB hk;have b:p[k]?=KE p[k]:=aB ();have a:A6 l p k=(match KE p[k],KE l[k]with | some (KE v),KE x=>decide (v≠x) | _,_=>MA):=by unfold A6;rw[g,b]
  show aw (x:=dw p[k]) (bh (by rw[aK,b];rfl)) ?_;cases c:p[k]with
  |none=>
   rw[c]at a;show f a
  |some v=>
   rw[c]at a;show aw (x:=iT v) (bh (by rw[aK,b,c];rfl)) ?_;show aw (x:=iT l[k]) (bh (by rw[aK,g];rfl)) ?_;show{rfl,?_};by_cases d:v=l[k]
   ·show ifN (show(!decide (V.int v=V.int l[k]))=MA by rw[d];simp) ?_;show f (by rw[a];show MH λz=>z d)
   ·show ifY (show(!decide (V.int v=V.int l[k]))=LZ by rw[MH λz=>d (V.int.inj z)];rfl) ?_;show j (by rw[a];show MI d)
 ·show{rfl,?_};change R (.val (.v (.bl (decide (V.int ((([]++((bE l.length).filter (A6 l p)).map λk:Nat=>iT k).length:Nat):Int)=V.int 0)))));rw[bM,aC];have m:decide (V.int ((((bE l.length).filter (A6 l p)).length:Nat):Int)=V.int 0)=decide (put l p=l):=decide_eq_decide.mpr {λz=>(Nb e).mp (by have:=V.int.inj z;lia),λz=>by rw[(Nb e).mpr z];rfl};rw[m];show q
def Po:GS:=(ax (gCB uz (gaE (cv 1 [0,1] (giR (gA1 (gCB ff (gaE (aa 1) gaN)))) (.one 0) dh (gX (gLst (gaV (gX (aa 1) (aa 0)) (gA1 (gX (aa 2) (aa 0))))) (gCB Tw (gaE (gOp (wu MA) (gX (aa 1) (aa 0)) (gC (.v .non))) gaN)))) gaN)))
def xk:GP:=λds R=>∃l p,ds=[d9 p,tI l]/\l.length=p.length/\l.length<=100/\R (.val (tI (put l p)))
def Pp:Pm (Po) 2 1 2 (xk):=by
 intro ds R i h;obtain⟨l,p,rfl,e,j,q⟩:=h;have g:(l.map λn=>Tr.v (.int n)).length=l.length:=aC ..;show{by change(-1000000:Int)<=((l.map λn=>Tr.v (.int n)).length:Int);lia,by change((l.map λn=>Tr.v (.int n)).length:Int)<=1000000;lia,?_};change dg _ _ _ _ _ _ _ (jg 0 (((l.map λn=>Tr.v (.int n)).length:Int)).toNat) _ _;rw[g,rk];show cj (out:=λk:Nat=>iT ((put l p).getD k 0)) rfl _ _ (by rw[cA];change 0+_<=_;lia) (λk hk Y a=>?_) ?_
 ·have hk:=dI.mp hk;have d:l[k]?=KE l[k]:=aB hk;have b:p[k]?=KE p[k]:=aB ();rw[cF,Na d b]at a;show aw (x:=dw p[k]) (bh (by rw[aK,b];rfl)) ?_;show aw (x:=iT l[k]) (bh (by rw[aK,d];rfl)) ?_;show{bg rfl,?_};show aw (x:=dw p[k]) (bh (by rw[aK,b];rfl)) ?_;cases c:p[k]with
  |none=>rw[c]at a;show a
  |some v=>rw[c]at a;show a
 ·have ep:([]++(bE l.length).map λk:Nat=>iT ((put l p).getD k 0))=(put l p).map λn=>Tr.v (.int n):=by
   rw[bM];show eX λk=>?_;rw[aK,aK];by_cases hk:k < l.length
   ·have f:k < (put l p).length:=(by rw[xy e];show hk);rw[cG hk,aB f,rC,rC,cF,aB f];rfl
   ·rw[bR (by rw[cA];lia),bR (by rw[xy e];lia)];rfl
  rw[ep];show q
def Yn:GS:=(ak (fk [2,3] (giL (aa 0)) (.tup [2,3]) (sIf (gn (av 2 xj (gaV (aa 2) (gA1 (aa 1))))) (ax (Dg TupG.srtG (cv 1 [1] (giT (aa 3)) (.one 0) dh (av 2 xk (gaV (aa 0) (gA1 (aa 1))))))) cu)) (ax (gLst gaN)))
def A7:GP:=pj
def Yo:Pm (Yn) 4 1 2 (A7):=by
 intro ds R u h;obtain⟨l,T,rfl,j,w,f,q⟩:=h;show d7 (I:=λi m=>m={[KE (.v (gg T)),KE (.v (tI l)),LY,LY],[LY]}/\due l (T.drop i)=due l T) #v[rfl,rfl] ?_ ?_
 ·intro i r m N hi a n;obtain⟨rfl,hd⟩:=a;obtain⟨ml,dl,dm⟩:=j r (aR hi);show{rfl,l,r.m,rfl,ml.symm,f,?_};have g:=cb hi;have o:T.drop i=r::T.drop (i+1):=by
   rw[fG g];rw[aB g]at hi;cases hi;rfl
  rw[o,due]at hd;change if decide (put l r.m=l)=LZ then _ else _
  by_cases c:put l r.m=l
  ·rw[MF c]at hd;rw[MF (MI c)];show cj (out:=λd:List (Option Int)=>tI (put l d)) rfl _ _ (by change 0+_<=_;lia) (λd b Y p=>{rfl,l,d,rfl,(dm d b).symm,f,p}) ?_;show{r.ds.map (put l),by rw[bM,dQ];rfl,by rw[aC];lia,λx s e=>?_,?_}
   ·obtain⟨d,b,rfl⟩:=dA.mp s;have:=xy (dm d b).symm;rw[e]at this;simp at this;lia
   ·rw[hd];show q
  ·rw[MG c]at hd;rw[MG (by rw[MH c];decide)];show n _ #v[rfl,hd]
 ·intro m a;obtain⟨rfl,hd⟩:=a;rw[List.drop_length]at hd;show{bg rfl,?_};rw[<-hd]at q;show q
def Js:GS:=(ak (sIf (gT (gOp (du λi j=>.bl (decide (j < i))) (gCB ff (gaE (aa 0) gaN)) (gI 1))) (ax (gRev (aa 0) (uy (gI 1)))) cu) (ak (Lm (.tup [1,2]) (gX (aa 0) (gI 0))) (ax (gTup (gA1 (gTup (gaV (aa 1) (gA1 (gCB (two λi j=>if j < i then j else i) (gaE (gOp b9 (aa 2) (gI 1)) (gaE (gI 6) gaN)))))))))))
def Turned (ws a:List (Str×Nat)):Prop:=a=ws.reverse\/∃x c,ws=[(x,c)]/\a=[(x,min (c+1) 6)]
def tp:GP:=λds R=>∃ws:List (Str×Nat),ds=[spT ws]/\SpOk ws/\∀a,Turned ws a->R (.val (spT a))
def Jt:Pm (Js) 3 1 1 (tp):=by
 intro ds R b h;obtain⟨ws,rfl,ok,q⟩:=h;have d:(ws.map pT).length=ws.length:=aC ..;have a:=ok.lo;by_cases c:(1:Int) < ((ws.map pT).length:Int)
 ·show ifY (MI c) ?_;have z:=q _ (.inl rfl);unfold spT at z;rw[nM]at z;show#v[rfl,z]
 ·show ifN (MH c) ?_;obtain⟨w,rfl⟩:∃w,ws=[w]:=by
   rcases ws with _ | ⟨w,_ | ⟨v,r⟩⟩
   ·simp at a
   ·show#v[w,rfl]
   ·simp at c;lia
  show{bg rfl,bg rfl,?_};have z:=q _ (.inr #v[w.1,w.2,rfl,rfl]);have e:(if (6:Int) < (w.2:Int)+1 then 6 else (w.2:Int)+1)=((min (w.2+1) 6:Nat):Int):=by
   split<;>lia
  change R (.val (.tup [.tup [.v (.str w.1),iT (if (6:Int) < (w.2:Int)+1 then 6 else (w.2:Int)+1)]]))
  rw[e];show z
def G5:GS:=(ak (sIf (gOr (oo (gn (Al "tuple" (aa 0)))) (gT (gOp (eqG LZ) (gCB ff (gaE (aa 0) gaN)) (gCB ff (gaE (aa 1) gaN))))) (ax (gC (.v (.bl MA)))) cu) (ak (fk [2,3] (giZ (gaV (aa 0) (gA1 (aa 1)))) (.tup [2,3]) (ak (sIf (uw (gT (gOp (wu LZ) (aa 2) (gC (.v .non)))) (gOr (oo (gn (Al "int" (aa 2)))) (gn (Al "bool" (aa 2))))) (ax (gC (.v (.bl MA)))) cu) (sIf (uw (gT (gOp (wu LZ) (aa 2) (gC (.v .non)))) (gOr (gT (gOp (du λi j=>.bl (decide (i < j))) (aa 2) (gI 0))) (gT (gOp (du λi j=>.bl (decide (j<=i))) (aa 2) (gX (aa 3) (gI 1)))))) (ax (gC (.v (.bl MA)))) cu))) (ax (gC (.v (.bl LZ))))))
def lp:GP:=λds R=>∃(p:List (Option Int))(ws:List (Str×Nat)),ds=[d9 p,spT ws]/\p.length=ws.length/\ws.length<=3/\(∀(i:Nat)(v:Int) (w:Str×Nat),p[i]?=KE (KE v)->ws[i]?=KE w->0<=v/\v < (w.2:Int))/\R (.val (.v (.bl LZ)))
def G6:Pm (G5) 4 1 2 (lp):=by
 intro ds R j h;obtain⟨p,ws,rfl,e,l,b,q⟩:=h;show{rfl,?_};show ifN (show(!decide (V.int (((p.map dw).length:Nat):Int)=V.int (((ws.map pT).length:Nat):Int)))=MA by rw[aC,aC,e];simp) ?_;show i6 ?_;change gy _ _ _ _ (prs (p.map dw) (ws.map pT)) _;rw[Gz];show d7 (I:=λ_ m=>m={[KE (.v (d9 p)),KE (.v (spT ws)),LY,LY],[LY]}) rfl ?_ (λm n=>q);intro i d m N hi f a;obtain⟨c,w⟩:=d;subst f;obtain⟨g,hw⟩:=List.getElem?_zip_eq_some.mp hi;cases c with
 |none=>
  show a _ rfl
 |some v=>
  obtain⟨o,r⟩:=b i v w g hw;show ifN (MH (p:=v < 0) ()) ?_;show ifN (MH (p:=(w.2:Int)<=v) ()) ?_;show i6 ?_;show a _ rfl
def E5:GS:=(ak (sIf (gOr (oo (gn (Al "list" (aa 0)))) (gT (gOp (du λi j=>.bl (decide (j < i))) (gCB ff (gaE (aa 0) gaN)) (aa 2)))) (ax (gC (.v (.bl MA)))) cu) (ak (fk [3] (giL (aa 0)) (.one 3) (ak (sIf (gOr (oo (gn (Al "tuple" (aa 3)))) (gOr (gT (gOp (eqG LZ) (gCB ff (gaE (aa 3) gaN)) (gI 2))) (oo (gn (av 2 lp (gaV (gX (aa 3) (gI 0)) (gA1 (aa 1)))))))) (ax (gC (.v (.bl MA)))) cu) (sIf (gOr (oo (gn (Al "tuple" (gX (aa 3) (gI 1))))) (gT (gOp (du λi j=>.bl (decide (j < i))) (gCB ff (gaE (cv 1 [1] (giT (gX (aa 3) (gI 1))) (.one 0) (oo (gn (av 2 lp (gaV (aa 0) (gA1 (aa 1)))))) (aa 0)) gaN)) (gI 0)))) (ax (gC (.v (.bl MA)))) cu))) (ax (gC (.v (.bl LZ))))))
def x5 (ws:List (Str×Nat))(p:List (Option Int)):Prop:=p.length=ws.length/\∀(i:Nat)(v:Int) (w:Str×Nat),p[i]?=KE (KE v)->ws[i]?=KE w->0<=v/\v < (w.2:Int)
def E6 (ws:List (Str×Nat))(r:Row):Prop:=x5 ws r.m/\∀d∈r.ds,x5 ws d
def p7:GP:=λds R=>∃T ws n,ds=[gg T,spT ws,iT n]/\T.length<=n/\T.length<=36/\ws.length<=3/\(∀r∈T,E6 ws r/\r.ds.length<=36)/\R (.val (.v (.bl LZ)))
def E7:Pm (E5) 4 1 3 (p7):=by
 intro ds R o h;obtain⟨T,ws,n,rfl,s,u,a,b,q⟩:=h;have w:(T.map cp).length=T.length:=aC ..;show ifN (MH (p:=(n:Int) < ((T.map cp).length:Int)) ()) ?_;show i6 ?_;show d7 (I:=λ_ m=>m={[KE (.v (gg T)),KE (.v (spT ws)),KE (.v (iT n)),LY],[LY]}) rfl ?_ (λm x=>q);intro i r m N hi c e;subst c;obtain⟨⟨⟨f,pv⟩,g⟩,dl⟩:=b r (aR hi);show{rfl,?_};show{rfl,r.m,ws,rfl,f,a,pv,?_};show iq (p:=λ_=>MA) (out:=d9) rfl _ _ (by change 0+_<=_;lia) (λd hd Y Z y j=>?_) ?_
 ·obtain⟨dm,l⟩:=g d hd;show{rfl,d,ws,rfl,dm,a,l,?_};show j rfl
 ·show ifN (MH (p:=(0:Int) < (([]++(r.ds.filter λ_=>MA).map d9).length:Int)) ∅) ?_;show i6 ?_;show e _ rfl
theorem Nc:∀{l m},m.length=l.length->put l (ly l m)=m
 | [],[],_=>rfl
 | [],_::_,h=>by cases h
 |_::_,[],h=>by cases h
 |x::l,y::m,h=>by
  have a:=Nc (l:=l) (m:=m) (by simpa using h);change(if y=x then LY else KE y).getD x::put l (ly l m)=y::m
  rw[a];by_cases c:y=x
  ·rw[MF c,c];rfl
  ·rw[MG c];rfl
theorem Nd:∀{l m},m.length=l.length->put l (m.map KE)=m
 | [],[],_=>rfl
 | [],_::_,h=>by cases h
 |_::_,[],h=>by cases h
 |x::l,y::m,h=>by
  change y::put l (m.map KE)=y::m;rw[Nd (by simpa using h)]
theorem Nf {ws:List (Str×Nat)}{s:Say}{l:List Int}(b:l∈LL ws):∀(ls:List (List Int)),(∀m∈ls,m∈LL ws)->l∈ls->due l (tf (ls.map λl=>(l,aj ws s l)))=aj ws s l
 |m::ls,hs,h=>by
  have d:=hs m aQ;change(if put l (m.map KE)=l then TupG.srtG (((aj ws s m).map (ly m)).map (put l))else due l (tf (ls.map λl=>(l,aj ws s l))))=_
  rw[Nd (by rw[eh d,eh b])];by_cases c:m=l
  ·subst c;rw[MF rfl];have e:((aj ws s m).map (ly m)).map (put m)=aj ws s m:=by
    rw[dQ];show(lK λx a=>?_).trans (pG _);show Nc (by rw[eh (nk a),eh d])
   rw[e];show sh (TupG.nodup_dd _) λy=>by rw[TupG.mem_dd,ef]
  ·rw[MG c];rcases aW.mp h with z | z
   ·show MJ z.symm c
   ·show Nf b ls (λx a=>hs x (aP _ a)) z
def aby (ws:List (Str×Nat))(s:Say):fg (tf (dt ws s)) (dt ws s)=LZ:=by
 unfold fg;show List.all_eq_true.mpr λp b=>MI ?_;obtain⟨a,c⟩:=vo b;rw[c];show Nf a _ (λ_ h=>h) a
theorem Ng {P:List Row->Prop}(a:∀T k,P T->fg (T.eraseIdx k) W=LZ->P (T.eraseIdx k)):∀(k:Nat)(T:List Row),P T->P (nj W k T)
 |0,_,h=>h
 |k+1,T,h=>by
  rw[nj];show Ng a k _ ?_
  split
  ·rename_i c;show a T k h c
  ·show h
def abz {P:List Row->Prop}(hw:∀T p i r,P T->T[p]?=KE r->fg (T.set p (wid r i)) W=LZ->P (T.set p (wid r i)))(n:Nat):∀(k:Nat)(T:List Row),P T->P (jo W n T k):=by
 have b:∀T p i,P T->P (qp W p T i):=λT p i h=>by
  unfold qp;cases e:T[p]? with
  |none=>show h
  |some r=>
   dsimp only
   split
   ·rename_i c;show hw T p i r h e c
   ·show h
 have d:∀p k T,P T->P (ma W p T k):=λp k=>by
  induction k with
  |zero=>show λT h=>h
  |succ k a=>show λT h=>by rw[rq];show b _ _ _ (a T h)
 intro k
 induction k with
 |zero=>show λT h=>h
 |succ k a=>show λT h=>by rw[r8];show d _ _ _ (a T h)
def A8 {n:Nat}{T a:List Row}{P:List Row->Prop}(b:∀T k,P T->fg (T.eraseIdx k) W=LZ->P (T.eraseIdx k))(hw:∀T p i r,P T->T[p]?=KE r->fg (T.set p (wid r i)) W=LZ->P (T.set p (wid r i)))(h:Gets W n T a)(h0:P T):P a:=by
 induction h with
 |ref=>show h0
 |step _ c=>show abz hw _ _ _ (Ng b _ _ c)
def aca {W:g6}{n:Nat}{T a:List Row}(h:Gets W n T a)(h0:fg T W=LZ):fg a W=LZ:=
 A8 (P:=λT=>fg T W=LZ) (λ_ _ _ c=>c) (λ_ _ _ _ _ _ c=>c) h h0
def acb {n:Nat}{T a:List Row}(h:Gets W n T a):a.length<=T.length:=
 A8 (P:=λU=>U.length<=T.length) (λU k h _=>bK (List.length_eraseIdx_le _ _) h) (λU p i r h _ _=>by rw[eF];show h) h (aJ _)
def acd (h:x5 ws p)(i:Nat):x5 ws (p.set i LY):=⟨by rw[eF];show h.1,λj v w e=>by
  rw[qF]at e
  split at e
  · split at e<;>cases e
  · show h.2 j v w e⟩
def ahb {W:g6}{n:Nat}{ws:List (Str×Nat)}{T b:List Row}(h:Gets W n T b)(h0:∀r∈T,E6 ws r):∀r∈b,E6 ws r:=
 A8 (P:=λU=>∀r∈U,E6 ws r) (λU k h _ r a=>h r (List.mem_of_mem_eraseIdx a)) (λU p i r h e _ x c=>by
   rcases List.mem_or_eq_of_mem_set c with z | z
   · show h x z
   · rw[z];have a:=h r (aR e);show{acd a.1 i,a.2}) h h0
def Yp (h:l∈LL ws):x5 ws (l.map KE):=⟨by rw[aC,eh h],λi v w e b=>by
  rw[aK]at e;obtain⟨x,d,f⟩:=dN.mp e;cases f;obtain⟨c,a,h0,g⟩:=(fv _).rng l h i v d;rw[aK,b]at a;cases a;show#v[h0,g]⟩
def Yq (a:l∈LL ws)(b:m∈LL ws):x5 ws (ly l m):=⟨by rw[Dw (by rw[eh b,eh a]),eh a],λi v w e h=>by
  have hi:i < l.length:=(by have:=cb e;rw[Dw (by rw[eh b,eh a])]at this;show this);have d:l[i]?=KE l[i]:=aB hi;have f:m[i]?=KE (m[i]'(by rw[eh b,<-eh a];show hi)):=aB _;rw[agp f d]at e
  split at e
  · cases e
  · cases e;obtain⟨c,g,h0,d⟩:=(fv _).rng m b i _ f;rw[aK,h]at g;cases g;show#v[h0,d]⟩
def ahc (ws:List (Str×Nat))(s:Say):∀r∈tf (dt ws s),E6 ws r:=λr c=>by
 obtain⟨p,e,rfl⟩:=dA.mp c;obtain⟨a,f⟩:=vo e;show{Yp a,λd hd=>?_};obtain⟨m,b,rfl⟩:=dA.mp hd;rw[f]at b;show Yq a (nk b)
theorem Nh:∀T k,k < T.length->mu (T.eraseIdx k) < mu T
 |r::T,0,_=>by change mu T < 1+cnt r.m+mu T;lia
 |r::T,k+1,h=>by
  have:=Nh T k (by simpa using h);rw[gN];change 1+cnt r.m+mu (T.eraseIdx k) < 1+cnt r.m+mu T;lia
theorem Ni:∀p i v,p[i]?=KE (KE v)->cnt (p.set i LY) < cnt p
 |some u::p,0,v,_=>fF _
 |none::p,0,v,h=>by cases h
 |c::p,i+1,v,h=>by
  have:=Ni p i v h;rw[iC];cases c with
  |none=>show this
  |some u=>show nN this
theorem Yr:∀T p i r v,T[p]?=KE r->r.m[i]?=KE (KE v)->mu (T.set p (wid r i)) < mu T
 |s::T,0,i,r,v,h,e=>by
  cases bU h;have:=Ni s.m i v e;change 1+cnt (s.m.set i LY)+mu T < 1+cnt s.m+mu T;lia
 |s::T,p+1,i,r,v,h,e=>by
  have:=Yr T p i r v h e;rw[iC];change 1+cnt s.m+mu (T.set p (wid r i)) < 1+cnt s.m+mu T;lia
theorem LeT.mu {A B:List Row}(h:LeT A B):PB.mu A<=PB.mu B:=by
 rcases h with rfl | h
 ·show aJ _
 ·show gR h
def LeT.eq {A B:List Row}(h:LeT A B)(e:PB.mu B<=PB.mu A):A=B:=by
 rcases h with rfl | h
 ·rfl
 ·lia
theorem Se:∀k T,k<=T.length->nj W k T=T->∀j,j < k->fg (T.eraseIdx j) W=MA
 |0,_,_,_,_,h=>by lia
 |k+1,T,hk,e,j,d=>by
  rw[nj]at e;have c:fg (T.eraseIdx k) W=MA:=by
   cases c:fg (T.eraseIdx k) W with
   |false=>rfl
   |true=>
    rw[MF c]at e;have a:=(E3 W k (T.eraseIdx k)).mu;rw[e]at a;have:=Nh T k ();lia
  rw[MG (by rw[c];decide)]at e;by_cases b:j=k
  ·rw[b];show c
  ·show Se k T () e j ()
theorem Nj:∀k,ma W p T k=T->∀i,i < k->qp W p T i=T
 |0,_,_,h=>by lia
 |k+1,e,i,hi=>by
  rw[rq]at e;have a:=(R4 W p (ma W p T k) k).mu;rw[e]at a;have b:=(B0 W p T k).eq a;rw[b]at e;by_cases c:i=k
  ·rw[c];show e
  ·show Nj k b i ()
theorem Nk:∀k,jo W n T k=T->∀p,p < k->ma W p T n=T
 |0,_,_,h=>by lia
 |k+1,e,p,d=>by
  rw[r8]at e;have a:=(B0 W k (jo W n T k) n).mu;rw[e]at a;have b:=(B1 W n T k).eq a;rw[b]at e;by_cases c:p=k
  ·rw[c];show e
  ·show Nk k b p ()
def ace (e:iz W n T=T):(∀k,k < T.length->fg (T.eraseIdx k) W=MA)/\∀p i r v,T[p]?=KE r->i < n->r.m[i]?=KE (KE v)->fg (T.set p (wid r i)) W=MA:=by
 unfold iz at e;have d:=(B1 W n (nj W T.length T) (nj W T.length T).length).mu;rw[e]at d;have f:=(E3 W T.length T).eq d;rw[f]at e;show{Se _ T (aJ _) f,λp i r v b hi g=>?_};have a:=Nj n (Nk _ e p (cb b)) i hi;unfold qp at a;rw[b]at a;dsimp only at a;cases c:fg (T.set p (wid r i)) W with
 |false=>rfl
 |true=>
  rw[MF c]at a;have:=Yr T p i r v b g;rw[a]at this;lia
end PB
namespace VL
open PySem L2 PySem.Deep PySem.SeqAt
mutual
def fm:Tr->Bool
 | .v _=>LZ
 | .tup l=>immL l
 |_=>MA
def immL:List Tr->Bool
 | []=>LZ
 |d::l=>fm d && immL l
end
open Classical in
noncomputable def gj (F:Hp):Hp:=λa=>if (∃o,F a=KE o/\imm o)then F a else LY
def j5 (F:Hp):Same (gj F) F:=λa o e=>by
 unfold gj at e
 split at e
 ·show e
 ·cases e
def vw (e:gj F a=KE o):imm o:=by
 unfold gj at e
 split at e
 ·rename_i h
  obtain⟨d,b,c⟩:=h;rw[e]at b;cases b;show c
 ·cases e
def Sf (e:F a=KE o)(b:imm o):gj F a=KE o:=by
 unfold gj;rw[MF #v[o,e,b]];show e
def acf (h:SqT K F a xs):SqT K (gj F) a xs:=by
 rcases h with(h | ⟨o,h⟩) | h
 ·show .inl (.inl (Sf h trivial))
 ·show .inl (.inr {o,Sf h trivial})
 ·show .inr h
mutual
theorem Rp.imm:∀{x d},Rp b F x d->fm d=LZ->Rp b (gj F) x d
 |_,_,.v h,_=>.v h
 |_,_,.tup h r,e=>.tup (acf h) (Rps.imm r (by rw[fm]at e;show e))
 |_,_,.lst h r,e=>by simp[fm]at e
 |_,_,.scr h r,e=>by simp[fm]at e
 |_,_,.dct h k r,e=>by simp[fm]at e
 |_,_,.dk h k r,e=>by simp[fm]at e
 |_,_,.obj h k r,e=>by simp[fm]at e
theorem Rps.imm:∀{xs l},Rps b F xs l->immL l=LZ->Rps b (gj F) xs l
 |_,_,.nil,_=>.nil
 |_,_,.cons h r,e=>by
  rw[immL,cO]at e;show .cons (Rp.imm h e.1) (Rps.imm r e.2)
end
def ownR (Q:Ev->Prop):Ev->Prop
 | .val (.lst l)=>immL l=LZ/\Q (.new (.lst l))
 |_=>False
def Nl (n:Nat)(g:GP)(ga:GA):GE:=λm Q=>ga m λa b=>wt a λds=>ds.length=n/\immL ds=LZ/\g ds (ownR λc=>Q c b)
noncomputable def gp (W a:Wd):Hp:=λc=>match W.F c with
 |some o=>KE o
 |none=>gj a.F c
def acg (ok:Wok b W cel)(le:Le {gj W.F,W.H,λ_=>LY} f)(p:Wok b f [])(s:f.F a=KE (.lst xs))(r:Rps b f.F xs l)(y:immL l=LZ) :
  Lx W {gp W f,f.H,W.C}/\Wok b {gp W f,f.H,W.C} cel/\Rev b W {gp W f,f.H,W.C} (.ref a) (.new (.lst l)):=by
 have keep:∀c o,W.H c=KE o->f.H c=KE o:=λc o e=>le.fr c o e λj z=>(by cases z);have I:f.H a=KE (.lst xs):=p.sub _ _ s;have A:W.H a=LY:=by
  have D:gj W.F a=LY:=by
   cases q:gj W.F a with
   |none=>rfl
   |some o=>
    have:=le.same a o q;rw[s]at this;cases this;show(vw q).elim
  rcases le.nw a D (by rw[s];show λz=>by cases z)with z | ⟨j,z⟩ | ⟨o,z,y⟩
  ·show z
  ·cases z
  ·have:=keep a o z;rw[I]at this;cases this;show y.elim
 have fa:W.F a=LY:=ok.Fn A;have w:∀{c o},W.F c=KE o->gp W f c=KE o:=λ{c o} e=>(by unfold gp;rw[e]);have g:∀{c},W.F c=LY->gp W f c=gj f.F c:=λ{c} e=>(by unfold gp;rw[e]);have N:Same (gj f.F) (gp W f):=λc o e=>by
  cases q:W.F c with
  |none=>rw[g q];show e
  |some u=>
   rw[w q];have E:=keep c u (ok.sub c u q);have h:=p.sub c o (j5 _ c o e);rw[E]at h;show h
 have O:gp W f a=LY:=by
  rw[g fa];cases q:gj f.F a with
  |none=>rfl
  |some o=>
   have:=j5 _ a o q;rw[s]at this;cases this;show(vw q).elim
 have Q:∀j,W.C j≠KE a:=λj e=>by
  obtain⟨d,hd⟩:=ok.live j a e;obtain⟨a',x,_,i⟩:=ok.cell j d hd;rw[e]at x;cases x;obtain⟨o,m⟩:=i.has;rw[A]at m;cases m
 have T:Same (gp W f) f.H:=λc o e=>by
  cases q:W.F c with
  |some u=>rw[w q]at e;cases e;show keep c _ (ok.sub c _ q)
  |none=>rw[g q]at e;show p.sub c o (j5 _ c o e)
 show{{{λc o e=>w e,λc o e _=>keep c o e,λc e n=>?_,λj c e=>.inl e,λc z=>le.dm c z},λj c e=>e},{T,λj d U=>?_,ok.live,ok.dist},a,rfl,A,O,Q,xs,I,(r.imm y).mono N}
 ·have J:gp W f c≠LY:=n;rw[g e]at J;have D:gj W.F c=LY:=by
   unfold gj;rw[MG λG=>by obtain⟨o,z,_⟩:=G;show by rw[e]at z;cases z]
  have Y:f.F c≠LY:=λz=>J (by unfold gj;rw[MG λG=>by obtain⟨o,L,_⟩:=G;show by rw[z]at L;cases L]);rcases le.nw c D Y with z | ⟨j,z⟩ | z
  ·show .inl z
  ·cases z
  ·show .inr (.inr z)
 ·obtain⟨c,x,q2,i⟩:=ok.cell j d U;show{c,x,?_,i.mono (λc o e=>w e) λo e=>keep c o e};change gp W f c=LY;rw[g q2];cases q:gj f.F c with
  |none=>rfl
  |some u=>
   obtain⟨o,m⟩:=i.has;have E:=keep c o m;have h:=p.sub c u (j5 _ c u q);rw[E]at h;cases h;show MJ (vw q) (i.nimm _ m)
section
variable {X:Cx}
def vcn (F:Fo X.prog X.w X.K X.mg X.base I x ps (spP X.B n g))(J:Room k X.A)(s:VA X (e::r) ga)(hk:I<=k:=by decide)(L:Gl X x:=by rfl)
  (N:(x == ("__debug__":Str))=MA:=by decide) (O:aN (e::r) X.env=(MA,eval e X.env)::aN r X.env:=by rfl) (T:(dP u (aN r X.env)).any (·.1)=MA:=by rfl) :
  VE X (.Call (.Name x p) (e::r) [] u) (Nl n g ga):=by
 show#v[?_];obtain⟨f,fd,F,a,b,c⟩:=F;show PE.sub (Bj F (J.mono hk) L a b c .nil yc s.out N O T) λσ H Q ⟨W,m,R,U,Y,h,q⟩=>⟨W,m,_,U,Y,h,λvM m1 i xs h1 l1 D r1=>by
   obtain⟨ds,E,hl,hi,h2⟩:=nv r1 h1;have EW:Wok X.B ⟨gj i.F,i.H,λ_=>LY⟩ []:={λa o z=>D.ok.sub a o (j5 _ a o z),(λj d z=>by simp at z),(λj a z=>by cases z),(λj k a z=>by cases z)};show{by rw[bX,E.length];show hl,{gj i.F,i.H,λ_=>LY},ds,_,rfl,EW,by rw[bX];show E.imm hi,h2,λev G y l l3 c3 yK r3=>?_};unfold ownR at l
   split at l
   · obtain⟨im,l⟩:=l;obtain⟨a,ys,rfl,s.out,ry⟩:=Rp.lstI r3;obtain⟨l4,BF,rv⟩:=acg D.ok l3 yK s.out ry im;show q _ m1 {gp i G,G.H,i.C} _ l (l1.trans l4) (D.lift l4 (λ_=>rfl) BF) (rv.old l1.toLe)
   · show l.elim⟩
end
section
variable {prog:aV}{w:bA}{A:bV}{E:aE->aH->Prop}{s:aH}
def ach (hd:(d == fZ)=MA)(a:s.heap.get? d=KE b)(f:b.ExactDict)(e:b.data=.dict g ep)
  (h:Q (.ref ‹s›) { s with heap:=s.heap.push { cls:=.type "dict_keyiterator",data:=.fields #[.ref d,.int 0 0,.int g.size 0,.int ep 0] } }):aL (aX prog w) A (sN (.ref d)) Q E s:=by
 have c:s.TypeIs (.ref d) "dict":=#v[b,a,f.1];show qD c F.slot_dict_iter (cN F.slot_dict_iter c F.entry_dict_iter ?_ (F.args_dict_iter_1 _));unfold iP.«dict.__iter__» Builtin.Dict.dictSlotNone;show aA (aA (wpAny_notOrdered_dict c (wpAny_pure ?_)));change aL _ _ (Builtin.Dict.showsAll d >>= _) _ _ s;unfold Builtin.Dict.showsAll;rw[MG (by rw[hd];show aO)];show aA (wpAny_pure (aA (qH a e (aA (rD a e (aA (cU (wpAny_pure {_,rfl,"dict_keyiterator",_,{_,aT _ rfl,rfl},F.slot_dict_keyiterator_next.lookup,by simpa[iU]using h}))))))))
def zh (a:s.TypeIs (.ref it) "dict_keyiterator")(h:Q "dict_keyiterator" s):aL (aX prog w) A (typeNameOfWhole (.ref it)) Q E s:=wpAny_typeNameOfWhole_keyiter a h
def aci (c:s.heap.IsKeyIter it d i a.size ep)(f:s.heap.get? d=KE j)(g:j.data=.dict a ep)(l:a[i]?=KE e)
  (m:∀h',h'.IsKeyIter it d (i+1) a.size ep->dZ it s.heap h'->Q (KE e.key) { s with heap:=h' }):aL (aX prog w) A (gU (.ref it)) Q E s:=by
 obtain⟨o,b,n,hd⟩:=id c;have T:=c.typeIs;unfold gU;show aA (jH (cS (name:=cW "__next__") T F.slot_dict_keyiterator_next (cN F.slot_dict_keyiterator_next T F.entry_dict_keyiterator_next ?_ (F.args_dict_keyiterator_next_1 _))));show aA (wpAny_pure (aA (aA (aA (zh T (wpAny_pure (aA (pA b hd ?_))))))));simp only[show Builtin.Dict_items.ownsTuple "dict_keyiterator"=MA by decide,bL,if_false];change aL _ _ (if (bY d == eB)=LZ then _ else _) _ _ s
 rw[MG (show ¬((bY d == eB)=LZ)from aO)];show aA (wpAny_pure (aA (qH f g ?_)));rw[MG ∅];show aA (wpAny_pure (aA (rD f g ?_)));rw[MG ∅];show wpAny_pure ?_;simp only[show ¬((i:Int) < 0)from by lia,if_false,bZ,l];show aA (aA (zh T (wpAny_pure (aA (wpAny_isOneOf_keyiter T ?_)))));change aL _ _ (tY (.ref it) 1 (iU ((i:Int)+1)) >>= _) _ _ s;show aA (jO b hd ∅ ?_);have h:(s.heap.update it (sI (·.setIfInBounds 1 (iU ((i:Int)+1))))).IsKeyIter it d (i+1) a.size ep:=
  {_,gF _ b (kS (fB hd _)),(mT ..).trans n,by rw[fB hd];simp[iU]}
 show aA (dB (aA (wpAny_isOneOf_keyiter (s:={ s with heap:=s.heap.update it (sI (·.setIfInBounds 1 (iU ((i:Int)+1)))) }) h.typeIs ?_)));change aL _ _ (pure e.key) _ _ _;show wpAny_pure (wpAny_pure {_,rfl,wpAny_pure (m _ h (eI ..))})
def ahd (j:A.handled=LY)(c:s.heap.IsKeyIter it d i e.size ep)(f:s.heap.get? d=KE l)(g:l.data=.dict e ep)(n:e.size<=i)
  (p:∀h',kO it s.heap h'->Q LY { s with heap:=h' }):aL (aX prog w) A (gU (.ref it)) Q E s:=by
 obtain⟨o,h,q,hd⟩:=id c;have T:=c.typeIs;unfold gU;show aA (jH (cS (name:=cW "__next__") T F.slot_dict_keyiterator_next (cN F.slot_dict_keyiterator_next T F.entry_dict_keyiterator_next ?_ (F.args_dict_keyiterator_next_1 _))));show aA (wpAny_pure (aA (aA (aA (zh T (wpAny_pure (aA (pA h hd ?_))))))));simp only[show Builtin.Dict_items.ownsTuple "dict_keyiterator"=MA by decide,bL,if_false];change aL _ _ (if (bY d == eB)=LZ then _ else _) _ _ s
 rw[MG (show ¬((bY d == eB)=LZ)from aO)];show aA (wpAny_pure (aA (qH f g ?_)));rw[MG ∅];show aA (wpAny_pure (aA (rD f g ?_)));rw[MG ∅];show wpAny_pure ?_;simp only[show ¬((i:Int) < 0)from by lia,if_false,bZ,Array.getElem?_eq_none n];show aA (aA (zh T (wpAny_pure ?_)));change aL _ _ (tY (.ref it) 0 .none >>= _) _ _ s;show aA (jO h hd ∅ ?_);change aL _ _ (uJ (.type "StopIteration") [] >>= _) _ _ _;show aA ?_;simp only[uJ,tX];show aA (cU ?_ (by size_fits));show aA (m:=kU _ _) (rJ (a:=eB) (by first | rfl | (simp only[kU];rfl)) ?_)
 show cU ?_ (by size_fits);simp only[raiseNew];show aA (sF ?_);rw[show A.in1.handled=LY from j];show aA (wpAny_pure (tT ?_));show aA (hX (T:="StopIteration") (b:=LZ) {_,aT _ rfl,rfl} pB (wpAny_pure ?_));show p _ (((eI ..).extBut.push _).push _)
end
def Itk (P:aV)(w:bA)(a:MB)(ep:Nat)(kvs:DE):It:=
 {λi H=>i < kvs.length/\H a=KE (ji P w a ep kvs),λi H x H'=>H'=H/\∃e,kvs[i]?=KE e/\x=.ref e.2.1,λi H=>kvs.length<=i/\H a=KE (ji P w a ep kvs)}
def acj (r:Paired uq kvs xs):∀{i:Nat}{e:List I2×MB×V},kvs[i]?=KE e->∃y,xs[i]?=KE y/\e.2.1=y.2.1:=by
 induction r with
 |nil=>intro i e h;simp at h
 |@cons p q ps c h t b=>
  intro i e a;cases i with
  |zero=>simp at a;subst a;show{q,by simp,h.2.1}
  |succ i=>simpa using b (by simpa using a)
def G7 (I:Inv X g i H s)(h:H a=KE (ji X.prog X.w a ep kvs)):∃xs o b,Paired uq kvs xs/\s.heap.get? a=KE o/\o.ExactDict/\o.data=.dict b ep/\b.toList=xs.map (rR (ju X.prog X.w))/\b.size=kvs.length:=by
 obtain⟨⟨xs,r,o,b,d,e,f,c,j⟩,_⟩:=(show ObjOk X.prog X.w H s.heap a (ji X.prog X.w a ep kvs)from I.hok a _ h);show{xs,o,b,r,d,e,f,c,?_};rw[<-cQ,c,aC,r.length]
def Ys {kvs:DE}:yb P w K tg (Itk P w a ep kvs) [it] it (λi h=>h.IsKeyIter it a i kvs.length ep) where
 mem:=by simp
 obj:=λi h st b hb=>by
  have e:b=it:=(by simpa using hb);subst e;obtain⟨o,e,c,d⟩:=st;show{o,e,λv z=>by rw[d]at z;cases z}
 keep:=λi h h' uU k=>by obtain⟨o,e,c⟩:=uU;show{o,k it ∅ o e,c}
 item:=by
  intro X hP hw hK hc i f' s σ H E I hf st ⟨hi,hg⟩;subst hP hw hK;obtain⟨xs,od,es,r,e1,e2,e3,e4,e5⟩:=G7 I hg;obtain⟨f0,f1,f2,f3,f4,f5⟩:=hf it ∅;have hk:kvs[i]?=KE kvs[i]:=aB hi;obtain⟨y,hy,ey⟩:=acj r hk;have he:es[i]?=KE (rR (ju X.prog X.w) y):=(by rw[<-bP,e4,aK,hy];rfl);rw[<-e5]at st;show aci st e1 e3 he λh' zB sb=>?_;have I1:Inv X f' σ H { s with heap:=h' }:=I.turned (t':=s.toks) (λb o hb e=>(sb.2 b hb).trans e) f0 f1 f3 f4 f5;obtain⟨o,e,c,d⟩:=id zB;rw[e5]at zB;show⟨_,rfl,Bh (s:={ s with heap:=h' }) e c d (by decide) {.ref kvs[i].2.1,H,I1,by rw[ey];show rfl,{rfl,_,hk,rfl},zB,λb hb=>(hf b hb).1}⟩
 done:=by
  intro X hP hw hK hc i f' s σ H E I hf st ⟨hi,hg⟩;subst hP hw hK;obtain⟨xs,od,es,r,e1,e2,e3,e4,e5⟩:=G7 I hg;obtain⟨f0,f1,f2,f3,f4,f5⟩:=hf it ∅;rw[<-e5]at st hi;show ahd (I.ok.hd hc) st e1 e3 hi λh' eb=>{rfl,I.turned (t':=s.toks) (λb o hb e=>eb b o hb e) f0 f1 f3 f4 f5}
 self:=λ_ _ _ _ _ st h=>wpAny_pyIter_keyiter st h
section
variable {X:Cx}
def iKeys (P:aV)(w:bA)(c:TE):TI:=λd H R=>c d H λx b=>∃a ep kvs,x=.ref a/\(a == fZ)=MA/\b a=KE (ji P w a ep kvs)/\R (Itk P w a ep kvs) b
def ahe (f:PE X l g):PI X E l (iKeys X.prog X.w g):=by
 intro i s j H R I h;show thn (f i s j H _ I h) λv d m=>?_;obtain⟨x,n,c,p,a,ep,kvs,e,hs,u,q⟩:=m;subst e;cases p;obtain⟨xs,G,J,r,y,z,A,L,C⟩:=G7 c u;show ach hs y z A {_,[_],_,_,n,rfl,c.kept (t':=d.toks) λb o e=>aF _ e,Ys (a:=a) (ep:=ep) (kvs:=kvs),{_,aT _ rfl,rfl,by rw[<-C];rfl},λb D=>?_,q};have e:b=‹d›:=(by simpa using D);subst e;show c.fpOk (aJ _) (c.hok.fresh (aJ _))
def giK (f:GE):GI:=λm Q=>f m λa b=>fz b a λd c=>match d with
 | .dct ks _=>Q (ks.map λk=>.tup (k.map itT)) c
 |_=>False
def ack (h:KeyAt b.K F c ks):Rp b F (.ref c) (.tup (ks.map itT)):=by
 obtain⟨xs,d,f⟩:_:=h;show .tup d ?_;clear d
 induction f with
 |nil=>show .nil
 |@cons v k vs ks h t a=>
  show .cons ?_ a;cases k with
  |inl i=>cases(show v=V.int i from h);show .v rfl
  |inr l=>
   obtain⟨c,rfl,e⟩:_:=(show ∃c,v=V.ref c/\SqT b.K F c (l.map V.int)from h);show .tup e ?_;clear h e
   induction l with
   |nil=>show .nil
   |cons i l a=>show .cons (.v rfl) a
def ahf (h:F a=KE (ji b.P b.w a ep kvs))(hk:∀e∈kvs,KeyAt b.K F e.2.1 e.1):Sq b F (Itk b.P b.w a ep kvs) ((kvs.map (·.1)).map λk=>.tup (k.map itT)):=λn o f l i=>by
 have g:=l _ _ (f _ _ h);show{λhi=>{by simpa using hi,g},λd hd=>?_};rw[aK,aK]at hd;cases c:kvs[i]? with
 |none=>rw[c]at hd;cases hd
 |some e=>
  rw[c]at hd;cases hd;show{{(bH.mp c).1,g},?_};intro x p m;obtain⟨rfl,q,j,rfl⟩:=m;rw[c]at j;cases j;show .inl {rfl,ack (jx (hk e (aR c)) f)}
def ahg (j:VE X e f):VI X A e (giK f):=⟨PI.sub (ahe j.out) λC H R ⟨W,m,D,n,o,h,q⟩=>⟨W,m,_,n,o,h,λE G I x p l1 r s=>by
  obtain⟨d,u,W2,b,l2,w,g,y⟩:=mr l1 r s p
  split at b
  · cases y with
    |@dct a kvs ks l c z J=>
      obtain⟨ep,i⟩:=c.at_;subst z;rw[<-w];show{a,ep,kvs,rfl,c.sys,g.ok.sub _ _ i,q _ u W2 _ b l2 g (ahf i c.keys)}
  · show b.elim⟩⟩
end
end VL
namespace PB
open PySem L2 VL Bits S1 PySem.Deep
def Pq:GS:=(ak (fk [2] (giK (aa 1)) (.one 2) (sIf (gT (gOp (eqG LZ) (av 2 A7 (gaV (aa 0) (gA1 (aa 2)))) (gOp ixD (aa 1) (aa 2)))) (ax (gC (.v (.bl MA)))) cu)) (ax (gC (.v (.bl LZ)))))
def mq:GP:=λds R=>∃T ws s,ds=[gg T,ib (LL ws) (aj ws s)]/\SpOk ws/\(∀r∈T,RowOk ws.length r)/\R (.val (.v (.bl (fg T (dt ws s)))))
def Nm:fg T (dt ws s)=(LL ws).all λl=>decide (due l T=aj ws s l):=by
 unfold fg dt;rw[tF];rfl
def Pt:Pm (Pq) 3 1 2 (mq):=by
 intro ds R a h;obtain⟨T,ws,s,rfl,ok,d,q⟩:=h;have n:=ok.lo;have o:=ok.hi;change gy _ _ _ _ (((LL ws).map kL).map λk=>Tr.tup (k.map itT)) _;have f:(((LL ws).map kL).map λk=>Tr.tup (k.map itT))=(LL ws).map tI:=by
  rw[dQ];show lK λl _=>ML Tr.tup (i3 l).symm
 rw[f];rw[Nm]at q;show d7 (I:=λi m=>m={[KE (.v (gg T)),KE (.v (ib (LL ws) (aj ws s))),LY],[LY]}/\((LL ws).take i).all (λl=>decide (due l T=aj ws s l))=LZ) #v[rfl,rfl] ?_ ?_
 ·intro i l m N hi b g;obtain⟨rfl,hd⟩:=b;have a:=aR hi;have w:=eh a;show{rfl,l,T,rfl,by rw[w];show d,(),(),?_};show{kL l,i3 l,aw (fnd a) ?_};show{yz _ _ _,λc j=>?_};cases vk j Dx;by_cases c:due l T=aj ws s l
  ·show ifN (show(!decide (due l T=aj ws s l))=MA by rw[MI c];rfl) ?_;show i6 ?_;show g _ {rfl,?_};rw[cV,hi,List.all_append,hd];simp[c]
  ·show ifY (show(!decide (due l T=aj ws s l))=LZ by rw[MH c];rfl) ?_;have e:((LL ws).all λl=>decide (due l T=aj ws s l))=MA:=qG.mpr λz=>c (of_decide_eq_true (jS.mp z l a));rw[e]at q;show q
 ·intro m b;obtain⟨rfl,hd⟩:=b;rw[cX]at hd;rw[hd]at q;show q
def Nn:GS:=(ak (fk [2,3,4,5,6] (giR (gA1 (gCB ff (gaE (aa 0) gaN)))) (.one 2) (ak (sIf (gn (av 2 mq (gaV (gOp b9 (gSl (aa 0) goN (goS (aa 2))) (gSl (aa 0) (goS (gOp b9 (aa 2) (gI 1))) goN)) (gA1 (aa 1))))) (ax (gC (.v (.bl MA)))) cu) (ak (Lm (.tup [3,4]) (gX (aa 0) (aa 2))) (fk [5,6] (giR (gA1 (gCB ff (gaE (aa 3) gaN)))) (.one 5) (sIf (gT (gOp (wu LZ) (gX (aa 3) (aa 5)) (gC (.v .non)))) (ak (bo 6 (gTup (gaV (gOp b9 (gOp b9 (gSl (aa 3) goN (goS (aa 5))) (gTup (gA1 (gC (.v .non))))) (gSl (aa 3) (goS (gOp b9 (aa 5) (gI 1))) goN)) (gA1 (aa 4))))) (sIf (gn (av 2 mq (gaV (gOp b9 (gOp b9 (gSl (aa 0) goN (goS (aa 2))) (gLst (gA1 (aa 6)))) (gSl (aa 0) (goS (gOp b9 (aa 2) (gI 1))) goN)) (gA1 (aa 1))))) (ax (gC (.v (.bl MA)))) cu)) cu))))) (ax (gC (.v (.bl LZ)))))
def vx:GP:=λds R=>∃T ws s,ds=[gg T,ib (LL ws) (aj ws s)]/\SpOk ws/\TabOk ws.length T/\(T=[]\/iz (dt ws s) ws.length T=T)/\R (.val (.v (.bl LZ)))
def Np:Pm (Nn) 7 1 2 (vx):=by
 intro ds R Y h;obtain⟨T,ws,s,rfl,ok,b,y,q⟩:=h;have A:=ok.hi;have few:=b.few;obtain⟨C,D⟩:(∀k,k < T.length->fg (T.eraseIdx k) (dt ws s)=MA)/\∀p i r v,T[p]?=KE r->i < ws.length->r.m[i]?=KE (KE v)->fg (T.set p (wid r i)) (dt ws s)=MA:=by
  rcases y with rfl | e
  ·show{λk hk=>by simp at hk,λp i r v e=>by simp at e}
  ·show ace e
 have E:(T.map cp).length=T.length:=aC ..;show{by change(-1000000:Int)<=((T.map cp).length:Int);lia,by change((T.map cp).length:Int)<=1000000;lia,?_};change gy _ _ _ _ (jg 0 (((T.map cp).length:Int)).toNat) _;rw[E,rk];show d7 (I:=λ_ m=>m={[KE (.v (gg T)),KE (.v (ib (LL ws) (aj ws s))),LY,LY,LY,LY,LY],[LY]}) rfl ?_ (λm o=>q);intro k x m N a g G;subst g;have hk:=cb a;rw[cA]at hk;rw[cG hk]at a;cases a;obtain⟨r,l⟩:∃r,T[k]?=KE r:={_,aB hk};have d:=b.rows r (aR l);have cl:=ue (T.map cp) k ();have H:Tr.lst (au (T.map cp) LY (KE (k:Int))++au (T.map cp) (KE ((k:Int)+1)) LY)=gg (T.eraseIdx k):=by
  rw[Ik _ _ (),sy]
 show{by change(au (T.map cp) LY (KE (k:Int))).length+(au (T.map cp) (KE ((k:Int)+1)) LY).length<=1000000;lia,?_};show{rfl,T.eraseIdx k,ws,s,ML (λz=>[z,ib (LL ws) (aj ws s)]) H,ok,(b.erase k).rows,?_};show ifN (C k hk) ?_;show i6 ?_;show aw (x:=cp r) (bh (by rw[aK,l];rfl)) ?_;have ml:(r.m.map dw).length=ws.length:=(by rw[aC,d.ml]);show{by change(-1000000:Int)<=((r.m.map dw).length:Int);lia,by change((r.m.map dw).length:Int)<=1000000;lia,?_};change gy _ _ _ _ (jg 0 (((r.m.map dw).length:Int)).toNat) _;rw[ml,rk];show d7 (I:=λ_ m=>m={[KE (.v (gg T)),KE (.v (ib (LL ws) (aj ws s))),KE (.v (iT (k:Int))),KE (.v (d9 r.m)),KE (.v (.tup (r.ds.map d9))),LY,LY],[LY]}) rfl ?_ (λm o=>by cases o;show G _ rfl);intro j x m N' a g u;subst g;have f:=cb a;rw[cA]at f;rw[cG f]at a;cases a;have n:j < r.m.length:=(by rw[d.ml];show f);obtain⟨c,w⟩:∃c,r.m[j]?=KE c:={_,aB n};show aw (x:=dw c) (bh (by rw[aK,w];rfl)) ?_;cases c with
 |none=>show u _ rfl
 |some v=>
  have J:r.m.length<=3:=(by rw[d.ml];show A);have L:(r.m.map dw).length<=3:=(by rw[aC];show J);have O:=ue (r.m.map dw) j (by rw[aC];show n);have Q:Tr.tup [Tr.tup ((au (r.m.map dw) LY (KE (j:Int))++[.v .non])++au (r.m.map dw) (KE ((j:Int)+1)) LY),.tup (r.ds.map d9)]=cp (wid r j):=(by rw[R5 n];rfl);have U:Tr.lst ((au (T.map cp) LY (KE (k:Int))++[Tr.tup [Tr.tup ((au (r.m.map dw) LY (KE (j:Int))++[.v .non])++au (r.m.map dw) (KE ((j:Int)+1)) LY),.tup (r.ds.map d9)]])++au (T.map cp) (KE ((k:Int)+1)) LY)=gg (T.set k (wid r j)):=by
   rw[Q,R6 _ _ _ (),<-List.map_set]
  show{bg rfl,?_};show{by change(au (r.m.map dw) LY (KE (j:Int))).length+1<=1000000;lia,?_};show{by change(au (r.m.map dw) LY (KE (j:Int))++[Tr.v .non]).length+(au (r.m.map dw) (KE ((j:Int)+1)) LY).length<=1000000;rw[aI];change _+1+_<=_;lia,?_};show{bg rfl,bg rfl,?_};show{by change(au (T.map cp) LY (KE (k:Int))).length+1<=1000000;lia,?_};show{by change(au (T.map cp) LY (KE (k:Int))++[_]).length+(au (T.map cp) (KE ((k:Int)+1)) LY).length<=1000000;rw[aI];change _+1+_<=_;lia,?_};show{rfl,T.set k (wid r j),ws,s,ML (λz=>[z,ib (LL ws) (aj ws s)]) U,ok,(b.set (d.wid j)).rows,?_};show ifN (D k j r v l f w) ?_;show i6 ?_;show u _ rfl
end PB
namespace VL
open PySem L2 PySem.Deep PySem.SeqAt
def Yt (ok:Wok b W cel)(keep:∀c o,W.H c=KE o->a.H c=KE o)(dm:∀c,a.H c=LY->W.H c=LY)(h:Wok b a []) :
  Lx W {gp W a,a.H,W.C}/\Wok b {gp W a,a.H,W.C} cel/\Same (gj a.F) (gp W a):=by
 have i:∀{c o},W.F c=KE o->gp W a c=KE o:=λ{c o} e=>(by unfold gp;rw[e]);have l:∀{c},W.F c=LY->gp W a c=gj a.F c:=λ{c} e=>(by unfold gp;rw[e]);have s:Same (gj a.F) (gp W a):=λc o e=>by
  cases q:W.F c with
  |none=>rw[l q];show e
  |some u=>
   rw[i q];have g:=keep c u (ok.sub c u q);have f:=h.sub c o (j5 _ c o e);rw[g]at f;show f
 have w:Same (gp W a) a.H:=λc o e=>by
  cases q:W.F c with
  |some u=>rw[i q]at e;cases e;show keep c _ (ok.sub c _ q)
  |none=>rw[l q]at e;show h.sub c o (j5 _ c o e)
 show{{{λc o e=>i e,λc o e _=>keep c o e,λc e n=>?_,λj c e=>.inl e,λc z=>dm c z},λj c e=>e},{w,λj d x=>?_,ok.live,ok.dist},s}
 ·have p:gp W a c≠LY:=n;rw[l e]at p;cases q:gj a.F c with
  |none=>show MJ q p
  |some o=>
   cases y:W.H c with
   |none=>show .inl rfl
   |some u=>
    have g:=keep c u y;have f:=h.sub c o (j5 _ c o q);rw[g]at f;cases f;show .inr (.inr {_,rfl,vw q})
 ·obtain⟨c,A,D,m⟩:=ok.cell j d x;show{c,A,?_,m.mono (λc o e=>i e) λo e=>keep c o e};change gp W a c=LY;rw[l D];cases q:gj a.F c with
  |none=>rfl
  |some u=>
   obtain⟨o,r⟩:=m.has;have g:=keep c o r;have f:=h.sub c u (j5 _ c u q);rw[g]at f;cases f;show MJ (vw q) (m.nimm _ r)
theorem Rps.ins {b:B}{F:Hp}{x:V}{d:Tr}(h:Rp b F x d):∀{p xs l},Rps b F xs l->Rps b F (VL.ins p x xs) (VL.ins p d l)
 |0,_,_,r=>.cons h r
 |p+1,_,_,.nil=>.cons h .nil
 |p+1,_,_,.cons h' r=>.cons h' (Rps.ins h r)
def adn (Q:Ev->Prop):Ev->Prop
 | .val d=>fm d=LZ/\Q (.val d)
 | .new (.lst l)=>immL l=LZ/\Q (.new (.lst l))
 |_=>False
def A9 (n p:Nat)(g:GP)(ga:GA):GE:=λm Q=>ga m λb a=>T7 p b λds j=>ds.length+1=n/\lk a (.cel j) λd=>g (ins p d ds) (adn λc=>Q c a)
section
variable {X:Cx}
def vcl (F:Fo X.prog X.w X.K X.mg X.base kc x ps (spP X.B n g))(hr:Room k X.A)(ha:VA X (e::D) ga)(hk:kc<=k:=by decide)(hg:Gl X x:=by rfl)
  (xW:(x == ("__debug__":Str))=MA:=by decide) (E:aN (e::D) X.env=(MA,eval e X.env)::aN D X.env:=by rfl) (wM:(dP G (aN D X.env)).any (·.1)=MA:=by rfl) :
  VE X (.Call (.Name x p) (e::D) [] G) (A9 n pp g ga):=by
 show#v[?_];obtain⟨f,fd,F,a,b,c⟩:=F;show PE.sub (Bj F (hr.mono hk) hg a b c .nil yc ha.out xW E wM) λσ H Q ⟨W,m,R,hW,uS,h,q⟩=>⟨W,m,_,hW,uS,h,λvM N l xs h1 l1 s r1=>by
   obtain⟨ys,ds,j,a,rfl,O,ca,hl,I⟩:=Gg r1 h1;obtain⟨d,hd,I⟩:=rf I;obtain⟨a',q1,T,q3⟩:=s.ok.cell j d hd;cases ca a' q1;have s1:Same l.F (dz l.F l.H a):=q5 T;have EW:Wok X.B ⟨dz l.F l.H a,l.H,λ_=>LY⟩ []:={v8 s.ok.sub,(λj d z=>by simp at z),(λj a z=>by cases z),(λj k a z=>by cases z)};have rp:Rps X.B (dz l.F l.H a) (VL.ins pp (.ref a) ys) (VL.ins pp d ds):=Rps.ins (q3.keep T) (O.mono s1);show{by rw[bX,ud,O.length];show hl,{dz l.F l.H a,l.H,λ_=>LY},VL.ins pp d ds,_,rfl,EW,by rw[bX];show rp,I,λev u y r l3 c3 yK U=>?_};obtain⟨l4,Y,s4⟩:=Yt s.ok (λc o e=>l3.fr c o e λj z=>by cases z) l3.dm yK;unfold adn at r
   split at r
   · obtain⟨J,r⟩:=r;show q _ N {gp l u,u.H,l.C} _ r (l1.trans l4) (s.lift l4 (λ_=>rfl) Y) ((Rp.imm U J).mono s4)
   · obtain⟨J,r⟩:=r;obtain⟨y,rfl,L,k1,k2,zs,k3,k4⟩:=U;show q _ N {gp l u,u.H,l.C} _ r (l1.trans l4) (s.lift l4 (λ_=>rfl) Y) {y,rfl,l1.dm y L,?_,λi z=>?_,zs,k3,(Rps.imm k4 J).mono s4}
     · change gp l u y=LY;unfold gp;rw[s.ok.Fn L];change gj u.F y=LY;cases qq:gj u.F y with
       |none=>rfl
       |some o=>have:=j5 _ y o qq;rw[k1]at this;cases this
     · obtain⟨e',E⟩:=s.ok.live i y z;obtain⟨x',p1,_,p3⟩:=s.ok.cell i e' E;rw[show l.C i=KE y from z]at p1;cases p1;obtain⟨o,ho⟩:=p3.has;rw[show l.H y=LY from L]at ho;cases ho
   · show r.elim⟩
end
end VL
namespace PB
open PySem L2 VL Bits S1 PySem.Deep
abbrev g__law_step:GP:=zc 100
theorem n8 {b:Type}{f:b->Tr}(h:∀a,fm (f a)=LZ):∀l:List b,immL (l.map f)=LZ
 | []=>by rw[iH,immL]
 |a::l=>by rw[bB,immL,h,n8 h l];rfl
def ahh (c:Option Int):fm (dw c)=LZ:=by cases c<;>simp[dw,fm]
def Sg (p:List (Option Int)):fm (d9 p)=LZ:=by rw[fm];show n8 ahh p
def Sh (r:Row):fm (cp r)=LZ:=by
 rw[fm,immL,immL,immL,Sg,fm,n8 Sg];rfl
def aks (l:List Int):fm (tI l)=LZ:=by
 change fm (.tup _)=LZ;rw[fm];show n8 (λn=>by simp[fm]) l
def akt (ws:List (Str×Nat)):fm (spT ws)=LZ:=by
 change fm (.tup _)=LZ;rw[fm];show n8 (λw=>by change fm (.tup _)=LZ;simp[fm,immL]) ws
theorem B5:∀s:Say,fm s.t=LZ
 | .nought | .every | .note=>by simp[Say.t,fm,immL]
 | .is _ _ | .put _ _=>by simp[Say.t,fm,immL]
 | .no a | .again a=>by simp[Say.t,fm,immL,B5 a]
 | .either a b | .both a b=>by simp[Say.t,fm,immL,B5 a,B5 b]
def Nq:GS:=(ax (gOp (eqG MA) (Nl 2 t8 (gaV (aa 0) (gA1 (aa 1)))) (aa 7)))
def Nr:GS:=ak (ig (gMc "list" 4 Lg gaN)) (Nq)
def Nt:GS:=ak (bo 7 (gCB Tx (gaE (aa 4) gaN))) (Nr)
def Nu:GS:=ak (fk [5,6] (giL (aa 2)) (.one 5) (ak (kf 6 1 (A9 2 0 pj (gaE (aa 4) (gA1 (aa 5))))) (ak (sIf (gOr (oo (gn (Al "list" (aa 6)))) (gT (gOp (eqG LZ) (aa 6) (gOp ixD (aa 3) (aa 5))))) (ax (gC (.v (.bl MA)))) cu) (ig (Ao 6 (aa 5)))))) (Nt)
def Nv:GS:=ak (sIf (oo (gn (A9 2 0 vx (gaE (aa 4) (gA1 (aa 3)))))) (ax (gC (.v (.bl MA)))) cu) (Nu)
def Nw:GS:=ak (sIf (gOr (oo (gn (A9 3 0 p7 (gaE (aa 4) (gaV (aa 0) (gA1 (gCB ff (gaE (aa 2) gaN)))))))) (oo (gn (A9 2 0 mq (gaE (aa 4) (gA1 (aa 3))))))) (ax (gC (.v (.bl MA)))) cu) (Nv)
def Nx:GS:=ak (kf 4 0 (Nl 2 t8 (gaV (aa 0) (gA1 (aa 1))))) (Nw)
def Ny:GS:=ak (bo 3 (av 3 g__law_step (gaV (aa 0) (gaV (aa 2) (gA1 (aa 1)))))) (Nx)
def Pu:GS:=ak (bo 2 (av 1 qt (gA1 (aa 0)))) (Ny)
def xl:GP:=λds R=>∃(ws:List (Str×Nat))(s:Say),ds=[spT ws,s.t]/\SpOk ws/\(LL ws).length<=24/\s.good ws/\s.nts=0/\s.size<=100/\R (.val (.v (.bl LZ)))
def Pv:Pm (Pu) 8 3 2 (xl):=by
 intro ds R d h;obtain⟨ws,s,rfl,ok,y,f,g,hs,q⟩:=h;have A:immL [spT ws,s.t]=LZ:=(by rw[immL,immL,immL,akt,B5];rfl);have a:((LL ws).map tI).length=(LL ws).length:=aC ..;have G:=ok.hi;have L:=ok.lo;show{rfl,ws,rfl,ok,?_};show{rfl,ws,s,rfl,ok,y,f,g,hs,?_};show{rfl,A,ws,s,rfl,ok,(),f,g,(),λT b gT C=>{n8 Sh T,?_}};have j:=ahb gT (ahc ws s);have n:=aca gT (aby ws s);have D:=acb gT;have O:(tf (dt ws s)).length=(LL ws).length:=(by unfold tf dt;rw[aC,aC]);show{rfl,T,ws,(LL ws).length,by change _=[_,_,iT (LL ws).length];rw[<-a];rfl,(),b.few,G,λr E=>{j r E,(b.rows r E).dl},rfl,?_};show{rfl,T,ws,s,rfl,ok,b.rows,rfl,?_};show ifN (show(!fg T (dt ws s))=MA by rw[n];rfl) ?_;show i6 ?_;show{rfl,T,ws,s,rfl,ok,b,C,rfl,?_};show i6 ?_;show d7 (I:=λ_ m=>∃fc,m={[KE (.v (spT ws)),KE (.v s.t),KE (.v (ltT (LL ws))),KE (.v (ib (LL ws) (aj ws s))),KE (.c 1),LY,LY,LY],[LY,KE (gg T),fc]}) {_,rfl} ?_ ?_
 ·intro i l m N hi o H;obtain⟨fc,rfl⟩:=o;have d:=aR hi;have w:=eh d;have dl:due l T=aj ws s l:=by
   rw[Nm]at n;show of_decide_eq_true (jS.mp n l d)
  have Q:(aj ws s l).length<=24:=bK (B2 ws s l) y;show{rfl,l,T,rfl,by rw[w];show b.rows,(),(),n8 aks _,?_};rw[dl];show{kL l,i3 l,aw (fnd d) ?_};show{yz _ _ _,λc p=>?_};cases vk p Dx;show ifN (show(!decide (aj ws s l=aj ws s l))=MA by simp) ?_;show i6 ?_;show{rfl,by change((aj ws s l).map tI).length < 1000000;rw[aC];lia,H _ {_,rfl}}
 ·intro m o;obtain⟨fc,rfl⟩:=o;show{rfl,rfl,A,ws,s,rfl,ok,(),f,g,(),λe Y u x=>{n8 Sh e,?_}};have z:∀U:List Row,(U=[]\/iz (dt ws s) ws.length U=U)->iz (dt ws s) ws.length U=U:=λU h=>by
   rcases h with rfl | h
   ·rfl
   ·show h
  have J:e=T:=u.one (z _ x) gT (z _ C);subst J;show{x4 (R8 36) e e,λc p=>?_};cases p.mpr rfl;show q
def Turned.sp {ws a:List (Str×Nat)}(t:Turned ws a)(h:SpOk ws):SpOk a:=by
 rcases t with rfl | ⟨x,c,rfl,rfl⟩
 ·show{by rw[fJ];show h.lo,by rw[fJ];show h.hi,λw hw=>h.cnt w (List.mem_reverse.mp hw)}
 ·show{aJ _,by simp,λw hw=>?_};cases bC.mp hw;have:=h.cnt (x,c) (mO _);dsimp only at this ⊢;omega
theorem Si:∀a b,prd (a++b)=prd a * prd b
 | [],b=>by change prd b=1 * prd b;omega
 |c::a,b=>by change c * prd (a++b)=c * prd a * prd b;rw[Si a b,pU]
theorem Sj:∀a,prd a.reverse=prd a
 | []=>rfl
 |c::a=>by rw[iK,Si,Sj a];change prd a * (c * 1)=c * prd a;rw[Nat.mul_one,lX]
def Turned.le {ws a:List (Str×Nat)}(t:Turned ws a)(h:prd (ws.map (·.2))<=24):(LL a).length<=24:=by
 rw[Yk];rcases t with rfl | ⟨x,c,rfl,rfl⟩
 ·rw[nM,Sj];show h
 ·change min (c+1) 6 * 1<=24;omega
def Nz {ws a:List (Str×Nat)}(t:Turned ws a)(h:SpOk ws)(hw:Wds ws){f:Str}{v:Int}(e:∃p c,look ws f=KE (p,c)/\0<=v/\v < (c:Int)):∃p c,look a f=KE (p,c)/\0<=v/\v < (c:Int):=by
 obtain⟨p,c,lk,b,i⟩:_:=e;obtain⟨k,_,j,_⟩:_:=By lk;have g:(f,c)∈ws:=aR j;rcases t with rfl | ⟨x,d,rfl,rfl⟩
 ·obtain⟨l,m⟩:_:=fu (w:=(f,c)) (ws:=ws.reverse) 0 (by rw[nM];show(List.reverse_perm _).nodup_iff.mpr hw.nd) (List.mem_reverse.mpr g);show#v[l,c,m,b,i]
 ·cases bC.mp g;have n:=h.cnt (f,c) (mO _);dsimp only at n;show{0,min (c+1) 6,MF rfl,b,()}
def Yu {ws a:List (Str×Nat)}(t:Turned ws a)(h:SpOk ws)(hw:Wds ws){s:Say}(g:s.good ws):s.good a:=λx b=>by
 have:=g x b;cases x with
 |is f v=>show Nz t h hw this
 |put f v=>show Nz t h hw this
 |_=>show this
def ahi {c d:Type}(f:c->d)(l:List c)(a b:Option Int):au (l.map f) a b=(au l a b).map f:=by
 unfold au;rw[nE,nG,aC]
def aku {a:Type}(l:List a):(au l (KE 1) (KE 29)).length<=28:=by
 unfold au;rw[bN,dF,show(1:Int)=((1:Nat):Int)from rfl,show(29:Int)=((29:Nat):Int)from rfl,HT.sIx_nat,HT.sIx_nat];omega
def b_law:GS:=(ak (bo 1 (av 2 tj (gaV (av 2 xh (gaV (aa 0) (gA1 (gI 0)))) (gA1 (gI 1))))) (ak (bo 2 (av 3 tm (gaV (gSl (aa 0) (goS (gI 1)) (goS (gI 29))) (gaV (aa 1) (gA1 (gI 0)))))) (ak (fk [3] (giL (gLst (gaV (aa 1) (gaV (av 1 tp (gA1 (aa 1))) (gA1 (aa 1)))))) (.one 3) (sIf (oo (gn (av 2 xl (gaV (aa 3) (gA1 (aa 2)))))) (ax (gC (.v (.bl MA)))) cu)) (ax (gC (.v (.bl LZ)))))))
def g_law:GP:=λds R=>∃ns:List Int,ds=[.scr (ns.map iT)]/\R (.val (.v (.bl LZ)))
def f_law:Pm (b_law) 4 1 1 (g_law):=by
 intro ds R f h;obtain⟨ns,rfl,q⟩:_:=h;show{rfl,ns,0,rfl,λx=>?_};show{rfl,x,1,rfl,by decide,by decide,λws ok d e _=>?_};have le:(LL ws).length<=24:=(by rw[Yk];show e);show{rfl,au ns (KE 1) (KE 29),ws,0,ML (λz=>[Tr.lst z,spT ws,iT 0]) (ahi iT ns _ _),aku ns,ok,d,λs a g hz=>?_};have b:s.nts=0:=();show{rfl,ws,rfl,ok,λc t=>{bg rfl,?_}};show{rfl,ws,s,rfl,ok,le,a,b,hz,?_};show{rfl,c,s,rfl,t.sp ok,t.le e,Yu t ok d a,b,hz,?_};show{rfl,ws,s,rfl,ok,le,a,b,hz,?_};show q
end PB
namespace VL
open PySem L2
def Fo.void (F:Fd K mg x st ps f fd)(h:∀ds R,¬g ds R):Fo P w K mg base k x ps (spP #v[P,w,K] n g):=
 ⟨f,fd,⟨λvs H Q E a=>by obtain⟨_,_,_,_,_,_,_,z,_⟩:=a;show(h _ _ z).elim,λA outer s H args us vs Q E c e b r a=>by obtain⟨_,_,_,_,_,_,_,z,_⟩:=a;show(h _ _ z).elim⟩,F.at_,F.fn.kp,F.bd⟩
section
variable {K:aG}{mg:Str->Option aE}{h:MC}
structure At (K:aG)(f:MB)(x q:Str)(st:ME):Prop where
 ex:∃fd,Fun K x q st f fd
def at_mk {f:MB}{x q:Str}{st:ME}{a:aE}{b d:Option MB}{e:Array (Option aE)}{kV g i cd ct:aE}(l:K.lookup f=KE {a,b,.func (fS x q (jj st) (iu st) (b7 st) .none kV g i d cd ct),e})(c:mF K cd q=LZ)(k:fK K (.ref f)=LZ):At K f x q st:={_,aiy l c k}
structure Af (K:aG)(f:MB)(x:Str)(st:ME):Prop where
 ns:cH K bG x=KE (KE (.ref f))
 at_:At K f x x st
def af_mk {f:MB}{x:Str}{st:ME}{b:aE}{d e:Option MB}{g:Array (Option aE)}{kV i j cd ct:aE}(a:cH K bG x=KE (KE (.ref f)))(l:K.lookup f=KE {b,d,.func (fS x x (jj st) (iu st) (b7 st) .none kV i j e cd ct),g})(c:mF K cd x=LZ)(k:fK K (.ref f)=LZ):Af K f x st:={a,at_mk l c k}
def x6 (x q:Str)(st:ME)(ps:List Str):Nat->Prop
 |1=>∀kV f g i j ct a,oX (fS x q (jj st) (iu st) (b7 st) .none kV f g i j ct) {[a],[]}=pure (ps.zip [a])
 |2=>∀kV f g i j ct a b,oX (fS x q (jj st) (iu st) (b7 st) .none kV f g i j ct) {[a,b],[]}=pure (ps.zip [a,b])
 |3=>∀kV f g i j ct a b c,oX (fS x q (jj st) (iu st) (b7 st) .none kV f g i j ct) {[a,b,c],[]}=pure (ps.zip [a,b,c])
 |4=>∀kV f g i j ct a b c d,oX (fS x q (jj st) (iu st) (b7 st) .none kV f g i j ct) {[a,b,c,d],[]}=pure (ps.zip [a,b,c,d])
 |5=>∀kV f g i j ct a b c d e,oX (fS x q (jj st) (iu st) (b7 st) .none kV f g i j ct) {[a,b,c,d,e],[]}=pure (ps.zip [a,b,c,d,e])
 |_=>False
def x8 (F:Fun K x q st f fd)(b:x6 x q st ps ps.length):Binds K fd ps []:=F.binds λkV i j l cd ct us m=>by
 rw[<-m]at b
 match us,b with
 | [a],b=>show b kV i j l cd ct a
 | [a,c],b=>show b kV i j l cd ct a c
 | [a,c,d],b=>show b kV i j l cd ct a c d
 | [a,c,d,e],b=>show b kV i j l cd ct a c d e
 | [a,c,d,e,g],b=>show b kV i j l cd ct a c d e g
theorem Af.fd (F:Af K f x st)(X:K.In h)(G:h.Ns bG mg)(b:x6 x x st ps ps.length:=by intro _;intros;rfl):∃fd,Fd K mg x st ps f fd:=by
 obtain⟨fd,e⟩:=F.at_.ex;show{fd,e,lG X G F.ns,x8 e b}
def At.md (F:At K f x q st)(c:Cls K C)(a:dD K (.ref C) x=KE (KE (.ref f)))(i:iV K (.ref f)=LZ)(b:x6 x q st ps ps.length:=by intro _;intros;rfl):∃fd,Md K C x q st ps f fd:=by
 obtain⟨fd,e⟩:=F.ex;show{fd,e,c,#v[a,i,e.kp],x8 e b}
def At.cd (F:At K f x q st)(X:K.In h)(G:h.Ns bG mg)(n:cH K bG y=KE (KE (.ref C)))(ga:mR K (.ref C) "__getattribute__"=KE (KE (.builtin "type.__getattribute__")))(rd:qX K C (.type "type")=LZ)
  (fc:qY K (.ref C) (.type "type") x=KE (.val (.ref f))) (b:x6 x q st ps ps.length:=by intro _;intros;rfl):∃fd,Cd K mg y x q st ps C f fd:=by
 obtain⟨fd,e⟩:=F.ex;show{fd,e,#v[ga,rd,fc,e.kp],lG X G n,x8 e b}
def At.kd (F:At K f "__init__" q st)(X:K.In h)(G:h.Ns bG mg)(n:cH K bG y=KE (KE (.ref C)))(mk:nX K C=LZ)(a:dD K (.ref C) "__init__"=KE (KE (.ref f)))(i:iV K (.ref f)=LZ)(kp:fK K (.ref C)=LZ)
  (b:x6 "__init__" q st ps ps.length:=by intro _;intros;rfl):∃fd,Kd K mg y q st ps C f fd:=by
 obtain⟨fd,e⟩:=F.ex;show{fd,e,#v[mk,a,i,kp],lG X G n,x8 e b}
def D3 {its:Array aE}{ss:List Str}(X:K.In h)(G:h.Ns bG mg)(e:cH K bG x=KE (KE (.ref a)))(l:K.lookup a=KE {.type "tuple",c,.seq its n,d})(z:its.size<=1000)(r:Vals (ss.map V.str) its.toList) :
  Gc #v[P,w,K] mg x (.tup (ss.map λs=>.v (.str s))):=by
 show{.ref a,.ref a,lG X G e,rfl,λF=>.tup (aev l rfl rfl (bK z (by decide)) r) ?_};clear r
 induction ss with
 |nil=>show .nil
 |cons s ss b=>show .cons (.v rfl) b
def bl_mk (X:K.In h)(G:h.Ns bG mg)(b:∀x∈(ZZ:List Str),cH K bG x=KE LY):Bl mg:=by
 have n:∀x∈(ZZ:List Str),mg x=LY:=λx o=>PySem.W.mg_none_of X G (b x o);simp only[List.forall_mem_cons,dG,false_implies,implies_true,and_true]at n;obtain⟨p,q,r,s,u,w,y,z,A,a,c,d,e,f,g,i,j,l,m⟩:=n;show#v[p,q,r,s,u,w,y,z,A,a,c,d,e,f,g,i,j,l,m]
end
section
variable {P:aV}{w:bA}{K:aG}{mg:Str->Option aE}{base:MC}
def Fd.go (F:Fd K mg x st ps f fd)(k a:Nat)(N:List Str)(g:GS)(b:Pm g N.length a ps.length c)(d:N.Nodup->Rdx P w K mg base N x st f k g)(S:fq N ps (b7 st):=by show fsN):Fo P w K mg base (k+1) x ps (spP #v[P,w,K] ps.length c):=vf F S (d S.nd) b
def Fd.goL (F:Fd K mg x st ps f fd)(k a:Nat)(N:List Str)(g:GS)(b:Pm g N.length a ps.length c)(d:N.Nodup->Rdx P w K mg base N x st f k g)(S:fq N ps (b7 st):=by show fsN):i5 P w K mg base CX0 (k+1) f fd ps (spP #v[P,w,K] ps.length c):=fn_g F.fn S (d S.nd) b
def Fd.goR (F:Fd K mg x st ps f fd)(p k a:Nat)(N:List Str)(g:GS)(b:Pr p g N.length a ps.length c)(d:N.Nodup->Rdx P w K mg base N x st f k g)(S:fq N ps (b7 st):=by show fsN):Fo P w K mg base (k+1) x ps (spR #v[P,w,K] ps.length p c):=vfr F S (d S.nd) b
def Md.go (F:Md K C x q st ps f fd)(k a:Nat)(N:List Str)(g:GS)(b:Pm g N.length a ps.length c)(d:N.Nodup->Rdx P w K mg base N q st f k g)(S:fq N ps (b7 st):=by show fsN):Mo P w K mg base (k+1) C x ps (spP #v[P,w,K] ps.length c):=vfm F S (d S.nd) b
def Cd.go (F:Cd K mg y x q st ps C f fd)(p k a:Nat)(N:List Str)(g:GS)(b:Pr p g N.length a ps.length c)(d:N.Nodup->Rdx P w K mg base N q st f k g)(S:fq N ps (b7 st):=by show fsN):Co P w K mg base (k+1) y x ps (spR #v[P,w,K] ps.length p c):=vfc F S (d S.nd) b
def Kd.go (F:Kd K mg x q st ps C f fd)(p k a:Nat)(N:List Str)(g:GS)(b:Pr p g N.length a ps.length c)(d:N.Nodup->Rdx P w K mg base N q st f k g)(S:fq N ps (b7 st):=by show fsN):Ko P w K mg base (k+1) x C ps (spR #v[P,w,K] ps.length p c):=vfk F S (d S.nd) b
end
theorem Sk:∀ns:List Int,Rps b F (ns.map V.int) (ns.map λi=>Tr.v (.int i))
 | []=>.nil
 |_::ns=>.cons (.v rfl) (Sk ns)
def Yv {ns:List Int}(f:∀R:Ev->Prop,R (.val (.v (.bl LZ)))->g [.scr (ns.map λi=>Tr.v (.int i))] R)(h:SqL b.K H a (ns.map V.int)):spP b 1 g [.ref a] H (λv _=>v=.bl LZ) λ_ _ _=>False:=
 {rfl,{H,H,λ_=>LY},[.scr (ns.map λi=>Tr.v (.int i))],λc=>c=.val (.v (.bl LZ)),rfl,{λ_ _ e=>e,λj d e=>by simp at e,λ_ _ e=>(nomatch e),λ_ _ _ e=>(nomatch e)},.cons (.scr h (Sk ns)) .nil,f _ rfl,λc l x e _ _ _ r=>by subst e;show(Rp.vI r).1}
def law_walk {l:mY}{n k:Nat}{e:List Str}{j:(Str->Option aE)->MC->Prop}{c:bA->MC->Prop}{d:DefRec}{K:Params->aG}(m:l.most=KE n)(o:d.params.defaults=[])(p:∀(w:bA)(h:MC),c w h->(K w.params).In h)(hz:n<=1000)(r:Room k oZ)
  (y:∀ns:List Int,ns.length<=n->∀R:Ev->Prop,R (.val (.v (.bl LZ)))->g [.scr (ns.map λi=>Tr.v (.int i))] R)
  (F:∀(w:bA)(mg:Str->Option aE) (fa:MB) (h:MC),(K w.params).In h->h.Ns bG mg->mg d.name=KE (.ref fa)->∃fd:gO,(∀(s:aH)(u:aE),qJ s fd {[u],[]} [(x,u)])/\∀base:MC,(K w.params).In base->base.Ns bG mg->i5 l.prog w (K w.params) mg base CX0 k fa fd [x] (spP {l.prog,w,K w.params} 1 g)) :
  PySem.W.WalkO q e j c l.row.toRowW d [] (λf vs=>uH f vs):=
 L2.walk_of (n:=n) (k:=k) (x:=x) (CX:=λ_=>CX0) (sp:=λw=>spP {l.prog,w,K w.params} 1 g) m (bK hz (by decide)) o r p F (λw _ a ns A _ C=>Yv (b:={l.prog,w,K w.params}) (y ns A) C) λ_ _ _ _ _ z=>z
def Af.law (F:Af K f x st)(X:K.In h)(G:h.Ns bG mg)(a:mg x=KE (.ref fa))(b:x6 x x st [p] 1:=by intro _;intros;rfl):∃fd,Fd K mg x st [p] fa fd/\∀s v,qJ s fd {[v],[]} [(p,v)]:=by
 have e:=a.symm.trans (lG X G F.ns);cases e;obtain⟨fd,e⟩:=F.at_.ex;show{fd,{e,lG X G F.ns,x8 e b},λs v=>?_};obtain⟨j,l,kV,c,d,g,i,ct,m,rfl,lk,n⟩:=e.ex;show .of_eq (b kV c d g i ct v)
end VL
namespace O61
open PySem L2 VL Bits PB PySem.Deep
def top (i:Nat):ME:=PySem.Challenge.pw_switchsay_k61_tables.main.body.getD i (.Pass {0,0,0,0})
def G8 (ds:List Tr)(R:Ev->Prop):¬zc 0 ds R:=λ⟨ws,s,_,_,_,_,_,h,_⟩=>by have:=s.size_pos;lia
section
variable {P:aV}{w:bA}{K:aG}{mg:Str->Option aE}{base:MC}
section
variable (P:aV)(w:bA)(K:aG)(mg:Str->Option aE)(base:MC)(C:MB)
abbrev Qa:Prop:=Fo P w K mg base 1 "nothing" ZE (spP #v[P,w,K] 1 ny)
abbrev Qb:Prop:=Fo P w K mg base 1 "the_same" ZE (spP #v[P,w,K] 1 k9)
abbrev Qc:Prop:=Fo P w K mg base 1 "either_of" ZG (spP #v[P,w,K] 2 mj)
abbrev Qd:Prop:=Fo P w K mg base 1 "where_nothing" ZD (spP #v[P,w,K] 1 o7)
abbrev Qe:Prop:=Fo P w K mg base 1 "letters_in" YL (spP #v[P,w,K] 2 vd)
abbrev Qf:Prop:=Fo P w K mg base 1 "reached_from" YO (spP #v[P,w,K] 2 qi)
abbrev Qg:Prop:=Fo P w K mg base 2 "one_then_other" ZS (spP #v[P,w,K] 2 ix)
abbrev Qh:Prop:=Fo P w K mg base 2 "again_and_again" ZD (spP #v[P,w,K] 1 lr)
abbrev Qi:Prop:=Fo P w K mg base 2 "filling" YC (spP #v[P,w,K] 1 we)
abbrev Qj:Prop:=Fo P w K mg base 2 "note_ways" ZE (spP #v[P,w,K] 1 wz)
abbrev Qk:Prop:=Fo P w K mg base 3 "behind" ZS (spP #v[P,w,K] 2 yr)
abbrev Ql:Prop:=Fo P w K mg base 4 "either_ways" ZG (spP #v[P,w,K] 2 sr)
abbrev Qm:Prop:=Fo P w K mg base 4 "then_ways" ZS (spP #v[P,w,K] 2 w6)
abbrev Qn:Prop:=Fo P w K mg base 1 "must_value" YJ (spP #v[P,w,K] 2 ve)
abbrev Qo:Prop:=Fo P w K mg base 2 "place_of" YR (spP #v[P,w,K] 3 t5)
abbrev Qp:Prop:=Fo P w K mg base 1 "is_relation" ZV (spP #v[P,w,K] 3 su)
abbrev Qq:Prop:=Fo P w K mg base 1 "put_relation" ZV (spP #v[P,w,K] 3 ql)
abbrev Qr:Prop:=Fo P w K mg base 1 "held_in" ZX (spP #v[P,w,K] 1 rn)
abbrev Qs:Prop:=Fo P w K mg base 2 "parts_of" ZX (spP #v[P,w,K] 1 lg)
abbrev Qt:Prop:=Fo P w K mg base 3 "is_test" ZX (spP #v[P,w,K] 1 Az)
abbrev Qu:Prop:=Fo P w K mg base 3 "notes_in" ZX (spP #v[P,w,K] 1 yt)
abbrev Qv:Prop:=Fo P w K mg base 4 "must_test" ZX (spP #v[P,w,K] 1 qv)
abbrev Qw:Prop:=Fo P w K mg base 4 "must_plain" ZX (spP #v[P,w,K] 1 vh)
abbrev Qx:Prop:=Fo P w K mg base 5 "must_part" YI (spP #v[P,w,K] 2 w8)
abbrev Qy:Prop:=Fo P w K mg base 6 "must_saying" ZJ (spP #v[P,w,K] 2 my)
abbrev Qz:Prop:=Fo P w K mg base 3 "plain_relation" YS (spP #v[P,w,K] 3 nh)
abbrev QA:Prop:=Fo P w K mg base 3 "again_row" YH (spP #v[P,w,K] 3 xb)
abbrev QB:Prop:=Fo P w K mg base 4 "again_ways" YC (spP #v[P,w,K] 1 vi)
abbrev QC:Prop:=Fo P w K mg base 5 "ways_of_part" ZP (spP #v[P,w,K] 4 lh)
abbrev QD:Prop:=Fo P w K mg base 6 "ways_of" YX (spP #v[P,w,K] 3 A0)
abbrev QE:Prop:=Fo P w K mg base 1 "each_longer" YD (spP #v[P,w,K] 2 sx)
abbrev QF:Prop:=Fo P w K mg base 2 "letters_of" ["speech"] (spP #v[P,w,K] 1 pf)
abbrev QG:Prop:=Co P w K mg base 1 "Runs" "__init__" ZF (spR #v[P,w,K] 3 0 (xc C))
abbrev QH:Prop:=Mo P w K mg base 1 C "masks_from" ZT (spP #v[P,w,K] 3 (lu C))
abbrev QI:Prop:=Mo P w K mg base 2 C "ends_from" ZT (spP #v[P,w,K] 3 (ni C))
abbrev QJ:Prop:=Mo P w K mg base 3 C "ends" ZC (spP #v[P,w,K] 3 (xf C))
abbrev QK:Prop:=Ko P w K mg base 7 "Machine" C YQ (spR #v[P,w,K] 3 0 (qo C))
abbrev QL:Prop:=Fo P w K mg base 1 "with_put" YN (spP #v[P,w,K] 2 t6)
abbrev QM:Prop:=Fo P w K mg base 2 "matches" YM (spP #v[P,w,K] 2 A1)
abbrev QN:Prop:=Fo P w K mg base 3 "by_table" YA (spP #v[P,w,K] 2 pj)
abbrev QO:Prop:=Fo P w K mg base 1 "deed_for" YG (spP #v[P,w,K] 2 y3)
abbrev QP:Prop:=Fo P w K mg base 2 "row_for" YV (spP #v[P,w,K] 2 A2)
abbrev QQ:Prop:=Fo P w K mg base 1 "wider_row" YF (spP #v[P,w,K] 2 xg)
abbrev QR:Prop:=Fo P w K mg base 4 "does_all" ZW (spP #v[P,w,K] 2 t7)
abbrev QS:Prop:=Fo P w K mg base 5 "with_fewer_rows" ZW (spP #v[P,w,K] 2 me)
abbrev QT:Prop:=Fo P w K mg base 5 "with_wider_matches" ZW (spP #v[P,w,K] 2 j3)
abbrev QU:Prop:=Fo P w K mg base 6 "made_small" ZW (spP #v[P,w,K] 2 vm)
abbrev QV:Prop:=Fo P w K mg base 9 "table_of" ZJ (spP #v[P,w,K] 2 t8)
abbrev QW:Prop:=Fo P w K mg base 1 "_law_cell" ZA (spP #v[P,w,K] 2 xh)
abbrev QX:Prop:=Fo P w K mg base 1 "_law_purse" Y' (spP #v[P,w,K] 1 pq)
abbrev QY:Prop:=Fo P w K mg base 1 "_law_take" YY (spR #v[P,w,K] 2 0 d8)
abbrev QZ:Prop:=Fo P w K mg base 2 "_law_speech" ZH (spP #v[P,w,K] 2 tj)
abbrev Q0:Prop:=Fo P w K mg base 1 "_law_letters" ZO (spP #v[P,w,K] 1 qt)
abbrev Q1:Prop:=Fo P w K mg base 2 "_law_lone" ZR (spR #v[P,w,K] 3 1 xi)
abbrev Q2:Prop:=Fo P w K mg base 1 "_law_joined" YK (spP #v[P,w,K] 2 mz)
abbrev Q3:Prop:=Fo P w K mg base 3 "_law_grown" ZU (spP #v[P,w,K] 4 vq)
abbrev Q4:Prop:=Fo P w K mg base 4 "_law_saying" ZN (spP #v[P,w,K] 3 tm)
abbrev Q5:Prop:=Fo P w K mg base 1 "_law_union" YW (spP #v[P,w,K] 2 vv)
abbrev Q6:Prop:=Fo P w K mg base 1 "_law_led" Z' (spP #v[P,w,K] 2 y9)
abbrev Q7:Prop:=Fo P w K mg base 102 "_law_step" ZY (spP #v[P,w,K] 3 g__law_step)
abbrev Q8:Prop:=Fo P w K mg base 1 "_law_fits" ZI (spP #v[P,w,K] 2 xj)
abbrev Q9:Prop:=Fo P w K mg base 1 "_law_made" ZM (spP #v[P,w,K] 2 xk)
abbrev Ja:Prop:=Fo P w K mg base 2 "_law_by" YU (spP #v[P,w,K] 2 A7)
abbrev Jb:Prop:=Fo P w K mg base 1 "_law_is_part" YZ (spP #v[P,w,K] 2 lp)
abbrev Jc:Prop:=Fo P w K mg base 2 "_law_is_table" ZL (spP #v[P,w,K] 3 p7)
abbrev Jd:Prop:=Fo P w K mg base 1 "_law_turned" ZO (spP #v[P,w,K] 1 tp)
abbrev Je:Prop:=Fo P w K mg base 3 "_law_same" ZQ (spP #v[P,w,K] 2 mq)
abbrev Jf:Prop:=Fo P w K mg base 4 "_law_least" ZQ (spP #v[P,w,K] 2 vx)
abbrev Jg:Prop:=Fo P w K mg base 103 "_law_good" ZK (spP #v[P,w,K] 2 xl)
end
def U4 (z:Bl mg)(F:Fd K mg "nothing" (top 13) ZE f fd):Qa P w K mg base:=F.go 0 1 ZE _ Xv λa b A outer s H E c=>(ai (ao (aq oy (ba (ae ag ab)) (v_ 0))))
def Pw (z:Bl mg)(F:Fd K mg "the_same" (top 14) ZE f fd):Qb P w K mg base:=F.go 0 1 ZE _ Ub λa b A outer s H E c=>(ai (ao (c5 (ns:=["place"]) (ys:=[]) (fr:=[]) (cl:=[]) (csN [(".0",.local),("place",.local)]) rfl (g9 rfl z.range (ae (v_ 0) ab)) (λ_ _ _ _=>h8) (λ_ _ _ _=>cg) (λ_ _ _ _=>(aq Em ag (v_ 0))) (by show cE))))
def N0 (z:Bl mg)(F:Fd K mg "either_of" (top 15) ZG f fd):Qc P w K mg base:=F.go 0 1 ZG _ Ot λa b A outer s H E c=>(ai (ao (c5 (ns:=["mask","another"]) (ys:=[]) (fr:=[]) (cl:=[]) (csN [(".0",.local),("mask",.local),("another",.local)]) rfl (Ge rfl z.zip (ae (v_ 0) (ae (v_ 1) ab))) (λ_ _ _ _=>(wx rfl)) (λ_ _ _ _=>cg) (λ_ _ _ _=>(aq Tu (v_ 0) (v_ 1))) wy)))
def D4 (z:Bl mg)(F:Fd K mg "where_nothing" (top 19) ZD f fd):Qd P w K mg base:=F.go 0 1 ZD _ Ez λa b A outer s H E c=>(ai (ao (c5 (ns:=["place","mask"]) (ys:=[]) (fr:=[]) (cl:=[]) (csN [(".0",.local),("place",.local),("mask",.local)]) rfl (Dk rfl z.enumerate (ae (v_ 0) ab)) (λ_ _ _ _=>(wx rfl)) (λ_ _ _ _=>cg) (λ_ _ _ _=>(Ek (di (v_ 1)) ag (aq Em ag (v_ 0)))) wy)))
def Ju (z:Bl mg)(F:Fd K mg "letters_in" (top 20) YL f fd):Qe P w K mg base:=F.go 0 1 YL _ L6 λa b A outer s H E c=>(ai (ao (c5 (ns:=["place","letter"]) (ys:=["mask"]) (fr:=[1]) (cl:=[("mask",‹s›+1)]) (csN [(".0",.local),("place",.local),("letter",.local),("mask",.cell)]) rfl (Dk rfl z.enumerate (ae (v_ 0) ab)) (λ_ _ _ _=>(wx rfl)) (λ_ _ _ _=>(uc (di (aq Lc (aq W4 (v_ 2) (v_ 0)) ag)))) (λ_ _ _ _=>(v_ 1)) wy)))
def E8 (z:Bl mg)(F:Fd K mg "reached_from" (top 17) YO f fd):Qf P w K mg base:=F.go 0 1 ["mask","relation","reached","lowest"] _ Gm λa b A outer s H E c=>(ah (ay (i:=2) a rfl (aS rfl) ag) (ah (u9 (L:=[3]) bF (di (v_ 0)) (ah (ay (i:=3) a rfl (aS rfl) (aq Lc (v_ 0) (mi (v_ 0)))) (ah (Oq (i:=2) a rfl (aS rfl) (ar (v_ 1) (aq Lb (ajt PySem.F.plainAttrs_int PySem.F.slot_int_bit_length PySem.F.type_int_bit_length afs (v_ 3)) ag))) (ai (Ls (i:=0) a rfl (aS rfl) (v_ 3)))))) (ai (ao (v_ 2)))))
def Cc (z:Bl mg)(c:Qf P w K mg base)(F:Fd K mg "one_then_other" (top 16) ZS f fd):Qg P w K mg base:=F.go 1 2 ["first","second","known","mask"] _ Dp λb d A outer s H E a=>(ah (i8 (i:=2) (j:=0) b rfl (fQ rfl) agg) (ah (c7 (L:=[3]) bF rfl (cy (v_ 0)) (de (i:=3) b rfl (aS rfl)) (ai (bx (az (Au a.units) (v_ 3) (v_ 2)) (ai (ko (i:=2) rfl (fQ (aS rfl)) a.units (vc c a (ae (v_ 3) (ae (v_ 1) ab))) (v_ 3))) bt))) (ai (ao (c5 (ns:=["mask"]) (ys:=["known"]) (fr:=[2]) (cl:=[("known",‹s›+1)]) (csN [(".0",.local),("mask",.local),("known",.cell)]) rfl (cy (v_ 0)) (λ_ _ _ _=>h8) (λ_ _ _ _=>cg) (λ_ _ _ _=>(fj a.units (v_ 1) (v_ 0))) (by show cE))))))
def Ba (z:Bl mg)(c:Qc P w K mg base)(d:Qb P w K mg base)(F:Fd K mg "again_and_again" (top 18) ZD f fd):Qh P w K mg base:=F.go 1 1 ["relation","rows","middle","through"] _ B7 λa e A outer s H E b=>(ah (ay (i:=1) a rfl (aS rfl) (vc c b (ae (vc d b (ae (bj cw rfl z.len ⋯ (bq (v_ 0) ab)) ab)) (ae (v_ 0) ab)))) (ah (c7 (L:=[2,3]) bF rfl (g9 rfl z.range (ae (bj cw rfl z.len ⋯ (bq (v_ 1) ab)) ab)) (de (i:=2) a rfl (fQ rfl)) (ah (ay (i:=3) a rfl (fQ rfl) (ar (v_ 1) (v_ 2))) (ai (ja (i0:=1) a rfl rfl (ns:=["row"]) (ys:=["middle","through"]) (fr:=[2,3]) (cl:=[("through",‹s›+2),("middle",‹s›+1)]) (csN [(".0",.local),("row",.local),("middle",.cell),("through",.cell)]) rfl (cy (v_ 1)) (λ_ _ _ _=>h8) (λ_ _ _ _=>cg) (λ_ _ _ _=>(Ek (di (aq Lc (aq W4 (v_ 0) (v_ 1)) ag)) (aq Tu (v_ 0) (v_ 2)) (v_ 0))) (by show cE))))) (ai (ao (v_ 1)))))
def U5 (z:Bl mg)(a:Qa P w K mg base)(F:Fd K mg "filling" (top 45) YC f fd):Qi P w K mg base:=F.go 1 1 YC _ Xx λc d A outer s H E b=>(ai (ao (aq oy (ba (ae (vc a b (ae (bj cw rfl z.len ⋯ (bq (ar (ar (v_ 0) ag) ag) ab)) ab)) ab)) (aq Lb (bj cw rfl z.len ⋯ (bq (v_ 0) ab)) ag))))
def N1 (z:Bl mg)(b:Qa P w K mg base)(c:Qb P w K mg base)(F:Fd K mg "note_ways" (top 41) ZE f fd):Qj P w K mg base:=F.go 1 1 ZE _ Ov λd e A outer s H E a=>(ai (ao (ba (ae (ba (ae (vc b a (ae (v_ 0) ab)) (ae (vc c a (ae (v_ 0) ab)) ab))) (ae (ba (ae (vc c a (ae (v_ 0) ab)) (ae (vc b a (ae (v_ 0) ab)) ab))) ab)))))
def Yw (z:Bl mg)(a:Qi P w K mg base)(F:Fd K mg "behind" (top 44) ZS f fd):Qk P w K mg base:=F.go 2 1 ["first","second","fill"] _ abf λb d A outer s H E c=>(ah (ay (i:=2) b rfl (fQ rfl) (vc a c (ae (v_ 0) ab))) (ai (ao (c5 (ns:=["row"]) (ys:=["fill"]) (fr:=[2]) (cl:=[("fill",‹s›+1)]) (csN [(".0",.local),("row",.local),("fill",.cell)]) rfl (cy (cz (v_ 1) (bu ag) bw)) (λ_ _ _ _=>h8) (λ_ _ _ _=>cg) (λ_ _ _ _=>(aq bf (aq bf (cz (v_ 0) bw (bu ag)) (v_ 1)) (cz (v_ 0) (bu ag) bw))) (by show cE)))))
def G9 (z:Bl mg)(c:Qc P w K mg base)(d:Qi P w K mg base)(e:Qk P w K mg base)(F:Fd K mg "either_ways" (top 42) ZG f fd):Ql P w K mg base:=F.go 3 1 ["one","other","start","fill"] _ Ir λb g A outer s H E a=>(ah (ay (i:=2) b rfl (aS rfl) (aq bf (aq bf (ba (ae (vc c a (ae (ar (ar (v_ 0) ag) ag) (ae (ar (ar (v_ 1) ag) ag) ab))) ab)) (cz (ar (v_ 0) ag) (bu ag) bw)) (cz (ar (v_ 1) ag) (bu ag) bw))) (ah (ay (i:=3) b rfl (fQ rfl) (vc d a (ae (v_ 1) ab))) (ai (ao (aq bf (aq bf (ba (ae (v_ 2) ab)) (c5 (ns:=["row"]) (ys:=["fill"]) (fr:=[3]) (cl:=[("fill",‹s›+1)]) (csN [(".0",.local),("row",.local),("fill",.cell)]) rfl (cy (cz (v_ 0) (bu ag) bw)) (λ_ _ _ _=>h8) (λ_ _ _ _=>cg) (λ_ _ _ _=>(aq bf (v_ 0) (v_ 1))) (by show cE))) (vc e a (ae (v_ 0) (ae (v_ 1) ab))))))))
def N2 (z:Bl mg)(c:Qg P w K mg base)(d:Qk P w K mg base)(F:Fd K mg "then_ways" (top 43) ZS f fd):Qm P w K mg base:=F.go 3 2 ["first","second","rows","row","begun"] _ Ox λa e A outer s H E b=>(ah (i8 (i:=2) (j:=0) a rfl (aS rfl) (ba ab)) (ah (c7 (L:=[3,4]) bF rfl (cy (v_ 0)) (de (i:=3) a rfl (fQ rfl)) (ah (ja (i0:=4) a rfl rfl (ns:=ZD) (ys:=["row"]) (fr:=[3]) (cl:=[("row",‹s›+1)]) (csN [(".0",.local),("relation",.local),("one_then_other",.globalImplicit),("row",.cell)]) rfl (cy (ar (v_ 1) ag)) (λ_ _ _ _=>h8) (λ_ _ _ _=>cg) (λ_ _ _ _=>(vc c b (ae (ar (v_ 1) ag) (ae (v_ 0) ab)))) (by show cE)) (ai (gm (Ap (i:=2) rfl (aS rfl) (aq bf (aq bf (cz (v_ 4) bw (bu ag)) (cz (v_ 3) (bu ag) bw)) (cz (v_ 4) (bu ag) bw))))))) (ai (ao (aq bf (v_ 2) (vc d b (ae (v_ 0) (ae (v_ 1) ab))))))))
def Jv (z:Bl mg)(F:Fd K mg "must_value" (top 11) YJ f fd):Qn P w K mg base:=F.go 0 1 YJ _ Ma λa b A outer s H E c=>(ai (bx (j7 (ou (az yh (v_ 1) ag) (gu (az acy (v_ 1) (v_ 0))))) (ai yk) bt))
def Px (z:Bl mg)(b:Qn P w K mg base)(F:Fd K mg "place_of" (top 10) YR f fd):Qo P w K mg base:=F.go 1 1 ["speech","field","value","place","pair"] _ Ue λc d A outer s H E a=>(ah (c7 (L:=[3,4]) bF rfl (agb rfl z.enumerate (ae (v_ 0) ab)) (vg2 (i:=3) (j:=4) rfl c rfl rfl (aS rfl) (aS rfl)) (ai (bx (az (d6 a.units) (ar (v_ 4) ag) (v_ 1)) (ah (gm (vc b a (ae (ar (v_ 4) ag) (ae (v_ 2) ab)))) (ai (ao (v_ 3)))) bt))) (ai yk))
def Ha (z:Bl mg)(F:Fd K mg "is_relation" (top 39) ZV f fd):Qp P w K mg base:=F.go 0 1 ZV _ Iv λb c A outer s H E a=>(ai (ao (c5 (ns:=["at","letter"]) (ys:=["place","value"]) (fr:=[1,2]) (cl:=[("value",‹s›+2),("place",‹s›+1)]) (csN [(".0",.local),("at",.local),("letter",.local),("place",.cell),("value",.cell)]) rfl (Dk rfl z.enumerate (ae (v_ 0) ab)) (λ_ _ _ _=>(wx rfl)) (λ_ _ _ _=>cg) (λ_ _ _ _=>(Ek (az (d6 a.units) (ar (v_ 1) (v_ 2)) (v_ 3)) (aq Em ag (v_ 0)) ag)) wy)))
def E9 (z:Bl mg)(F:Fd K mg "put_relation" (top 40) ZV f fd):Qq P w K mg base:=F.go 0 1 ["letters","place","value","put"] _ Gq λa c A outer s H E b=>(ah (ja (i0:=3) a rfl rfl (ns:=YE) (ys:=["place","value"]) (fr:=[1,2]) (cl:=[("value",‹s›+3),("place",‹s›+2)]) (csN [(".0",.local),("letter",.local),("place",.cell),("value",.cell)]) rfl (cy (v_ 0)) (λ_ _ _ _=>h8) (λ_ _ _ _=>cg) (λ_ _ _ _=>(aq bf (aq bf (cz (v_ 0) bw (bu (v_ 1))) (dj (ae (v_ 2) ab))) (cz (v_ 0) (bu (aq bf (v_ 1) ag)) bw))) (by show cE)) (ai (ao (c5 (ns:=YE) (ys:=["letters"]) (fr:=[0]) (cl:=[("letters",‹s›+1)]) (csN [(".0",.local),("letter",.local),("letters",.cell)]) rfl (cy (v_ 3)) (λ_ _ _ _=>h8) (λ_ _ _ _=>cg) (λ_ _ _ _=>(aq Em ag (Tz dU iN mP (Dh b.units) (v_ 1) (bq (v_ 0) ab)))) (by show cE)))))
def U6 (z:Bl mg)(a:Gc #v[P,w,K] mg "HOLDING_SORTS" pb)(F:Fd K mg "held_in" (top 26) ZX f fd):Qr P w K mg base:=F.go 0 1 ZX _ X0 λc d A outer s H E b=>(ah (bx (az (Tv b.units) (ar (v_ 0) ag) (vgl a)) (ai (ao (cz (v_ 0) (bu ag) bw))) bt) (ai (ao (dj ab))))
def Py (z:Bl mg)(b:Qr P w K mg base)(F:Fd K mg "parts_of" (top 25) ZX f fd):Qs P w K mg base:=F.go 1 3 ["saying","parts","waiting","part"] _ Ui λa d A outer s H E c=>(ah (i8 (i:=1) (j:=1) a rfl (aS rfl) (ba ab)) (ah (i8 (i:=2) (j:=0) a rfl (aS rfl) (ba (ae (v_ 0) ab))) (ah (u9 (L:=[3]) bF (di (v_ 2)) (ah (ay (i:=3) a rfl (aS rfl) (En (i:=2) dU nT nU Lh rfl (aS rfl))) (ah (gm (Ap (i:=1) rfl (aS rfl) (v_ 3))) (ai (gm (ada (i:=2) dU PySem.F.slot_list_extend PySem.F.type_list_extend Ia rfl (aS rfl) (bq (Xm (vc b c (ae (v_ 3) ab)) (mi ag)) ab))))))) (ai (ao (v_ 1))))))
def U7 (z:Bl mg)(b:Gc #v[P,w,K] mg "TEST_SORTS" vg)(c:Qs P w K mg base)(F:Fd K mg "is_test" (top 29) ZX f fd):Qt P w K mg base:=F.go 2 1 ZX _ X2 λd e A outer s H E a=>(ai (ao (bj (ajs rfl) rfl z.all ⋯ (bq (c5 (ns:=["part"]) (ys:=[]) (fr:=[]) (cl:=[]) (csN [(".0",.local),("part",.local),("TEST_SORTS",.globalImplicit)]) rfl (cy (vc c a (ae (v_ 0) ab))) (λ_ _ _ _=>h8) (λ_ _ _ _=>cg) (λ_ _ _ _=>(uv (Tv a.units) (ar (v_ 0) ag) (vgl b))) (by show cE)) ab))))
def Pz (z:Bl mg)(b:Qs P w K mg base)(F:Fd K mg "notes_in" (top 30) ZX f fd):Qu P w K mg base:=F.go 2 1 ZX _ Uk λc d A outer s H E a=>(ai (ao (bj cw rfl z.len ⋯ (bq (c5 (ns:=["part"]) (ys:=[]) (fr:=[]) (cl:=[]) (csN [(".0",.local),("part",.local)]) rfl (cy (vc b a (ae (v_ 0) ab))) (λ_ _ _ _=>h8) (λ_ _ _ _=>(uc (az (d6 a.units) (ar (v_ 0) ag) bz))) (λ_ _ _ _=>(v_ 0)) (by show cE)) ab))))
def N3 (z:Bl mg)(a:Qt P w K mg base)(F:Fd K mg "must_test" (top 31) ZX f fd):Qv P w K mg base:=F.go 3 1 ZX _ Oz λc d A outer s H E b=>(ai (bx (jm (di (vc a b (ae (v_ 0) ab)))) (ai yk) bt))
def Jw (z:Bl mg)(a:Qu P w K mg base)(F:Fd K mg "must_plain" (top 32) ZX f fd):Qw P w K mg base:=F.go 3 1 ZX _ Me λc d A outer s H E b=>(ai (bx (di (vc a b (ae (v_ 0) ab))) (ai yk) bt))
def N4 (z:Bl mg)(b:Gc #v[P,w,K] mg "FIELD_SORTS" sv)(c:Qo P w K mg base)(d:Qv P w K mg base)(F:Fd K mg "must_part" (top 28) YI f fd):Qx P w K mg base:=F.go 4 1 YI _ O1 λe g A outer s H E a=>(ah (bx (az (Tv a.units) (ar (v_ 1) ag) (vgl b)) (ai (gm (vc c a (ae (v_ 0) (ae (ar (v_ 1) ag) (ae (ar (v_ 1) ag) ab)))))) bt) (ai (bx (az (d6 a.units) (ar (v_ 1) ag) bz) (ai (gm (vc d a (ae (ar (v_ 1) ag) ab)))) bt)))
def Hb (z:Bl mg)(b:Qs P w K mg base)(c:Qx P w K mg base)(F:Fd K mg "must_saying" (top 27) ZJ f fd):Qy P w K mg base:=F.go 5 1 ["speech","saying","part"] _ Iy λd e A outer s H E a=>(ai (c7 (L:=[2]) bF rfl (cy (vc b a (ae (v_ 1) ab))) (de (i:=2) d rfl (aS rfl)) (ai (gm (vc c a (ae (v_ 0) (ae (v_ 2) ab)))))))
def Ce (z:Bl mg)(b:Qa P w K mg base)(c:Qb P w K mg base)(d:Qo P w K mg base)(e:Qp P w K mg base)(g:Qq P w K mg base)(F:Fd K mg "plain_relation" (top 38) YS f fd):Qz P w K mg base:=F.go 2 1 ["speech","letters","part","place"] _ Dt λh j A outer s H E a=>(ah (bx (az (d6 a.units) (ar (v_ 2) ag) bz) (ai (ao (vc b a (ae (bj cw rfl z.len ⋯ (bq (v_ 1) ab)) ab)))) bt) (ah (bx (az (d6 a.units) (ar (v_ 2) ag) bz) (ai (ao (vc c a (ae (bj cw rfl z.len ⋯ (bq (v_ 1) ab)) ab)))) bt) (ah (ay (i:=3) h rfl (aS rfl) (vc d a (ae (v_ 0) (ae (ar (v_ 2) ag) (ae (ar (v_ 2) ag) ab))))) (ah (bx (az (d6 a.units) (ar (v_ 2) ag) bz) (ai (ao (vc e a (ae (v_ 1) (ae (v_ 3) (ae (ar (v_ 2) ag) ab)))))) bt) (ai (ao (vc g a (ae (v_ 1) (ae (v_ 3) (ae (ar (v_ 2) ag) ab))))))))))
def N5 (z:Bl mg)(b:Qg P w K mg base)(d:Qc P w K mg base)(F:Fd K mg "again_row" (top 47) YH f fd):QA P w K mg base:=F.go 2 1 ["row","anew","start","ended","later"] _ O5 λc e A outer s H E a=>(ah (ay (i:=3) c rfl (fQ rfl) (vc b a (ae (ar (v_ 0) ag) (ae (v_ 1) ab)))) (ah (ja (i0:=4) c rfl rfl (ns:=["old","begun"]) (ys:=["ended"]) (fr:=[3]) (cl:=[("ended",‹s›+1)]) (csN [(".0",.local),("old",.local),("begun",.local),("either_of",.globalImplicit),("one_then_other",.globalImplicit),("ended",.cell)]) rfl (Ge rfl z.zip (ae (cz (v_ 0) (bu ag) bw) (ae (cz (v_ 2) (bu ag) bw) ab))) (λ_ _ _ _=>(wx rfl)) (λ_ _ _ _=>cg) (λ_ _ _ _=>(vc d a (ae (v_ 0) (ae (vc b a (ae (v_ 2) (ae (v_ 1) ab))) ab)))) wy) (ai (ao (aq bf (ba (ae (v_ 3) ab)) (v_ 4))))))
def Jx (z:Bl mg)(c:Qh P w K mg base)(d:QA P w K mg base)(F:Fd K mg "again_ways" (top 46) YC f fd):QB P w K mg base:=F.go 3 1 ["ways","anew","rows"] _ Mh λa e A outer s H E b=>(ah (ay (i:=1) a rfl (fQ rfl) (vc c b (ae (ar (ar (v_ 0) ag) ag) ab))) (abh (i0:=2) (iv:=1) (ns:=["row"]) (ys:=["anew","ways"]) (fr:=[1,0]) (cl:=[("ways",‹s›+1),("anew",‹s›+2)]) a rfl rfl (csN [(".0",.local),("row",.local),("again_row",.globalImplicit),("anew",.cell),("ways",.cell)]) rfl (cy (v_ 0)) (λ_ _ _ _=>h8) (λ_ _ _ _=>(vc d b (ae (v_ 0) (ae (v_ 1) (ae (ar (v_ 2) ag) ab))))) (by show cE) (by decide) (Ki (pv 1) (Vg (S7 Fm (pv 2) Kg (λ_ _=>rfl)) Kg Kq)) (ai (ao (v_ 2)))))
def Fb (z:Bl mg)(b:Ql P w K mg base)(c:Qm P w K mg base)(d:QB P w K mg base)(e:Qd P w K mg base)(g:Qj P w K mg base)(h:Qz P w K mg base)(F:Fd K mg "ways_of_part" (top 37) ZP f fd):QC P w K mg base:=F.go 4 1 ZP _ Gw λi j A outer s H E a=>(ah (bx (az (d6 a.units) (ar (v_ 2) ag) bz) (ai (ao (vc b a (ae (ar (v_ 3) ag) (ae (ar (v_ 3) ag) ab))))) bt) (ah (bx (az (d6 a.units) (ar (v_ 2) ag) bz) (ai (ao (vc c a (ae (ar (v_ 3) ag) (ae (ar (v_ 3) ag) ab))))) bt) (ah (bx (az (d6 a.units) (ar (v_ 2) ag) bz) (ai (ao (vc d a (ae (ar (v_ 3) ag) ab)))) bt) (ah (bx (az (d6 a.units) (ar (v_ 2) ag) bz) (ai (ao (ba (ae (ba (ae (vc e a (ae (ar (ar (ar (v_ 3) ag) ag) ag) ab)) ab)) ab)))) bt) (ah (bx (az (d6 a.units) (ar (v_ 2) ag) bz) (ai (ao (vc g a (ae (bj cw rfl z.len ⋯ (bq (v_ 1) ab)) ab)))) bt) (ai (ao (ba (ae (ba (ae (vc h a (ae (v_ 0) (ae (v_ 1) (ae (v_ 2) ab)))) ab)) ab)))))))))
def U8 (z:Bl mg)(c:Qs P w K mg base)(d:Qr P w K mg base)(e:QC P w K mg base)(F:Fd K mg "ways_of" (top 36) YX f fd):QD P w K mg base:=F.go 5 2 ["speech","letters","saying","waiting","part","inner"] _ X6 λa g A outer s H E b=>(ah (i8 (i:=3) (j:=0) a rfl (fQ rfl) (ba ab)) (ah (c7 (L:=[4,5]) bF rfl (aka rfl z.reversed (ae (vc c b (ae (v_ 2) ab)) ab)) (de (i:=4) a rfl (aS rfl)) (ah (ja (i0:=5) a rfl rfl (ns:=["held"]) (ys:=["waiting"]) (fr:=[3]) (cl:=[("waiting",‹s›+1)]) (csN [(".0",.local),("held",.local),("waiting",.cell)]) rfl (o3 (vc d b (ae (v_ 4) ab))) (λ_ _ _ _=>h8) (λ_ _ _ _=>cg) (λ_ _ _ _=>(En (i:=1) dU nT nU Lh rfl (fQ (aS rfl)))) (by show cE)) (ai (gm (Ap (i:=3) rfl (fQ (aS rfl)) (vc e b (ae (v_ 0) (ae (v_ 1) (ae (v_ 4) (ae (v_ 5) ab)))))))))) (ai (ao (En (i:=3) dU nT nU Lh rfl (fQ (aS rfl)))))))
def Hc (z:Bl mg)(F:Fd K mg "each_longer" (top 9) YD f fd):QE P w K mg base:=F.go 0 2 ["letters","count","longer","letter"] _ I0 λa b A outer s H E c=>(ah (i8 (i:=2) (j:=0) a rfl (aS rfl) (ba ab)) (ah (c7 (L:=[3]) bF rfl (cy (v_ 0)) (de (i:=3) a rfl (fQ rfl)) (ai (gm (ada (i:=2) dU PySem.F.slot_list_extend PySem.F.type_list_extend Ia rfl (aS rfl) (bq (c5 (ns:=["value"]) (ys:=YE) (fr:=[3]) (cl:=[("letter",‹s›+1)]) (csN [(".0",.local),("value",.local),("letter",.cell)]) rfl (g9 rfl z.range (ae (v_ 1) ab)) (λ_ _ _ _=>h8) (λ_ _ _ _=>cg) (λ_ _ _ _=>(aq bf (v_ 1) (dj (ae (v_ 0) ab)))) (by show cE)) ab))))) (ai (ao (v_ 2)))))
def Jy (z:Bl mg)(b:QE P w K mg base)(F:Fd K mg "letters_of" (top 8) ["speech"] f fd):QF P w K mg base:=F.go 1 1 ["speech","letters","pair"] _ Mj λa d A outer s H E c=>(ah (ay (i:=1) a rfl (aS rfl) (ba (ae (dj ab) ab))) (ah (c7 (L:=[2]) bF rfl (o3 (v_ 0)) (de (i:=2) a rfl (aS rfl)) (ai (ay (i:=1) a rfl (aS rfl) (vc b c (ae (v_ 1) (ae (ar (v_ 2) ag) ab)))))) (ai (ao (v_ 1)))))
def N6 (z:Bl mg)(a:Cls K C)(b:NoAttr K C "letters")(c:NoAttr K C "ways")(F:Cd K mg "Runs" "__init__" "Runs.__init__" (j4 (top 34) 0) ZF d f fd):QG P w K mg base C:=F.go 0 0 0 ZF _ O7 λe g A outer s H E h=>(ah (Xo (i:=0) a b rfl (aS rfl) (v_ 1)) (ai (Xo (i:=0) a c rfl (aS rfl) (v_ 2))))
def Bb (z:Bl mg)(b:Cls K C)(d:NoAttr K C "letters")(c:NoAttr K C "ways")(F:Md K C "masks_from" "Runs.masks_from" (j4 (top 34) 6) ZT f fd):QH P w K mg base C:=F.go 0 1 ["self","rooms","letter","place","masks","room"] _ B9 λa g A outer s H E e=>(ah (ay (i:=3) a rfl (fQ rfl) (Tz dU iN mP (Dh e.units) (Ew b d (v_ 0)) (bq (v_ 2) ab))) (ah (ay (i:=4) a rfl (aS rfl) (aq oy (ba (ae ag ab)) (bj cw rfl z.len ⋯ (bq (Ew b c (v_ 0)) ab)))) (ah (c7 (L:=[5]) bF rfl (o3 (v_ 1)) (de (i:=5) a rfl (aS rfl)) (ai (ja (i0:=4) a rfl rfl (ns:=YO) (ys:=["place"]) (fr:=[3]) (cl:=[("place",‹s›+1)]) (csN [(".0",.local),("mask",.local),("relation",.local),("place",.cell)]) rfl (Ge rfl z.zip (ae (v_ 4) (ae (ar (Ew b c (v_ 0)) (v_ 5)) ab))) (λ_ _ _ _=>(wx rfl)) (λ_ _ _ _=>cg) (λ_ _ _ _=>(aq Tu (v_ 0) (ar (v_ 1) (v_ 2)))) wy))) (ai (ao (v_ 4))))))
def Cf (z:Bl mg)(b:Cls K C)(c:NoAttr K C "letters")(d:Qe P w K mg base)(e:QH P w K mg base C)(F:Md K C "ends_from" "Runs.ends_from" (j4 (top 34) 4) ZT f fd):QI P w K mg base C:=F.go 1 1 ZT _ Dv λg h A outer s H E a=>(ai (ao (vc d a (ae (Ew b c (v_ 0)) (ae (ar (Gi e a (v_ 0) (ae (v_ 1) (ae (v_ 2) ab))) ag) ab)))))
def N7 (z:Bl mg)(a:QI P w K mg base C)(F:Md K C "ends" "Runs.ends" (j4 (top 34) 2) ZC f fd):QJ P w K mg base C:=F.go 2 1 ZC _ O9 λc d A outer s H E b=>(ai (ao (Gi a b (v_ 0) (ae (dj (ae (v_ 1) ab)) (ae (v_ 2) ab)))))
def Fc (z:Bl mg)(b:Qy P w K mg base)(c:QF P w K mg base)(d:QG P w K mg base C)(e:QD P w K mg base)(F:Kd K mg "Machine" "Machine.__init__" (j4 (top 35) 0) YQ C f fd):QK P w K mg base C:=F.go 0 6 0 ["self","speech","saying","letters"] _ Gy λg h A outer s H E a=>(ah (gm (vc b a (ae (v_ 1) (ae (v_ 2) ab)))) (ah (ay (i:=3) g rfl (aS rfl) (vc c a (ae (v_ 1) ab))) (ai (gm (vcm d a (bq (v_ 0) (ae (v_ 3) (ae (vc e a (ae (v_ 1) (ae (v_ 3) (ae (v_ 2) ab)))) ab))))))))
def P0 (z:Bl mg)(F:Fd K mg "with_put" (top 51) YN f fd):QL P w K mg base:=F.go 0 1 YN _ Ur λa b A outer s H E c=>(ai (ao (jr u6 rfl z.tuple ⋯ (bq (c5 (ns:=["own","value"]) (ys:=[]) (fr:=[]) (cl:=[]) (csN [(".0",.local),("own",.local),("value",.local)]) rfl (Lo rfl z.zip (ae (v_ 0) (ae (v_ 1) ab))) (λ_ _ _ _=>(wx rfl)) (λ_ _ _ _=>cg) (λ_ _ _ _=>(Ek (az acz (v_ 1) om) (v_ 0) (v_ 1))) wy) ab))))
def U9 (z:Bl mg)(b:QL P w K mg base)(F:Fd K mg "matches" (top 50) YM f fd):QM P w K mg base:=F.go 1 1 YM _ Ya λc d A outer s H E a=>(ai (ao (uv (d6 a.units) (vc b a (ae (v_ 1) (ae (v_ 0) ab))) (v_ 1))))
def P1 (z:Bl mg)(b:QM P w K mg base)(c:QL P w K mg base)(F:Fd K mg "by_table" (top 49) YA f fd):QN P w K mg base:=F.go 2 1 ["table","letter","row"] _ Ut λd e A outer s H E a=>(ah (c7 (L:=[2]) bF rfl (cy (v_ 0)) (de (i:=2) d rfl (aS rfl)) (ai (bx (di (vc b a (ae (ar (v_ 2) ag) (ae (v_ 1) ab)))) (ai (ao (Fx rfl a.units rfl z.sorted ⋯ rfl z.set ⋯ (c5 (ns:=["deed"]) (ys:=YE) (fr:=[1]) (cl:=[("letter",‹s›+1)]) (csN [(".0",.local),("deed",.local),("with_put",.globalImplicit),("letter",.cell)]) rfl (o3 (ar (v_ 2) ag)) (λ_ _ _ _=>h8) (λ_ _ _ _=>cg) (λ_ _ _ _=>(vc c a (ae (v_ 1) (ae (v_ 0) ab)))) (by show cE))))) bt))) (ai (ao (ba ab))))
def P2 (z:Bl mg)(F:Fd K mg "deed_for" (top 54) YG f fd):QO P w K mg base:=F.go 0 1 YG _ Uv λb c A outer s H E a=>(ai (ao (jr u6 rfl z.tuple ⋯ (bq (c5 (ns:=["value","own"]) (ys:=[]) (fr:=[]) (cl:=[]) (csN [(".0",.local),("value",.local),("own",.local)]) rfl (Lo rfl z.zip (ae (v_ 1) (ae (v_ 0) ab))) (λ_ _ _ _=>(wx rfl)) (λ_ _ _ _=>cg) (λ_ _ _ _=>(Ek (az (d6 a.units) (v_ 0) (v_ 1)) om (v_ 0))) wy) ab))))
def Va (z:Bl mg)(a:QO P w K mg base)(F:Fd K mg "row_for" (top 53) YV f fd):QP P w K mg base:=F.go 1 1 YV _ Yc λc d A outer s H E b=>(ai (ao (dj (ae (v_ 0) (ae (jr u6 rfl z.tuple ⋯ (bq (c5 (ns:=["end"]) (ys:=YE) (fr:=[0]) (cl:=[("letter",‹s›+1)]) (csN [(".0",.local),("end",.local),("deed_for",.globalImplicit),("letter",.cell)]) rfl (cy (v_ 1)) (λ_ _ _ _=>h8) (λ_ _ _ _=>cg) (λ_ _ _ _=>(vc a b (ae (v_ 1) (ae (v_ 0) ab)))) (by show cE)) ab)) ab)))))
def N8 (z:Bl mg)(F:Fd K mg "wider_row" (top 58) YF f fd):QQ P w K mg base:=F.go 0 1 YF _ Pb λa b A outer s H E c=>(ai (ao (dj (ae (aq bf (aq bf (cz (ar (v_ 0) ag) bw (bu (v_ 1))) (dj (ae om ab))) (cz (ar (v_ 0) ag) (bu (aq bf (v_ 1) ag)) bw)) (ae (ar (v_ 0) ag) ab)))))
def P3 (z:Bl mg)(b:QN P w K mg base)(F:Fd K mg "does_all" (top 59) ZW f fd):QR P w K mg base:=F.go 3 1 ["table","wanted","letter","ends"] _ Ux λc d A outer s H E a=>(ah (c7 (L:=[2,3]) bF rfl (cy (v_ 1)) (vg2 (i:=2) (j:=3) rfl c rfl rfl (aS rfl) (aS rfl)) (ai (bx (az (tq a.units) (vc b a (ae (v_ 0) (ae (v_ 2) ab))) (v_ 3)) (ai (ao ft)) bt))) (ai (ao ft)))
def Bc (z:Bl mg)(b:QR P w K mg base)(F:Fd K mg "with_fewer_rows" (top 56) ZW f fd):QS P w K mg base:=F.go 4 1 ["table","wanted","place","fewer"] _ Cb λa d A outer s H E c=>(ah (c7 (L:=[2,3]) bF rfl (agd rfl z.range (ae (aq Lb (bj cw rfl z.len ⋯ (bq (v_ 0) ab)) ag) (ae (mi ag) (ae (mi ag) ab)))) (de (i:=2) a rfl (aS rfl)) (ah (ay (i:=3) a rfl (aS rfl) (aq bf (cz (v_ 0) bw (bu (v_ 2))) (cz (v_ 0) (bu (aq bf (v_ 2) ag)) bw))) (ai (bx (di (vc b c (ae (v_ 3) (ae (v_ 1) ab)))) (ai (ay (i:=0) a rfl (aS rfl) (v_ 3))) bt)))) (ai (ao (v_ 0))))
def x9 (z:Bl mg)(c:QQ P w K mg base)(d:QR P w K mg base)(F:Fd K mg "with_wider_matches" (top 57) ZW f fd):QT P w K mg base:=F.go 4 1 ["table","wanted","place","field","wider"] _ y6 λa e A outer s H E b=>(ah (c7 (L:=[2,3,4]) bF rfl (g9 rfl z.range (ae (bj cw rfl z.len ⋯ (bq (v_ 0) ab)) ab)) (de (i:=2) a rfl (aS rfl)) (ai (c7 (L:=[3,4]) bF rfl (g9 rfl z.range (ae (bj cw rfl z.len ⋯ (bq (ar (ar (v_ 0) (v_ 2)) ag) ab)) ab)) (de (i:=3) a rfl (aS rfl)) (ah (ay (i:=4) a rfl (aS rfl) (aq bf (aq bf (cz (v_ 0) bw (bu (v_ 2))) (ba (ae (vc c b (ae (ar (v_ 0) (v_ 2)) (ae (v_ 3) ab))) ab))) (cz (v_ 0) (bu (aq bf (v_ 2) ag)) bw))) (ai (bx (di (vc d b (ae (v_ 4) (ae (v_ 1) ab)))) (ai (ay (i:=0) a rfl (aS rfl) (v_ 4))) bt)))))) (ai (ao (v_ 0))))
def Jz (z:Bl mg)(c:QT P w K mg base)(d:QS P w K mg base)(F:Fd K mg "made_small" (top 55) ZW f fd):QU P w K mg base:=F.go 5 1 ["table","wanted","before"] _ Mr λa e A outer s H E b=>(ah (ay (i:=2) a rfl (aS rfl) (ba ab)) (ah (u9 (L:=[]) bF (az (tq b.units) (v_ 0) (v_ 2)) (ah (ay (i:=2) a rfl (aS rfl) (v_ 0)) (ai (ay (i:=0) a rfl (aS rfl) (vc c b (ae (vc d b (ae (v_ 0) (ae (v_ 1) ab))) (ae (v_ 1) ab))))))) (ai (ao (v_ 0)))))
def P4 (z:Bl mg)(c:Qy P w K mg base)(d:Qw P w K mg base)(e:QK P w K mg base C)(g:QF P w K mg base)(h:QJ P w K mg base C)(j:QU P w K mg base)(l:QP P w K mg base)(F:Fd K mg "table_of" (top 52) ZJ f fd):QV P w K mg base:=F.go 8 1 ["speech","saying","machine","wanted"] _ Uz λb m A outer s H E a=>(ah (gm (vc c a (ae (v_ 0) (ae (v_ 1) ab)))) (ah (gm (vc d a (ae (v_ 1) ab))) (ah (ay (i:=2) b rfl (fQ rfl) (agi e a (ae (v_ 0) (ae (v_ 1) ab)))) (ah (ja (i0:=3) b rfl rfl (ns:=YE) (ys:=["machine"]) (fr:=[2]) (cl:=[("machine",‹s›+1)]) (csN [(".0",.local),("letter",.local),("machine",.cell)]) rfl (cy (vc g a (ae (v_ 0) ab))) (λ_ _ _ _=>h8) (λ_ _ _ _=>cg) (λ_ _ _ _=>(dj (ae (v_ 0) (ae (Gi h a (v_ 1) (ae ag (ae (v_ 0) ab))) ab)))) (by show cE)) (ai (ao (vc j a (ae (c5 (ns:=YV) (ys:=[]) (fr:=[]) (cl:=[]) (csN [(".0",.local),("letter",.local),("ends",.local),("row_for",.globalImplicit)]) rfl (cy (v_ 3)) (λ_ _ _ _=>(wx rfl)) (λ_ _ _ _=>cg) (λ_ _ _ _=>(vc l a (ae (v_ 0) (ae (v_ 1) ab)))) wy) (ae (v_ 3) ab)))))))))
def N9 (z:Bl mg)(F:Fd K mg "_law_cell" (top 61) ZA f fd):QW P w K mg base:=F.go 0 1 ZA _ Pe λa b A outer s H E c=>(ah (bx (az yh (v_ 1) (bj cw rfl z.len ⋯ (bq (v_ 0) ab))) (ai (ao (ar (v_ 0) (v_ 1)))) bt) (ai (ao ag)))
def J0 (z:Bl mg)(F:Fd K mg "_law_purse" (top 62) Y' f fd):QX P w K mg base:=F.go 0 1 ["_law_cell_here","_law_number","_law_found","_law_k"] _ Mv λa c A outer s H E b=>(ah (ay (i:=1) a rfl (aS rfl) (aq ox (v_ 0) ag)) (ah (ay (i:=2) a rfl (aS rfl) ag) (ah (c7 (L:=[3]) bF rfl (g9 rfl z.range (ae ag ab)) (de (i:=3) a rfl (aS rfl)) (ah (ay (i:=1) a rfl (aS rfl) (aq ox (aq bf (aq bf (aq bf (aq oy (v_ 1) (v_ 1)) (aq oy (aq oy ag (v_ 3)) (v_ 3))) (v_ 3)) ag) ag)) (ai (ay (i:=2) a rfl (aS rfl) (aq bf (aq oy (v_ 2) ag) (aq ox (aq oy (v_ 1) (v_ 1)) ag)))))) (ah (bx (az (d6 b.units) (aq ox (v_ 0) ag) ag) (ai (ao (ba (ae (aq Fw (bj ajq rfl z.abs ⋯ (bq (v_ 0) ab)) ag) (ae (v_ 2) ab))))) bt) (ai (ao (ba (ae ag (ae (v_ 2) ab)))))))))
def Oa (z:Bl mg)(F:Fd K mg "_law_take" (top 63) YY f fd):QY P w K mg base:=F.goR 0 0 0 ["_law_purse_here","_law_many","_law_at","_law_found"] _ Pg λa c A outer s H E b=>(ah (ay (i:=2) a rfl (aS rfl) (jr Xc rfl z.int ⋯ (bq (uv (d6 b.units) (ar (v_ 0) ag) ag) ab))) (ah (ay (i:=3) a rfl (aS rfl) (aq ox (ar (v_ 0) (v_ 2)) (v_ 1))) (ah (ko (i:=0) rfl (aS rfl) b.units (aq Fw (ar (v_ 0) (v_ 2)) (v_ 1)) (v_ 2)) (ai (ao (v_ 3))))))
def Hd (z:Bl mg)(d:QX P w K mg base)(c:QY P w K mg base)(F:Fd K mg "_law_speech" (top 64) ZH f fd):QZ P w K mg base:=F.go 1 3 ["_law_cell_here","_law_least_here","_law_purse_here","_law_first","_law_letters_here","_law_left","_law_many","_law_tail","_law_speech_here","_law_k","_law_count","_law_word"] _ Ji λa e A outer s H E b=>(ah (i8 (i:=2) (j:=1) a rfl (aS rfl) (vc d b (ae (v_ 0) ab))) (ah (ay (i:=3) a rfl (aS rfl) (vcr c b (bq (v_ 2) (ae ag ab)))) (ah (ay (i:=4) a rfl (aS rfl) bz) (ah (ay (i:=5) a rfl (aS rfl) (ar (ba (ae ag (ae ag (ae ag (ae ag (ae ag (ae ag (ae ag (ae ag ab))))))))) (vcr c b (bq (v_ 2) (ae ag ab))))) (ah (ay (i:=6) a rfl (aS rfl) (bj (Xd rfl) rfl z.max ⋯ (bq (v_ 1) (bq (aq bf ag (vcr c b (bq (v_ 2) (ae ag ab)))) ab)))) (ah (ay (i:=7) a rfl (aS rfl) (cz bz bw (bu (vcr c b (bq (v_ 2) (ae ag ab)))))) (ah (i8 (i:=8) (j:=0) a rfl (aS rfl) (ba ab)) (ah (c7 (L:=[9,10]) bF rfl (g9 rfl z.range (ae (v_ 6) ab)) (de (i:=9) a rfl (aS rfl)) (ah (ay (i:=10) a rfl (aS rfl) (bj (Xe rfl) rfl z.min ⋯ (bq (ar (ba (ae ag (ae ag (ae ag (ae ag (ae ag (ae ag ab))))))) (vcr c b (bq (v_ 2) (ae ag ab)))) (bq (v_ 5) ab)))) (ah (ay (i:=5) a rfl (aS rfl) (aq Fw (v_ 5) (v_ 10))) (ai (gm (Ap (i:=8) rfl (aS rfl) (dj (ae (aq bf (ar (v_ 4) (aq ox (aq bf (v_ 3) (aq oy ag (v_ 9))) ag)) (v_ 7)) (ae (v_ 10) ab))))))))) (ah (ay (i:=11) a rfl (aS rfl) (ar (ba (ae bz (ae bz (ae bz (ae bz (ae bz (ae bz (ae bz (ae bz ab))))))))) (vcr c b (bq (v_ 2) (ae ag ab))))) (ah (bx (az (d6 b.units) (vcr c b (bq (v_ 2) (ae ag ab))) ag) (ai (ko (i:=8) rfl (aS rfl) b.units (dj (ae (v_ 11) (ae (ar (ar (v_ 8) ag) ag) ab))) ag)) bt) (ai (ao (jr u6 rfl z.tuple ⋯ (bq (v_ 8) ab))))))))))))))
def Fe (z:Bl mg)(F:Fd K mg "_law_letters" (top 65) ZO f fd):Q0 P w K mg base:=F.go 0 1 ["_law_speech_here","_law_found","_law_field","_law_count","_law_longer","_law_letter"] _ G1 λa b A outer s H E c=>(ah (ay (i:=1) a rfl (aS rfl) (ba (ae (dj ab) ab))) (ah (c7 (L:=[2,3,4,5]) bF rfl (o3 (v_ 0)) (vg2 (i:=2) (j:=3) rfl a rfl rfl (aS rfl) (aS rfl)) (ah (ay (i:=4) a rfl (aS rfl) (ba ab)) (ah (c7 (L:=[5]) bF rfl (cy (v_ 1)) (de (i:=5) a rfl (fQ rfl)) (ai (ay (i:=4) a rfl (aS rfl) (aq bf (v_ 4) (c5 (ns:=["_law_value"]) (ys:=["_law_letter"]) (fr:=[5]) (cl:=[("_law_letter",‹s›+1)]) (csN [(".0",.local),("_law_value",.local),("_law_letter",.cell)]) rfl (g9 rfl z.range (ae (v_ 3) ab)) (λ_ _ _ _=>h8) (λ_ _ _ _=>cg) (λ_ _ _ _=>(aq bf (v_ 1) (dj (ae (v_ 0) ab)))) (by show cE)))))) (ai (ay (i:=1) a rfl (aS rfl) (v_ 4)))))) (ai (ao (v_ 1)))))
def Ob (z:Bl mg)(a:QY P w K mg base)(F:Fd K mg "_law_lone" (top 66) ZR f fd):Q1 P w K mg base:=F.goR 1 1 0 ["_law_sort","_law_purse_here","_law_speech_here","_law_field","_law_count"] _ Pi λc d A outer s H E b=>(ah (Ep (ar (v_ 2) (vcr a b (bq (v_ 1) (ae (bj cw rfl z.len ⋯ (bq (v_ 2) ab)) ab)))) (vg2 (i:=3) (j:=4) rfl c rfl rfl (aS rfl) (aS rfl))) (ai (ao (ar (ba (ae (dj (ae bz (ae (v_ 3) (ae (vcr a b (bq (v_ 1) (ae (v_ 4) ab))) ab)))) (ae (dj (ae bz (ae (v_ 3) (ae (vcr a b (bq (v_ 1) (ae (v_ 4) ab))) ab)))) (ae (dj (ae bz ab)) (ae (dj (ae bz ab)) ab))))) (v_ 0)))))
def He (z:Bl mg)(F:Fd K mg "_law_joined" (top 68) YK f fd):Q2 P w K mg base:=F.go 0 1 ["_law_row","_law_word","_law_one","_law_other","_law_made_here"] _ Jk λa b A outer s H E c=>(ah (Ep (cz (v_ 0) (bu (mi ag)) bw) (vg2l (i:=2) (j:=3) rfl a rfl rfl (aS rfl) (aS rfl))) (ah (ay (i:=4) a rfl (aS rfl) (dj (ae (v_ 1) (ae (ar (v_ 2) ag) (ae (ar (v_ 3) ag) ab))))) (ai (ao (aq bf (cz (v_ 0) bw (bu (mi ag))) (ba (ae (ba (ae (v_ 4) (ae (ajp (ar (v_ 2) ag) (ajo (ar (v_ 3) ag))) (ae (aq bf (ar (v_ 2) ag) (ar (v_ 3) ag)) (ae (bj (Xd rfl) rfl z.max ⋯ (bq (ar (v_ 2) ag) (bq (ar (v_ 3) ag) ab))) ab))))) ab)))))))
def J1 (z:Bl mg)(c:QX P w K mg base)(d:QY P w K mg base)(e:Q2 P w K mg base)(g:Q1 P w K mg base)(F:Fd K mg "_law_grown" (top 67) ZU f fd):Q3 P w K mg base:=F.go 2 2 ["_law_row","_law_cell_here","_law_speech_here","_law_most","_law_purse_here","_law_sort","_law_last"] _ Mx λb h A outer s H E a=>(ah (i8 (i:=4) (j:=0) b rfl (aS rfl) (vc c a (ae (v_ 1) ab))) (ah (ay (i:=5) b rfl (aS rfl) (vcr d a (bq (v_ 4) (ae ag ab)))) (ah (ay (i:=6) b rfl (aS rfl) (ar (v_ 0) (mi ag))) (ah (bx (j7 (oq (az (d6 a.units) (v_ 5) ag) (gu (az yh (bj (ajr rfl) rfl z.sum ⋯ (bq (c5 (ns:=["_law_one"]) (ys:=[]) (fr:=[]) (cl:=[]) (csN [(".0",.local),("_law_one",.local)]) rfl (cy (v_ 0)) (λ_ _ _ _=>h8) (λ_ _ _ _=>cg) (λ_ _ _ _=>(ar (v_ 0) ag)) (by show cE)) ab)) (v_ 3))))) (ai (ao (aq bf (v_ 0) (ba (ae (ba (ae (dj (ae bz ab)) (ae ft (ae ag (ae ag ab))))) ab))))) bt) (ah (bx (j7 (oq (az (d6 a.units) (v_ 5) ag) (gu (di (ar (v_ 6) ag))))) (ai (ao (aq bf (cz (v_ 0) bw (bu (mi ag))) (ba (ae (ba (ae (dj (ae bz (ae (ar (v_ 6) ag) ab))) (ae ft (ae ag (ae ag ab))))) ab))))) bt) (ah (bx (j7 (oq (az (d6 a.units) (v_ 5) ag) (gu (az yh (ar (v_ 6) ag) ag)))) (ai (ao (aq bf (cz (v_ 0) bw (bu (mi ag))) (ba (ae (ba (ae (dj (ae bz (ae (ar (v_ 6) ag) ab))) (ae ft (ae (ar (v_ 6) ag) (ae (aq bf (ar (v_ 6) ag) ag) ab))))) ab))))) bt) (ah (bx (j7 (oq (az Bp (v_ 5) ag) (oq (az yh (v_ 5) ag) (gu (az Bp (bj cw rfl z.len ⋯ (bq (v_ 0) ab)) ag))))) (ai (ao (vc e a (ae (v_ 0) (ae (ar (ba (ae bz (ae bz ab))) (aq ox (v_ 5) ag)) ab))))) bt) (ah (ay (i:=5) b rfl (aS rfl) (ar (ba (ae ag (ae ag (ae ag (ae ag (ae ag (ae ag (ae ag (ae ag (ae ag (ae ag (ae ag (ae ag (ae ag (ae ag ab))))))))))))))) (v_ 5))) (ai (ao (aq bf (v_ 0) (ba (ae (ba (ae (vcr g a (ae (v_ 5) (bq (v_ 4) (ae (v_ 2) ab)))) (ae (uv (tq a.units) (v_ 5) ag) (ae ag (ae ag ab))))) ab)))))))))))))
def Hf (z:Bl mg)(c:Q3 P w K mg base)(d:Q2 P w K mg base)(F:Fd K mg "_law_saying" (top 69) ZN f fd):Q4 P w K mg base:=F.go 3 1 ["_law_cells","_law_speech_here","_law_most","_law_row","_law_cell_here"] _ Jq λa e A outer s H E b=>(ah (ay (i:=3) a rfl (aS rfl) (ba (ae (ba (ae (dj (ae bz ab)) (ae ft (ae ag (ae ag ab))))) ab))) (ah (c7 (L:=[4]) bF rfl (cy (v_ 0)) (de (i:=4) a rfl (aS rfl)) (ai (ay (i:=3) a rfl (aS rfl) (vc c b (ae (v_ 3) (ae (v_ 4) (ae (v_ 1) (ae (v_ 2) ab)))))))) (ah (u9 (L:=[]) bF (az Bp (bj cw rfl z.len ⋯ (bq (v_ 3) ab)) ag) (ai (ay (i:=3) a rfl (aS rfl) (vc d b (ae (v_ 3) (ae (ar (ba (ae bz (ae bz ab))) (aq ox (aq ox (bj cw rfl z.len ⋯ (bq (v_ 3) ab)) ag) ag)) ab)))))) (ai (ao (ar (ar (v_ 3) ag) ag))))))
def J2 (z:Bl mg)(F:Fd K mg "_law_union" (top 71) YW f fd):Q5 P w K mg base:=F.go 0 1 ["_law_step_here","_law_row","_law_found","_law_one"] _ M4 λa c A outer s H E b=>(ah (ay (i:=2) a rfl (fQ rfl) (ba ab)) (ah (c7 (L:=[3]) bF rfl (cy (v_ 1)) (de (i:=3) a rfl (aS rfl)) (ai (ay (i:=2) a rfl (fQ rfl) (aq bf (v_ 2) (c5 (ns:=["_law_other"]) (ys:=["_law_found"]) (fr:=[2]) (cl:=[("_law_found",‹s›+1)]) (csN [(".0",.local),("_law_other",.local),("_law_found",.cell)]) rfl (cy (fj b.units (v_ 0) (v_ 3))) (λ_ _ _ _=>h8) (λ_ _ _ _=>(uc (az (Au b.units) (v_ 0) (v_ 1)))) (λ_ _ _ _=>(v_ 0)) (by show cE)))))) (ai (ao (Rq rfl z.sorted ⋯ (v_ 2))))))
def P5 (z:Bl mg)(F:Fd K mg "_law_led" (top 72) Z' f fd):Q6 P w K mg base:=F.go 0 1 ["_law_step_here","_law_letter","_law_found","_law_at"] _ U3 λa c A outer s H E b=>(ah (ay (i:=2) a rfl (fQ rfl) (ba (ae (v_ 1) ab))) (ah (ay (i:=3) a rfl (aS rfl) ag) (ah (u9 (L:=[]) bF (az yh (v_ 3) (bj cw rfl z.len ⋯ (bq (v_ 2) ab))) (ah (ay (i:=2) a rfl (fQ rfl) (aq bf (v_ 2) (c5 (ns:=["_law_other"]) (ys:=["_law_found"]) (fr:=[2]) (cl:=[("_law_found",‹s›+1)]) (csN [(".0",.local),("_law_other",.local),("_law_found",.cell)]) rfl (cy (fj b.units (v_ 0) (fj b.units (v_ 2) (v_ 3)))) (λ_ _ _ _=>h8) (λ_ _ _ _=>(uc (az (Au b.units) (v_ 0) (v_ 1)))) (λ_ _ _ _=>(v_ 0)) (by show cE)))) (ai (ay (i:=3) a rfl (aS rfl) (aq bf (v_ 3) ag))))) (ai (ao (Rq rfl z.sorted ⋯ (v_ 2)))))))
theorem Bd (z:Bl mg)(c:Q5 P w K mg base)(d:Q6 P w K mg base)(F:Fd K mg "_law_step" (top 70) ZY f fd):∀n,Fo P w K mg base (n+2) "_law_step" ZY (spP #v[P,w,K] 3 (zc n))
 |0=>Fo.void F G8
 |n+1=>(λe=>F.go (n+2) 2 ["_law_speech_here","_law_letters_here","_law_saying_here","_law_sort","_law_found","_law_at","_law_letter","_law_inner"] _ (Pk n) λb g A outer s H E a=>(ah (ay (i:=3) b rfl (aS rfl) (fj a.units (v_ 2) ag)) (ah (i8 (i:=4) (j:=0) b rfl (aS rfl) agh) (ah (bx (j7 (ou (az (d6 a.units) (v_ 3) bz) (gu (az (d6 a.units) (v_ 3) bz)))) (ah (ay (i:=5) b rfl (aS rfl) (Tz dU iN mP (Dh a.units) (c5 (ns:=["_law_field","_law_count"]) (ys:=[]) (fr:=[]) (cl:=[]) (csN [(".0",.local),("_law_field",.local),("_law_count",.local)]) rfl (o3 (v_ 0)) (λ_ _ _ _=>(wx rfl)) (λ_ _ _ _=>cg) (λ_ _ _ _=>(v_ 0)) wy) (bq (fj a.units (v_ 2) ag) ab))) (ah (c7 (L:=[6]) bF rfl (cy (v_ 1)) (de (i:=6) b rfl (aS rfl)) (ah (ko (i:=4) rfl (aS rfl) a.units (ba (ae (aq bf (aq bf (cz (v_ 6) bw (bu (v_ 5))) (dj (ae (fj a.units (v_ 2) ag) ab))) (cz (v_ 6) (bu (aq bf (v_ 5) ag)) bw)) ab)) (v_ 6)) (ai (bx (j7 (oq (az (d6 a.units) (v_ 3) bz) (gu (az (tq a.units) (fj a.units (v_ 6) (v_ 5)) (fj a.units (v_ 2) ag))))) (ai (ko (i:=4) rfl (aS rfl) a.units (ba ab) (v_ 6))) bt)))) (ai (ao (v_ 4))))) bt) (ah (ja (i0:=7) b rfl rfl (ns:=["_law_one"]) (ys:=["_law_letters_here","_law_speech_here"]) (fr:=[1,0]) (cl:=[("_law_speech_here",‹s›+1),("_law_letters_here",‹s›+2)]) (csN [(".0",.local),("_law_one",.local),("_law_step",.globalImplicit),("_law_letters_here",.cell),("_law_speech_here",.cell)]) rfl (o3 (cz (v_ 2) (bu ag) bw)) (λ_ _ _ _=>h8) (λ_ _ _ _=>cg) (λ_ _ _ _=>(vc e a (ae (v_ 2) (ae (v_ 1) (ae (v_ 0) ab))) (hk:=by lia))) (by show cE)) (ah (c7 (L:=[6]) bF rfl (cy (v_ 1)) (de (i:=6) b rfl (aS rfl)) (ai (bx (az (d6 a.units) (v_ 3) bz) (ai (ko (i:=4) rfl (aS rfl) a.units (ba (ae (v_ 6) ab)) (v_ 6))) (ai (bx (az (d6 a.units) (v_ 3) bz) (ai (ko (i:=4) rfl (aS rfl) a.units (cz (cz (ba (ae (v_ 6) ab)) (bu (bj cw rfl z.len ⋯ (bq (fj a.units (fj a.units (v_ 7) ag) (v_ 6)) ab))) bw) bw (bu ag)) (v_ 6))) (ai (bx (az (d6 a.units) (v_ 3) bz) (ai (ko (i:=4) rfl (aS rfl) a.units (Fx rfl a.units rfl z.sorted ⋯ rfl z.set ⋯ (aq bf (fj a.units (fj a.units (v_ 7) ag) (v_ 6)) (fj a.units (fj a.units (v_ 7) ag) (v_ 6)))) (v_ 6))) (ai (bx (az (d6 a.units) (v_ 3) bz) (ai (ko (i:=4) rfl (aS rfl) a.units (vc c a (ae (fj a.units (v_ 7) ag) (ae (fj a.units (fj a.units (v_ 7) ag) (v_ 6)) ab)) (hk:=by lia)) (v_ 6))) (ai (bx (az (d6 a.units) (v_ 3) bz) (ai (ko (i:=4) rfl (aS rfl) a.units (vc d a (ae (fj a.units (v_ 7) ag) (ae (v_ 6) ab)) (hk:=by lia)) (v_ 6))) (ai (ko (i:=4) rfl (aS rfl) a.units (ba ab) (v_ 6)))))))))))))) (ai (ao (v_ 4))))))))) (Bd z c d F n)
def Oc (z:Bl mg)(F:Fd K mg "_law_fits" (top 73) ZI f fd):Q8 P w K mg base:=F.go 0 1 ZI _ Pn λb c A outer s H E a=>(ai (ao (uv (d6 a.units) (bj cw rfl z.len ⋯ (bq (c5 (ns:=["_law_k"]) (ys:=["_law_letter","_law_match"]) (fr:=[1,0]) (cl:=[("_law_match",‹s›+1),("_law_letter",‹s›+2)]) (csN [(".0",.local),("_law_k",.local),("_law_letter",.cell),("_law_match",.cell)]) rfl (g9 rfl z.range (ae (bj cw rfl z.len ⋯ (bq (v_ 1) ab)) ab)) (λ_ _ _ _=>h8) (λ_ _ _ _=>(uc (j7 (oq (az yi (ar (v_ 2) (v_ 0)) om) (gu (az (tq a.units) (ar (v_ 2) (v_ 0)) (ar (v_ 1) (v_ 0)))))))) (λ_ _ _ _=>(v_ 0)) (by show cE)) ab)) ag)))
def Od (z:Bl mg)(F:Fd K mg "_law_made" (top 74) ZM f fd):Q9 P w K mg base:=F.go 0 1 ZM _ Pp λa b A outer s H E c=>(ai (ao (jr u6 rfl z.tuple ⋯ (bq (c5 (ns:=["_law_k"]) (ys:=ZM) (fr:=[0,1]) (cl:=[("_law_letter",‹s›+2),("_law_deed",‹s›+1)]) (csN [(".0",.local),("_law_k",.local),("int",.globalImplicit),("_law_deed",.cell),("_law_letter",.cell)]) rfl (g9 rfl z.range (ae (bj cw rfl z.len ⋯ (bq (v_ 1) ab)) ab)) (λ_ _ _ _=>h8) (λ_ _ _ _=>cg) (λ_ _ _ _=>(ar (ba (ae (ar (v_ 1) (v_ 0)) (ae (ar (v_ 2) (v_ 0)) ab))) (jr Xc rfl z.int ⋯ (bq (uv acz (ar (v_ 1) (v_ 0)) om) ab)))) (by show cE)) ab))))
def Vb (z:Bl mg)(b:Q8 P w K mg base)(c:Q9 P w K mg base)(F:Fd K mg "_law_by" (top 75) YU f fd):Ja P w K mg base:=F.go 1 1 ["_law_table","_law_letter","_law_match","_law_deeds"] _ Yo λd e A outer s H E a=>(ah (c7 (L:=[2,3]) bF rfl (cy (v_ 0)) (vg2 (i:=2) (j:=3) rfl d rfl rfl (aS rfl) (aS rfl)) (ai (bx (di (vc b a (ae (v_ 2) (ae (v_ 1) ab)))) (ai (ao (Fx rfl a.units rfl z.sorted ⋯ rfl z.set ⋯ (c5 (ns:=["_law_deed"]) (ys:=["_law_letter"]) (fr:=[1]) (cl:=[("_law_letter",‹s›+1)]) (csN [(".0",.local),("_law_deed",.local),("_law_made",.globalImplicit),("_law_letter",.cell)]) rfl (o3 (v_ 3)) (λ_ _ _ _=>h8) (λ_ _ _ _=>cg) (λ_ _ _ _=>(vc c a (ae (v_ 0) (ae (v_ 1) ab)))) (by show cE))))) bt))) (ai (ao (ba ab))))
def Ff (z:Bl mg)(a:Kit K "tuple")(b:Kit K "int")(c:Kit K "bool")(F:Fd K mg "_law_is_part" (top 76) YZ f fd):Jb P w K mg base:=F.go 0 1 ["_law_part","_law_speech_here","_law_value","_law_one"] _ G6 λd g A outer s H E e=>(ah (bx (j7 (ou (jm (di (u7 a rfl z.isinstance ⋯ rfl z.tuple ⋯ (v_ 0)))) (gu (az (tq e.units) (bj cw rfl z.len ⋯ (bq (v_ 0) ab)) (bj cw rfl z.len ⋯ (bq (v_ 1) ab)))))) (ai (ao ft)) bt) (ah (c7 (L:=[2,3]) bF rfl (Lo rfl z.zip (ae (v_ 0) (ae (v_ 1) ab))) (vg2 (i:=2) (j:=3) rfl d rfl rfl (aS rfl) (aS rfl)) (ah (bx (j7 (oq (az yi (v_ 2) om) (gu (j7 (ou (jm (di (u7 b rfl z.isinstance ⋯ rfl z.int ⋯ (v_ 2)))) (gu (di (u7 c rfl z.isinstance ⋯ rfl z.bool ⋯ (v_ 2))))))))) (ai (ao ft)) bt) (ai (bx (j7 (oq (az yi (v_ 2) om) (gu (j7 (ou (az yh (v_ 2) ag) (gu (az acy (v_ 2) (ar (v_ 3) ag)))))))) (ai (ao ft)) bt)))) (ai (ao ft))))
def D5 (z:Bl mg)(d:Kit K "list")(b:Kit K "tuple")(c:Jb P w K mg base)(F:Fd K mg "_law_is_table" (top 77) ZL f fd):Jc P w K mg base:=F.go 1 1 ["_law_table","_law_speech_here","_law_most","_law_row"] _ E7 λe g A outer s H E a=>(ah (bx (j7 (ou (jm (di (u7 d rfl z.isinstance ⋯ rfl z.list ⋯ (v_ 0)))) (gu (az Bp (bj cw rfl z.len ⋯ (bq (v_ 0) ab)) (v_ 2))))) (ai (ao ft)) bt) (ah (c7 (L:=[3]) bF rfl (cy (v_ 0)) (de (i:=3) e rfl (aS rfl)) (ah (bx (j7 (ou (jm (di (u7 b rfl z.isinstance ⋯ rfl z.tuple ⋯ (v_ 3)))) (ou (az (tq a.units) (bj cw rfl z.len ⋯ (bq (v_ 3) ab)) ag) (gu (jm (di (vc c a (ae (ar (v_ 3) ag) (ae (v_ 1) ab))))))))) (ai (ao ft)) bt) (ai (bx (j7 (ou (jm (di (u7 b rfl z.isinstance ⋯ rfl z.tuple ⋯ (ar (v_ 3) ag)))) (gu (az Bp (bj cw rfl z.len ⋯ (bq (c5 (ns:=["_law_one"]) (ys:=ZO) (fr:=[1]) (cl:=[("_law_speech_here",‹s›+1)]) (csN [(".0",.local),("_law_one",.local),("_law_is_part",.globalImplicit),("_law_speech_here",.cell)]) rfl (o3 (ar (v_ 3) ag)) (λ_ _ _ _=>h8) (λ_ _ _ _=>(uc (jm (di (vc c a (ae (v_ 0) (ae (v_ 1) ab))))))) (λ_ _ _ _=>(v_ 0)) (by show cE)) ab)) ag)))) (ai (ao ft)) bt)))) (ai (ao ft))))
def Hg (z:Bl mg)(F:Fd K mg "_law_turned" (top 80) ZO f fd):Jd P w K mg base:=F.go 0 1 ["_law_speech_here","_law_field","_law_count"] _ Jt λa b A outer s H E c=>(ah (bx (az Bp (bj cw rfl z.len ⋯ (bq (v_ 0) ab)) ag) (ai (ao (Xm (v_ 0) (mi ag)))) bt) (ah (Ep (ar (v_ 0) ag) (vg2 (i:=1) (j:=2) rfl a rfl rfl (aS rfl) (aS rfl))) (ai (ao (dj (ae (dj (ae (v_ 1) (ae (bj (Xe rfl) rfl z.min ⋯ (bq (aq bf (v_ 2) ag) (bq ag ab))) ab))) ab))))))
def Oe (z:Bl mg)(b:Ja P w K mg base)(F:Fd K mg "_law_same" (top 78) ZQ f fd):Je P w K mg base:=F.go 2 1 ["_law_table","_law_due","_law_letter"] _ Pt λc d A outer s H E a=>(ah (c7 (L:=[2]) bF rfl (ahg (v_ 1)) (de (i:=2) c rfl (aS rfl)) (ai (bx (az (tq a.units) (vc b a (ae (v_ 0) (ae (v_ 2) ab))) (fj a.units (v_ 1) (v_ 2))) (ai (ao ft)) bt))) (ai (ao ft)))
def J3 (z:Bl mg)(b:Je P w K mg base)(F:Fd K mg "_law_least" (top 79) ZQ f fd):Jf P w K mg base:=F.go 3 1 ["_law_table","_law_due","_law_k","_law_match","_law_deeds","_law_at","_law_other"] _ Np λa d A outer s H E c=>(ah (c7 (L:=[2,3,4,5,6]) bF rfl (g9 rfl z.range (ae (bj cw rfl z.len ⋯ (bq (v_ 0) ab)) ab)) (de (i:=2) a rfl (aS rfl)) (ah (bx (di (vc b c (ae (aq bf (cz (v_ 0) bw (bu (v_ 2))) (cz (v_ 0) (bu (aq bf (v_ 2) ag)) bw)) (ae (v_ 1) ab)))) (ai (ao ft)) bt) (ah (Ep (ar (v_ 0) (v_ 2)) (vg2 (i:=3) (j:=4) rfl a rfl rfl (aS rfl) (aS rfl))) (ai (c7 (L:=[5,6]) bF rfl (g9 rfl z.range (ae (bj cw rfl z.len ⋯ (bq (v_ 3) ab)) ab)) (de (i:=5) a rfl (aS rfl)) (ai (bx (az yi (ar (v_ 3) (v_ 5)) om) (ah (ay (i:=6) a rfl (aS rfl) (dj (ae (aq bf (aq bf (cz (v_ 3) bw (bu (v_ 5))) (dj (ae om ab))) (cz (v_ 3) (bu (aq bf (v_ 5) ag)) bw)) (ae (v_ 4) ab)))) (ai (bx (di (vc b c (ae (aq bf (aq bf (cz (v_ 0) bw (bu (v_ 2))) (ba (ae (v_ 6) ab))) (cz (v_ 0) (bu (aq bf (v_ 2) ag)) bw)) (ae (v_ 1) ab)))) (ai (ao ft)) bt))) bt))))))) (ai (ao ft)))
def Of (z:Bl mg)(d:Kit K "list")(e:Q0 P w K mg base)(g:Q7 P w K mg base)(c:QV P w K mg base)(h:Jc P w K mg base)(l:Je P w K mg base)(m:Jf P w K mg base)(n:QN P w K mg base)(F:Fd K mg "_law_good" (top 81) ZK f fd):Jg P w K mg base:=F.go 102 3 ["_law_speech_here","_law_saying_here","_law_letters_here","_law_due","_law_table","_law_letter","_law_found","_law_other"] _ Pv λb o A outer s H E a=>(ah (ay (i:=2) b rfl (aS rfl) (vc e a (ae (v_ 0) ab))) (ah (ay (i:=3) b rfl (aS rfl) (vc g a (ae (v_ 0) (ae (v_ 2) (ae (v_ 1) ab))))) (ah (i8 (i:=4) (j:=0) b rfl (aS rfl) (vcn c a (ae (v_ 0) (ae (v_ 1) ab)))) (ah (bx (j7 (ou (jm (di (vcl (pp:=0) h a (bq (v_ 4) (ae (v_ 0) (ae (bj cw rfl z.len ⋯ (bq (v_ 2) ab)) ab)))))) (gu (jm (di (vcl (pp:=0) l a (bq (v_ 4) (ae (v_ 3) ab)))))))) (ai (ao ft)) bt) (ah (bx (jm (di (vcl (pp:=0) m a (bq (v_ 4) (ae (v_ 3) ab))))) (ai (ao ft)) bt) (ah (c7 (L:=[5,6]) bF rfl (cy (v_ 2)) (de (i:=5) b rfl (aS rfl)) (ah (i8 (i:=6) (j:=1) b rfl (aS rfl) (vcl (pp:=0) n a (bq (v_ 4) (ae (v_ 5) ab)))) (ah (bx (j7 (ou (jm (di (u7 d rfl z.isinstance ⋯ rfl z.list ⋯ (v_ 6)))) (gu (az (tq a.units) (v_ 6) (fj a.units (v_ 3) (v_ 5)))))) (ai (ao ft)) bt) (ai (gm (Ap (i:=6) rfl (aS rfl) (v_ 5))))))) (ah (ay (i:=7) b rfl (aS rfl) (jr afr rfl z.list ⋯ (bq (v_ 4) ab))) (ah (gm (En (i:=4) dU PySem.F.slot_list_clear PySem.F.type_list_clear aak rfl (aS rfl))) (ai (ao (uv (d6 a.units) (vcn c a (ae (v_ 0) (ae (v_ 1) ab))) (v_ 7))))))))))))
def akv (z:Bl mg)(c:QZ P w K mg base)(d:QW P w K mg base)(e:Q4 P w K mg base)(g:Jd P w K mg base)(h:Jg P w K mg base)(F:Fd K mg "law" (top 82) ["_law_script"] f fd):i5 P w K mg base CX0 104 f fd ["_law_script"] (spP #v[P,w,K] 1 g_law):=F.goL 103 1 ["_law_script","_law_speech_here","_law_saying_here","_law_one"] _ f_law λb j A outer s H E a=>(ah (ay (i:=1) b rfl (aS rfl) (vc c a (ae (vc d a (ae (v_ 0) (ae ag ab))) (ae ag ab)))) (ah (ay (i:=2) b rfl (aS rfl) (vc e a (ae (cz (v_ 0) (bu ag) (bu ag)) (ae (v_ 1) (ae ag ab))))) (ah (c7 (L:=[3]) bF rfl (cy (ba (ae (v_ 1) (ae (vc g a (ae (v_ 1) ab)) (ae (v_ 1) ab))))) (de (i:=3) b rfl (aS rfl)) (ai (bx (jm (di (vc h a (ae (v_ 3) (ae (v_ 2) ab))))) (ai (ao ft)) bt))) (ai (ao ft)))))
end
def law_told (ns:List Int)(_:ns.length<=63)(R:Ev->Prop)(h:R (.val (.v (.bl LZ)))):g_law [.scr (ns.map λi=>Tr.v (.int i))] R:=#v[ns,rfl,h]
def all_mk {l:mY}{K:aG}(X:K.In h)(G:h.Ns bG mg)(JR:mg "law"=KE (.ref fa))
  (zrange:cH K bG "range"=KE LY)
  (zabs:cH K bG "abs"=KE LY)
  (zint:cH K bG "int"=KE LY)
  (zmax:cH K bG "max"=KE LY)
  (zmin:cH K bG "min"=KE LY)
  (ztuple:cH K bG "tuple"=KE LY)
  (zlist:cH K bG "list"=KE LY)
  (zlen:cH K bG "len"=KE LY)
  (zisinstance:cH K bG "isinstance"=KE LY)
  (zenumerate:cH K bG "enumerate"=KE LY)
  (zsum:cH K bG "sum"=KE LY)
  (zall:cH K bG "all"=KE LY)
  (zany:cH K bG "any"=KE LY)
  (zzip:cH K bG "zip"=KE LY)
  (zreversed:cH K bG "reversed"=KE LY)
  (zset:cH K bG "set"=KE LY)
  (zsorted:cH K bG "sorted"=KE LY)
  (zdict:cH K bG "dict"=KE LY)
  (zbool:cH K bG "bool"=KE LY)
  (mC:cH K bG "Machine"=KE (KE (.ref e)))
  (pgC:kY K e Str.empty=LZ)
  (hdC:mQ K e=LZ)
  (poC:pW K e=LZ)
  (saC:dD K (.ref e) "__setattr__"=KE (KE (.builtin "object.__setattr__")))
  (mkC:nX K e=LZ)
  (kpC:fK K (.ref e)=LZ)
  (vG:dD K (.ref e) "letters"=KE LY)
  (xO:dD K (.ref e) "ways"=KE LY)
  (ktuplenon:bO K (.type "NoneType") (.type "tuple")=KE MA)
  (ktuplebl:bO K (.type "bool") (.type "tuple")=KE MA)
  (ktupleint:bO K (.type "int") (.type "tuple")=KE MA)
  (ktuplestr:bO K (.type "str") (.type "tuple")=KE MA)
  (ktupletup:bO K (.type "tuple") (.type "tuple")=KE LZ)
  (ktuplelst:bO K (.type "list") (.type "tuple")=KE MA)
  (kintnon:bO K (.type "NoneType") (.type "int")=KE MA)
  (kintbl:bO K (.type "bool") (.type "int")=KE LZ)
  (kintint:bO K (.type "int") (.type "int")=KE LZ)
  (kintstr:bO K (.type "str") (.type "int")=KE MA)
  (kinttup:bO K (.type "tuple") (.type "int")=KE MA)
  (kintlst:bO K (.type "list") (.type "int")=KE MA)
  (kboolnon:bO K (.type "NoneType") (.type "bool")=KE MA)
  (kboolbl:bO K (.type "bool") (.type "bool")=KE LZ)
  (kboolint:bO K (.type "int") (.type "bool")=KE MA)
  (kboolstr:bO K (.type "str") (.type "bool")=KE MA)
  (kbooltup:bO K (.type "tuple") (.type "bool")=KE MA)
  (kboollst:bO K (.type "list") (.type "bool")=KE MA)
  (klistnon:bO K (.type "NoneType") (.type "list")=KE MA)
  (klistbl:bO K (.type "bool") (.type "list")=KE MA)
  (klistint:bO K (.type "int") (.type "list")=KE MA)
  (kliststr:bO K (.type "str") (.type "list")=KE MA)
  (klisttup:bO K (.type "tuple") (.type "list")=KE MA)
  (klistlst:bO K (.type "list") (.type "list")=KE LZ)
  (aaHOLDING_SORTS:cH K bG "HOLDING_SORTS"=KE (KE (.ref b)))
  (llHOLDING_SORTS:K.lookup b=KE {.type "tuple",f,.seq #[.str "not" g,.str "either" i,.str "then" j,.str "again" m] o,n})
  (aaTEST_SORTS:cH K bG "TEST_SORTS"=KE (KE (.ref d)))
  (llTEST_SORTS:K.lookup d=KE {.type "tuple",D,.seq #[.str "none" E,.str "all" H,.str "is" I,.str "not" J,.str "either" L,.str "then" N] T,O})
  (aaFIELD_SORTS:cH K bG "FIELD_SORTS"=KE (KE (.ref c)))
  (llFIELD_SORTS:K.lookup c=KE {.type "tuple",q,.seq #[.str "is" r,.str "put" u] Q,A})
  (l1:Af K f1 "nothing" (top 13))
  (l2:Af K f2 "the_same" (top 14))
  (l3:Af K f3 "either_of" (top 15))
  (l4:Af K f4 "where_nothing" (top 19))
  (l5:Af K f5 "letters_in" (top 20))
  (l6:Af K f6 "reached_from" (top 17))
  (l7:Af K f7 "one_then_other" (top 16))
  (l8:Af K f8 "again_and_again" (top 18))
  (l9:Af K f9 "filling" (top 45))
  (DH:Af K f10 "note_ways" (top 41))
  (l11:Af K f11 "behind" (top 44))
  (l12:Af K f12 "either_ways" (top 42))
  (l13:Af K f13 "then_ways" (top 43))
  (l14:Af K f14 "must_value" (top 11))
  (l15:Af K f15 "place_of" (top 10))
  (l16:Af K f16 "is_relation" (top 39))
  (l17:Af K f17 "put_relation" (top 40))
  (l18:Af K f18 "held_in" (top 26))
  (l19:Af K f19 "parts_of" (top 25))
  (l20:Af K f20 "is_test" (top 29))
  (l21:Af K f21 "notes_in" (top 30))
  (l22:Af K f22 "must_test" (top 31))
  (l23:Af K f23 "must_plain" (top 32))
  (l24:Af K f24 "must_part" (top 28))
  (DG:Af K f25 "must_saying" (top 27))
  (GV:Af K f26 "plain_relation" (top 38))
  (BM:Af K f27 "again_row" (top 47))
  (l28:Af K f28 "again_ways" (top 46))
  (l29:Af K f29 "ways_of_part" (top 37))
  (l30:Af K f30 "ways_of" (top 36))
  (l31:Af K f31 "each_longer" (top 9))
  (l32:Af K f32 "letters_of" (top 8))
  (l33:At K f33 "__init__" "Runs.__init__" (j4 (top 34) 0))
  (m33:cH K bG "Runs"=KE (KE (.ref U)))
  (g33:mR K (.ref U) "__getattribute__"=KE (KE (.builtin "type.__getattribute__")))
  (r33:qX K U (.type "type")=LZ)
  (b33:qY K (.ref U) (.type "type") "__init__"=KE (.val (.ref f33)))
  (l34:At K f34 "masks_from" "Runs.masks_from" (j4 (top 34) 6))
  (b34:dD K (.ref e) "masks_from"=KE (KE (.ref f34)))
  (i34:iV K (.ref f34)=LZ)
  (l35:At K f35 "ends_from" "Runs.ends_from" (j4 (top 34) 4))
  (b35:dD K (.ref e) "ends_from"=KE (KE (.ref f35)))
  (i35:iV K (.ref f35)=LZ)
  (l36:At K JN "ends" "Runs.ends" (j4 (top 34) 2))
  (b36:dD K (.ref e) "ends"=KE (KE (.ref JN)))
  (i36:iV K (.ref JN)=LZ)
  (l37:At K f37 "__init__" "Machine.__init__" (j4 (top 35) 0))
  (b37:dD K (.ref e) "__init__"=KE (KE (.ref f37)))
  (i37:iV K (.ref f37)=LZ)
  (l38:Af K f38 "with_put" (top 51))
  (l39:Af K f39 "matches" (top 50))
  (l40:Af K f40 "by_table" (top 49))
  (l41:Af K f41 "deed_for" (top 54))
  (l42:Af K f42 "row_for" (top 53))
  (l43:Af K f43 "wider_row" (top 58))
  (l44:Af K f44 "does_all" (top 59))
  (l45:Af K f45 "with_fewer_rows" (top 56))
  (l46:Af K f46 "with_wider_matches" (top 57))
  (l47:Af K f47 "made_small" (top 55))
  (l48:Af K f48 "table_of" (top 52))
  (l49:Af K f49 "_law_cell" (top 61))
  (l50:Af K f50 "_law_purse" (top 62))
  (l51:Af K f51 "_law_take" (top 63))
  (l52:Af K f52 "_law_speech" (top 64))
  (l53:Af K f53 "_law_letters" (top 65))
  (l54:Af K f54 "_law_lone" (top 66))
  (l55:Af K f55 "_law_joined" (top 68))
  (l56:Af K f56 "_law_grown" (top 67))
  (l57:Af K f57 "_law_saying" (top 69))
  (l58:Af K f58 "_law_union" (top 71))
  (l59:Af K f59 "_law_led" (top 72))
  (l60:Af K f60 "_law_step" (top 70))
  (l61:Af K f61 "_law_fits" (top 73))
  (l62:Af K f62 "_law_made" (top 74))
  (l63:Af K f63 "_law_by" (top 75))
  (l64:Af K f64 "_law_is_part" (top 76))
  (l65:Af K f65 "_law_is_table" (top 77))
  (l66:Af K f66 "_law_turned" (top 80))
  (l67:Af K f67 "_law_same" (top 78))
  (l68:Af K f68 "_law_least" (top 79))
  (l69:Af K f69 "_law_good" (top 81))
  (l70:Af K f70 "law" (top 82)) :
  ∃fd:gO,(∀(s:aH)(v:aE),qJ s fd {[v],[]} [("_law_script",v)])/\∀base:MC,K.In base->base.Ns bG mg->i5 l.prog w K mg base CX0 104 fa fd ["_law_script"] (spP #v[l.prog,w,K] 1 g_law):=by
 have z:=bl_mk X G (by simp only[List.forall_mem_cons,dG,false_implies,implies_true,and_true];show#v[zrange,zabs,zint,zmax,zmin,ztuple,zlist,zlen,zisinstance,zenumerate,zsum,zall,zany,zzip,zreversed,zset,zsorted,zdict,zbool]);have Y:Cls K e:=#v[pgC,hdC,poC,saC];have wX:Kit K "tuple":=#v[ktuplenon,ktuplebl,ktupleint,ktuplestr,ktupletup,ktuplelst];have AZ:Kit K "int":=#v[kintnon,kintbl,kintint,kintstr,kinttup,kintlst];have zW:Kit K "bool":=#v[kboolnon,kboolbl,kboolint,kboolstr,kbooltup,kboollst];have yJ:Kit K "list":=#v[klistnon,klistbl,klistint,kliststr,klisttup,klistlst];obtain⟨_,F1⟩:_:=l1.fd (ps:=ZE) X G;obtain⟨_,F2⟩:_:=l2.fd (ps:=ZE) X G;obtain⟨_,F3⟩:_:=l3.fd (ps:=ZG) X G;obtain⟨_,F4⟩:_:=l4.fd (ps:=ZD) X G;obtain⟨_,F5⟩:_:=l5.fd (ps:=YL) X G;obtain⟨_,F6⟩:_:=l6.fd (ps:=YO) X G;obtain⟨_,F7⟩:_:=l7.fd (ps:=ZS) X G;obtain⟨_,F8⟩:_:=l8.fd (ps:=ZD) X G;obtain⟨_,F9⟩:_:=l9.fd (ps:=YC) X G;obtain⟨_,F10⟩:_:=DH.fd (ps:=ZE) X G;obtain⟨_,F11⟩:_:=l11.fd (ps:=ZS) X G;obtain⟨_,F12⟩:_:=l12.fd (ps:=ZG) X G;obtain⟨_,F13⟩:_:=l13.fd (ps:=ZS) X G;obtain⟨_,F14⟩:_:=l14.fd (ps:=YJ) X G;obtain⟨_,F15⟩:_:=l15.fd (ps:=YR) X G;obtain⟨_,F16⟩:_:=l16.fd (ps:=ZV) X G;obtain⟨_,F17⟩:_:=l17.fd (ps:=ZV) X G;obtain⟨_,F18⟩:_:=l18.fd (ps:=ZX) X G;obtain⟨_,F19⟩:_:=l19.fd (ps:=ZX) X G;obtain⟨_,F20⟩:_:=l20.fd (ps:=ZX) X G;obtain⟨_,F21⟩:_:=l21.fd (ps:=ZX) X G;obtain⟨_,F22⟩:_:=l22.fd (ps:=ZX) X G;obtain⟨_,F23⟩:_:=l23.fd (ps:=ZX) X G;obtain⟨_,F24⟩:_:=l24.fd (ps:=YI) X G;obtain⟨_,F25⟩:_:=DG.fd (ps:=ZJ) X G;obtain⟨_,F26⟩:_:=GV.fd (ps:=YS) X G;obtain⟨_,F27⟩:_:=BM.fd (ps:=YH) X G;obtain⟨_,F28⟩:_:=l28.fd (ps:=YC) X G;obtain⟨_,F29⟩:_:=l29.fd (ps:=ZP) X G;obtain⟨_,F30⟩:_:=l30.fd (ps:=YX) X G;obtain⟨_,F31⟩:_:=l31.fd (ps:=YD) X G;obtain⟨_,F32⟩:_:=l32.fd (ps:=["speech"]) X G;obtain⟨_,F33⟩:_:=l33.cd (ps:=ZF) X G m33 g33 r33 b33;obtain⟨_,F34⟩:_:=l34.md (ps:=ZT) Y b34 i34;obtain⟨_,F35⟩:_:=l35.md (ps:=ZT) Y b35 i35;obtain⟨_,F36⟩:_:=l36.md (ps:=ZC) Y b36 i36;obtain⟨_,F37⟩:_:=l37.kd (ps:=YQ) X G mC mkC b37 i37 kpC;obtain⟨_,F38⟩:_:=l38.fd (ps:=YN) X G;obtain⟨_,F39⟩:_:=l39.fd (ps:=YM) X G;obtain⟨_,F40⟩:_:=l40.fd (ps:=YA) X G;obtain⟨_,F41⟩:_:=l41.fd (ps:=YG) X G;obtain⟨_,F42⟩:_:=l42.fd (ps:=YV) X G;obtain⟨_,F43⟩:_:=l43.fd (ps:=YF) X G;obtain⟨_,F44⟩:_:=l44.fd (ps:=ZW) X G;obtain⟨_,F45⟩:_:=l45.fd (ps:=ZW) X G;obtain⟨_,F46⟩:_:=l46.fd (ps:=ZW) X G;obtain⟨_,F47⟩:_:=l47.fd (ps:=ZW) X G;obtain⟨_,F48⟩:_:=l48.fd (ps:=ZJ) X G;obtain⟨_,F49⟩:_:=l49.fd (ps:=ZA) X G;obtain⟨_,F50⟩:_:=l50.fd (ps:=Y') X G;obtain⟨_,F51⟩:_:=l51.fd (ps:=YY) X G;obtain⟨_,F52⟩:_:=l52.fd (ps:=ZH) X G;obtain⟨_,F53⟩:_:=l53.fd (ps:=ZO) X G;obtain⟨_,F54⟩:_:=l54.fd (ps:=ZR) X G;obtain⟨_,F55⟩:_:=l55.fd (ps:=YK) X G;obtain⟨_,F56⟩:_:=l56.fd (ps:=ZU) X G;obtain⟨_,F57⟩:_:=l57.fd (ps:=ZN) X G;obtain⟨_,F58⟩:_:=l58.fd (ps:=YW) X G;obtain⟨_,F59⟩:_:=l59.fd (ps:=Z') X G;obtain⟨_,F60⟩:_:=l60.fd (ps:=ZY) X G;obtain⟨_,F61⟩:_:=l61.fd (ps:=ZI) X G;obtain⟨_,F62⟩:_:=l62.fd (ps:=ZM) X G;obtain⟨_,F63⟩:_:=l63.fd (ps:=YU) X G;obtain⟨_,F64⟩:_:=l64.fd (ps:=YZ) X G;obtain⟨_,F65⟩:_:=l65.fd (ps:=ZL) X G;obtain⟨_,F66⟩:_:=l66.fd (ps:=ZO) X G;obtain⟨_,F67⟩:_:=l67.fd (ps:=ZQ) X G;obtain⟨_,F68⟩:_:=l68.fd (ps:=ZQ) X G;obtain⟨_,F69⟩:_:=l69.fd (ps:=ZK) X G;obtain⟨fd,F70,bl⟩:_:=l70.law (p:="_law_script") X G JR;show{fd,bl,λbase _ _=>?_};have a:∀{k:Nat}{x:Str}{ps:List Str}{sp:Sp},Fo l.prog w K mg base k x ps sp->Fo l.prog w K mg base k x ps sp:=id;have JS:∀{k:Nat}{C:MB}{x:Str}{ps:List Str}{sp:Sp},Mo l.prog w K mg base k C x ps sp->Mo l.prog w K mg base k C x ps sp:=id;have SKo:∀{k:Nat}{x:Str}{C:MB}{ps:List Str}{sp:Sp},Ko l.prog w K mg base k x C ps sp->Ko l.prog w K mg base k x C ps sp:=id;have SCo:∀{k:Nat}{y x:Str}{ps:List Str}{sp:Sp},Co l.prog w K mg base k y x ps sp->Co l.prog w K mg base k y x ps sp:=id;have wJ:Gc ⟨l.prog,w,K⟩ mg "HOLDING_SORTS" pb:=D3 (ss:=["not","either","then","again"]) X G aaHOLDING_SORTS llHOLDING_SORTS (by change 4<=1000;decide) (.cons {_,rfl} (.cons {_,rfl} (.cons {_,rfl} (.cons {_,rfl} .nil))));have xM:Gc ⟨l.prog,w,K⟩ mg "TEST_SORTS" vg:=D3 (ss:=YT) X G aaTEST_SORTS llTEST_SORTS (by change 6<=1000;decide) (.cons {_,rfl} (.cons {_,rfl} (.cons {_,rfl} (.cons {_,rfl} (.cons {_,rfl} (.cons {_,rfl} .nil))))));have wZ:Gc ⟨l.prog,w,K⟩ mg "FIELD_SORTS" sv:=D3 (ss:=["is","put"]) X G aaFIELD_SORTS llFIELD_SORTS (by change 2<=1000;decide) (.cons {_,rfl} (.cons {_,rfl} .nil));have vH:=a (U4 z F1);have vF:=a (Pw z F2);have vE:=a (N0 z F3);have wK:=a (D4 z F4);have xP:=a (Ju z F5);have wU:=a (E8 z F6);have vA:=a (Cc z wU F7);have vT:=a (Ba z vE vF F8);have wO:=a (U5 z vH F9);have yB:=a (N1 z vH vF F10);have xI:=a (Yw z wO F11);have xB:=a (G9 z vE wO xI F12);have yA:=a (N2 z vA xI F13);have xK:=a (Jv z F14);have vY:=a (Px z xK F15);have xA:=a (Ha z F16);have wV:=a (E9 z F17);have wQ:=a (U6 z wJ F18);have vC:=a (Py z wQ F19);have yT:=a (U7 z xM vC F20);have yM:=a (Pz z vC F21);have xX:=a (N3 z yT F22);have xQ:=a (Jw z yM F23);have xY:=a (N4 z wZ vY xX F24);have vJ:=a (Hb z vC xY F25);have vZ:=a (Ce z vH vF vY xA wV F26);have xZ:=a (N5 z vA vE F27);have xN:=a (Jx z vT xZ F28);have wW:=a (Fb z xB yA xN wK yB vZ F29);have yU:=a (U8 z vC wQ wW F30);have xC:=a (Hc z F31);have vP:=a (Jy z xC F32);have AY:=SCo (N6 z Y vG xO F33);have vU:=JS (Bb z Y vG xO F34);have wA:=JS (Cf z Y vG xP vU F35);have yD:=JS (N7 z wA F36);have yW:=SKo (Fc z vJ vP AY yU F37);have wB:=a (P0 z F38);have yV:=a (U9 z wB F39);have wC:=a (P1 z yV wB F40);have yN:=a (P2 z F41);have yX:=a (Va z yN F42);have yC:=a (N8 z F43);have wD:=a (P3 z wC F44);have vV:=a (Bc z wD F45);have vN:=a (x9 z yC wD F46);have xR:=a (Jz z vN vV F47);have xU:=a (P4 z vJ xQ yW vP yD xR yX F48);have yH:=a (N9 z F49);have vQ:=a (J0 z F50);have uV:=a (Oa z F51);have xD:=a (Hd z vQ uV F52);have wY:=a (Fe z F53);have yE:=a (Ob z uV F54);have vK:=a (He z F55);have xS:=a (J1 z vQ uV vK yE F56);have xE:=a (Hf z xS vK F57);have wN:=a (J2 z F58);have xT:=a (P5 z F59);have wI:=Bd (P:=l.prog) (w:=w) (base:=base) z wN xT F60 100;have yF:=a (Oc z F61);have yG:=a (Od z F62);have yY:=a (Vb z yF yG F63);have vW:=a (Ff z wX AZ zW F64);have wL:=a (D5 z yJ wX vW F65);have xF:=a (Hg z F66);have vO:=a (Oe z yY F67);have xV:=a (J3 z vO F68);have yI:=a (Of z yJ wY wI xU wL vO xV wC F69);show akv z xD yH xE xF yI F70
end O61
namespace PySem.W.Fast
def tw8957035688916101201:=0
def tw9131086341298763767:=0
def tw18268146259789749036:=0
def tw9853645459053685985:=0
def tw16324083985508637909:=0
def tw15928697591206599346:=0
def tw5821502803023536122:=0
def tw7581650014673324561:=0
def tw3069652902492494299:=0
def tw18219334963666671631:=0
def tw12837433438149870213:=0
def tw2980829221730886236:=0
def tw17095655256507357606:=0
def tw10172687755241773551:=0
def tw55679556189633660:=0
def tw11171182353967255121:=0
def tw5305345016623543665:=0
def tw18028851704180889032:=0
def tw14363976672700638589:=0
def tw17754526280317723474:=0
def tw13160548888392935057:=0
def tw11985395552309224261:=0
def tw10256062624541709422:=0
def tw17604465411749108984:=0
def tw10763036413895805820:=0
def tw10517115962279027908:=0
def tw7076435302721725292:=0
def tw9175147166041292928:=0
def tw12389422728635671989:=0
def tw12440700789336777291:=0
def tw1584157289444908425:=0
def tw1385718204466397677:=0
def tw1364381602855408476:=0
def tw13459828314057971703:=0
def tw2892748159122611443:=0
def tw7749501234065197046:=0
def tw16941782633197413952:=0
def tw10216443145451284930:=0
def tw10092053742323510111:=0
def tw12970053263135916731:=0
def tw11027840718288955988:=0
def tw10425171966420489099:=0
def tw2744546712259556241:=0
def tw3431911645899566975:=0
def tw3376699715049815809:=0
def tw16066435196356270624:=0
def tw12137213164505246004:=0
def tw13724207745168473587:=0
def tw8029319758903296765:=0
def tw11864520656659065471:=0
def tw10273716497609649183:=0
def tw1438272027428419453:=0
def tw6384677389606251653:=0
def tw16861268516088522512:=0
def tw5704589305023202007:=0
def tw6733016099991914145:=0
def tw3154048698107385929:=0
def tw11933013742374000491:=0
def tw10504588699249351311:=0
def tw7112101658531782388:=0
def tw13788741358205540462:=0
def tw10322651179491531008:=0
def tw13091895152515979134:=0
def tw12727163688075278086:=0
def tw13661941530102637667:=0
def tw3940034158230139361:=0
def tw5686755445658437865:=0
def tw12308790254714179557:=0
def tw11364161621102734679:=0
def tw9181627966638240645:=0
def tw10852523276798533594:=0
def tw6364161487137959410:=0
def tw6080912039880921890:=0
def tw11480299222975245586:=0
def tw13087316491253815035:=0
def tw12628616367616293877:=0
def tw17192101330713915992:=0
def tw17609745112932028264:=0
def tw2807521315965158360:=0
def tw10494688966586093205:=0
def tw12275288814355728955:=0
def tw12467956570277882030:=0
def tw9433706981392488725:=0
def tw7671963993121518820:=0
def tw12238207037477042037:=0
def tw763366916520059573:=0
def tw1389870869117269525:=0
def tw5893231349464426507:=0
def tw13340711408007450797:=0
def tw325715894671733842:=0
def tw12153016413072109275:=0
def tw12334470897835614468:=0
def tw11312248281079573959:=0
def tw3346380751881735014:=0
def tw2756228774595118005:=0
def tw13934764340726587664:=0
def tw8420478097117965252:=0
def tw2597568527626503528:=0
def tw479082043430342599:=0
def tw9299041955484474997:=0
def tw12654109978966547134:=0
def tw16500726013309554098:=0
def tw8504931049002867453:=0
def tw186536059974033219:=0
def tw17955934070842245324:=0
def tw11918020998500811887:=0
def tw591664948441529771:=0
def tw350389801403404297:=0
def tw10490961187915216427:=0
def tw14980657018098170940:=0
def tw5068713109442733852:=0
def tw17078004739201373881:=0
def tw511312593576942483:=0
def tw8758489077043973365:=0
def tw6675578443049440199:=0
def tw15984552603998325055:=0
def tw15189605759381219077:=0
def tw8972927231486668327:=0
def tw5849691500808414434:=0
def tw3492875984002512738:=0
def tw15085221838784762754:=0
def tw13555503570951255595:=0
def tw1118656525280102808:=0
def tw2119038497252602019:=0
def tw8532257353527083005:=0
def tw13110220659992676739:=0
def tw18289773889485638172:=0
def tw4307218965402833526:=0
def tw842286371802933371:=0
def tw12154699657314203396:=0
def tw13777398499537481813:=0
def tw10564847620296826970:=0
def tw18299192755831679232:=0
def tw3517144736239305732:=0
def tw10789767127789198829:=0
def tw4553105254456858132:=0
def tw1560283499547445312:=0
def tw3173044803495602437:=0
def tw7026633565435204714:=0
def tw15247767108599828971:=0
def tw16974696639495902777:=0
def tw16490068446033657111:=0
def tw3415365913940838801:=0
def tw2060678510082258065:=0
def tw8216017053309398154:=0
def tw14731151248100297897:=0
def tw3830660488326147340:=0
def tw16047480228158131248:=0
def tw4446793883352817781:=0
def tw11690466401470064625:=0
def tw5514415596231654064:=0
def tw10516980908211313021:=0
def tw16976556789652321008:=0
def tw3295362382690128378:=0
def tw9507193705524072307:=0
def tw4176516306294122294:=0
def tw6107767735915026415:=0
def tw13049831058185899710:=0
def tw9223176654560249748:=0
def tw12172188511300228125:=0
def tw12900477974120179638:=0
def tw935951898013113655:=0
def tw2709831283156285181:=0
def tw18197506067997644331:=0
def tw1744574928144761190:=0
def tw16022434397026322529:=0
def tw11513476812040943282:=0
def tw14981607662559769861:=0
def tw2762290559502267434:=0
def tw4466622304888965617:=0
def tw14100041735500757431:=0
def tw15643006526469177654:=0
def tw7413927685329673225:=0
def tw7008509454282529980:=0
def tw13002545168158650230:=0
def tw5140440882937973292:=0
def tw6921463357492288809:=0
def tw5225948635980512785:=0
def tw693330044761352894:=0
def tw5280633064295020289:=0
def tw1556218695826501411:=0
def tw17856023983611411894:=0
def tw2977886275636883125:=0
def tw814073043369567530:=0
def tw11897575410240017506:=0
def tw14927695171740750199:=0
def tw14302219834332719216:=0
def tw18616280367167244:=0
def tw14778251151442707708:=0
def tw1194722654678950902:=0
def tw301025578713700245:=0
def tw4398583608150994603:=0
def tw10632872700574066866:=0
def tw4031693694622465638:=0
def tw18009494637446048335:=0
def tw10797244341686610659:=0
def tw10902058425878661960:=0
def tw7719487697957658627:=0
def tw7511904429511787958:=0
def tw7781303183005435057:=0
def tw10352499605471716626:=0
def tw10293272535215886156:=0
def tw16816709843865168714:=0
def tw7701606998187595452:=0
def tw4360479812015712633:=0
def tw7500604800283601473:=0
def tw13220886979211207329:=0
def tw11257214132872986008:=0
def tw9901384421944405916:=0
def tw8678096388622248467:=0
def tw8507584214627341178:=0
def tw14174501554024063878:=0
def tw14571179680009047460:=0
def tw9879870225117504901:=0
def tw13015283566970393433:=0
def tw7469705199558817852:=0
def tw2692007333325344741:=0
def tw7965438061062019883:=0
def tw10272361981252534564:=0
def tw16317612523327437347:=0
def tw2556307912344331018:=0
def tw171873094504862010:=0
def tw12626159815149672294:=0
def tw13877545204723591402:=0
def tw10344695373460817960:=0
def tw12944078803701344422:=0
def tw13533760871556900266:=0
def tw6984883012198017419:=0
def tw9620608878140845671:=0
def tw7878252073372321374:=0
def tw907266347309072962:=0
def tw20164978496083330:=0
def tw5820066886608421719:=0
def tw16717055417872725908:=0
def tw15550401924508486207:=0
def tw16114509686035490188:=0
def tw17238481224335572766:=0
def tw7411051222452262432:=0
def tw13200033899060318052:=0
def tw5180241875477995874:=0
def tw9594276557074719633:=0
def tw16958473640651231771:=0
def tw16646138020095790983:=0
def tw17250724732925089105:=0
def tw9054296436674204484:=0
def tw5539879997466722761:=0
def tw14288369656760747066:=0
def tw4125164302111546604:=0
def tw10566535397354790176:=0
def tw12660375311203162511:=0
def tw5772441736434300971:=0
def tw7273276463556443909:=0
def tw3546764503652363426:=0
def tw7995190653337376920:=0
def tw17468705645822120395:=0
def tw18088621250564612476:=0
def tw4997613423027295054:=0
def tw3851336387336777367:=0
def tw4678955122663160180:=0
def tw2492845295409836942:=0
def tw16112077572137114945:=0
def tw13780863527853794671:=0
def tw5359251614447041984:=0
def tw15866528550571359841:=0
def tw8357378043076290286:=0
def tw6828888491433743366:=0
def tw12435945325096342466:=0
def tw2510031111322013929:=0
def tw13758993644252290327:=0
def tw3115196360262334831:=0
def tw6538678482771049079:=0
def tw1849208481139166058:=0
def tw5649644218149521934:=0
def tw13376398462610174732:=0
def tw12853545110358551171:=0
def tw2893887007909186347:=0
def tw15321740631331650230:=0
def tw7417322190254604969:=0
def tw17984097275991364273:=0
def tw4047475192287219600:=0
def tw7323608901725511649:=0
def tw16191606579544827331:=0
def tw1467690464456579734:=0
def tw3285645349215346710:=0
def tw10215575268282205793:=0
def tw15258744993222135964:=0
def tw11412972515557805154:=0
def tw7345729342812913759:=0
def tw6666941778427150183:=0
def tw15239088207466748150:=0
def tw15384126037013697660:=0
def tw13322682500229057343:=0
def tw7857824657213262493:=0
def tw7757676578837789990:=0
def tw17395637870919199927:=0
def tw16214298824654171730:=0
def tw14813357982737550477:=0
def tw14466574583363132025:=0
def tw16887820363712396000:=0
def tw10784275816242122007:=0
def tw4159413899036995108:=0
def tw8719361680515629688:=0
def tw14319017337418481234:=0
def tw1331828602664599935:=0
def tw2953246522982188912:=0
def tw7622148904681773764:=0
def tw17720919478128926942:=0
def tw7924852149579310811:=0
def tw10156816843836675922:=0
def tw16554487994601195625:=0
def tw13231535834770707030:=0
def tw16943464039385145021:=0
def tw8819911874405597856:=0
def tw4582077117008413418:=0
def tw17854900072560746516:=0
def tw14332094190167315040:=0
def tw17415605369473492519:=0
def tw1215995650493707492:=0
def tw17950473179592186590:=0
def tw14225992196064869665:=0
def tw17610939469879707361:=0
def tw11584662332935196256:=0
def tw10247168442460058876:=0
def tw13078130909247933620:=0
def tw11106748266024684929:=0
def tw12262879175762369004:=0
def tw17019203142668173255:=0
def tw16904560716160889657:=0
def tw826756708585172713:=0
def tw11518826262342488760:=0
def tw3630094143114880776:=0
def tw4392577113034030011:=0
def tw5751681370746745473:=0
def tw11448207424430318351:=0
def tw13860000519137555657:=0
def tw10822554078056177634:=0
def tw10884428185320466403:=0
def tw4147088290957724699:=0
def tw17766482694969466657:=0
def tw1120980324217718901:=0
def tw9676356435330748011:=0
def tw15889894030692055060:=0
def tw6124367568389165759:=0
def tw10397543672768847915:=0
def tw14088356210531526902:=0
def tw12613260598791482804:=0
def tw11265957332282394619:=0
def tw6450658813933001340:=0
def tw879377014379074410:=0
def tw14820251487640669891:=0
def tw6423693852272063971:=0
def tw1894353725712431599:=0
def tw9611752459560270911:=0
def tw15466206222625877173:=0
def tw5022625495480514898:=0
def tw6271381526920641914:=0
def tw18113211654614975804:=0
def tw15102437859129357910:=0
def tw4351957976608214426:=0
def tw4406053241362021820:=0
def tw14908585227039126777:=0
def tw7767659743114535424:=0
def tw89445046435002545:=0
def tw2281681780149638779:=0
def tw16334225092445687289:=0
def tw9699848021232631287:=0
def tw768760792161951917:=0
def tw1595956044739276304:=0
def tw8663738867520542181:=0
def tw15473326838383712060:=0
def tw6859687498123982247:=0
def tw17768252146100413680:=0
end PySem.W.Fast
open PySem PySem.W PyProof.Rows
set_option maxRecDepth 100000 in
set_option maxHeartbeats 0 in
theorem PySem.Challenge.cw_switchsay_k61_tables_holds : PySem.Challenge.rw_switchsay_k61_tables.Holds := by
  w_on;o_law;k_head;(case hw=>w_witness2)
  k_fill
  refine VL.law_walk (l:=PySem.Challenge.rw_switchsay_k61_tables) (n:=63) (k:=104) (g:=PB.g_law) (x:="_law_script") rfl rfl (fun w h Y=>PySem.W.kIn_of Y) (by decide) ⟨rfl,by decide,by decide⟩ O61.law_told ?F
  case F=>
    intro w mg fa h KX G hmg;refine' O61.all_mk KX G hmg ?zrange ?zabs ?zint ?zmax ?zmin ?ztuple ?zlist ?zlen ?zisinstance ?zenumerate ?zsum ?zall ?zany ?zzip ?zreversed ?zset ?zsorted ?zdict ?zbool ?mC ?pgC ?hdC ?poC ?saC ?mkC ?kpC ?na_letters ?na_ways ?ktuplenon ?ktuplebl ?ktupleint ?ktuplestr ?ktupletup ?ktuplelst ?kintnon ?kintbl ?kintint ?kintstr ?kinttup ?kintlst ?kboolnon ?kboolbl ?kboolint ?kboolstr ?kbooltup ?kboollst ?klistnon ?klistbl ?klistint ?kliststr ?klisttup ?klistlst ?aaHOLDING_SORTS ?llHOLDING_SORTS ?aaTEST_SORTS ?llTEST_SORTS ?aaFIELD_SORTS ?llFIELD_SORTS ?l1 ?l2 ?l3 ?l4 ?l5 ?l6 ?l7 ?l8 ?l9 ?l10 ?l11 ?l12 ?l13 ?l14 ?l15 ?l16 ?l17 ?l18 ?l19 ?l20 ?l21 ?l22 ?l23 ?l24 ?l25 ?l26 ?l27 ?l28 ?l29 ?l30 ?l31 ?l32 ?l33 ?m33 ?g33 ?r33 ?b33 ?l34 ?b34 ?i34 ?l35 ?b35 ?i35 ?l36 ?b36 ?i36 ?l37 ?b37 ?i37 ?l38 ?l39 ?l40 ?l41 ?l42 ?l43 ?l44 ?l45 ?l46 ?l47 ?l48 ?l49 ?l50 ?l51 ?l52 ?l53 ?l54 ?l55 ?l56 ?l57 ?l58 ?l59 ?l60 ?l61 ?l62 ?l63 ?l64 ?l65 ?l66 ?l67 ?l68 ?l69 ?l70
    case zrange|zabs|zint|zmax|zmin|ztuple|zlist|zlen|zisinstance|zenumerate|zsum|zall|zany|zzip|zreversed|zset|zsorted|zdict|zbool|mC|pgC|hdC|poC|saC|mkC|kpC|na_letters|na_ways|aaHOLDING_SORTS|llHOLDING_SORTS|aaTEST_SORTS|llTEST_SORTS|aaFIELD_SORTS|llFIELD_SORTS|m33|g33|r33|b33|b34|i34|b35|i35|b36|i36|b37|i37=>k_is
    case ktuplenon|ktuplebl|ktupleint|ktuplestr|ktupletup|ktuplelst|kintnon|kintbl|kintint|kintstr|kinttup|kintlst|kboolnon|kboolbl|kboolint|kboolstr|kbooltup|kboollst|klistnon|klistbl|klistint|kliststr|klisttup|klistlst=>kit_is
    case l1|l2|l3|l4|l5|l6|l7|l8|l9|l10|l11|l12|l13|l14|l15|l16|l17|l18|l19|l20|l21|l22|l23|l24|l25|l26|l27|l28|l29|l30|l31|l32|l38|l39|l40|l41|l42|l43|l44|l45|l46|l47|l48|l49|l50|l51|l52|l53|l54|l55|l56|l57|l58|l59|l60|l61|l62|l63|l64|l65|l66|l67|l68|l69|l70=>refine' VL.af_mk ?a ?l ?c ?k;(case a=>k_is);(case l=>k_is);(case c=>k_is);(case k=>k_is)
    case l33|l34|l35|l36|l37=>refine' VL.at_mk ?l ?c ?k;(case l=>k_is);(case c=>k_is);(case k=>k_is)
