import PyProof.Rows.All
import Wide.All
import OpenK.AllK
import Wide.FinOn
import PySem.Challenge.RW_switchsay_k74_tables_of_nets
set_option compiler.extract_closed false
set_option bootstrap.genMatcherCode false
local macro_rules
 | `(‹$x›)=>`($(x).heap.objs.size)
local macro_rules
 | `(tactic|show $x)=>`(tactic|refine $x)
local macro_rules
 | `({$x:term,$y,*})=>`(⟨$x,$y,*⟩)
local macro_rules
 | `(#v[$x,*])=>`(⟨$x,*⟩)
local macro_rules
 | `(())=>`(by lia)
local macro_rules
 | `(∅)=>`(by simp)
local macro_rules
 | `(⋯)=>`(by decide +kernel)
set_option hygiene false in
local macro_rules
 | `(tactic|exists $h)=>`(tactic|(refine ⟨rfl,?_⟩;refine sfN (($h _).trans rfl) ?_))
set_option hygiene false in
local macro_rules
 | `(tactic|exists $h,rfl)=>`(tactic|(refine ⟨rfl,?_⟩;refine sfY (($h _).trans rfl) ?_))
open Option renaming some->KE,none->LX
open Bool renaming true->LY,false->LZ
open PySem renaming Addr->MA,Heap->MB,Expr->MC,Stmt->MD
abbrev ME:=@if_pos
abbrev MF:=@if_neg
abbrev MG:=@decide_eq_false
abbrev MH:=@decide_eq_true
abbrev MI:=@absurd
abbrev MK:=@congrArg
abbrev ZZ:List PySem.Str:=["range","abs","int","max","min","tuple","list","len","isinstance","enumerate","sum","all","any","zip","reversed","set","sorted","dict","bool"]
abbrev ZY:List PySem.Str:=["_law_speech_here","_law_letters_here","_law_saying_here"]
abbrev ZX:List PySem.Str:=["saying"]
abbrev ZW:List PySem.Str:=["table","wanted"]
abbrev ZV:List PySem.Str:=["letters","place","value"]
abbrev ZU:List PySem.Str:=["_law_row","_law_cell_here","_law_speech_here","_law_most"]
abbrev ZT:List PySem.Str:=["self","rooms","letter"]
abbrev ZS:List PySem.Str:=["first","second"]
abbrev ZR:List PySem.Str:=["_law_sort","_law_purse_here","_law_speech_here"]
abbrev ZQ:List PySem.Str:=["_law_table","_law_due"]
abbrev ZP:List PySem.Str:=["speech","letters","part","inner"]
abbrev ZO:List PySem.Str:=["_law_cells","_law_speech_here","_law_most"]
abbrev ZN:List PySem.Str:=["speech","saying"]
abbrev ZM:List PySem.Str:=["_law_cell_here","_law_least_here"]
abbrev ZL:List PySem.Str:=["one","other"]
abbrev ZK:List PySem.Str:=["self","letters","ways"]
abbrev ZJ:List PySem.Str:=["size"]
abbrev ZI:List PySem.Str:=["relation"]
abbrev ZH:List PySem.Str:=["self","room","letter"]
abbrev ZG:List PySem.Str:=["_law_script","_law_k"]
abbrev ZF:List PySem.Str:=["_law_step_here","_law_letter"]
abbrev ZE:List PySem.Str:=["_law_purse_here","_law_many"]
abbrev ZD:List PySem.Str:=["speech","letters","saying"]
abbrev ZC:List PySem.Str:=["_law_step_here","_law_row"]
abbrev ZA:List PySem.Str:=["letter","ends"]
abbrev Z':List PySem.Str:=["_law_table","_law_letter"]
abbrev YZ:List PySem.Str:=["none","all","is","not","either","then"]
abbrev YY:List PySem.Str:=["speech","letters","part"]
abbrev YX:List PySem.Str:=["speech","field","value"]
abbrev YW:List PySem.Str:=["self","speech","saying"]
abbrev YV:List PySem.Str:=["mask","relation"]
abbrev YU:List PySem.Str:=["letter","values"]
abbrev YT:List PySem.Str:=["values","letter"]
abbrev YS:List PySem.Str:=["_law_script","_law_at"]
abbrev YR:List PySem.Str:=["letters","mask"]
abbrev YQ:List PySem.Str:=["_law_row","_law_word"]
abbrev YO:List PySem.Str:=["count","value"]
abbrev YN:List PySem.Str:=["speech","part"]
abbrev YM:List PySem.Str:=["row","anew","start"]
abbrev YL:List PySem.Str:=["letter","end"]
abbrev YK:List PySem.Str:=["row","field"]
abbrev YJ:List PySem.Str:=["_law_speech_here"]
abbrev YI:List PySem.Str:=["letter"]
abbrev YH:List PySem.Str:=["_law_script"]
abbrev YG:List PySem.Str:=["letters","count"]
abbrev YF:List PySem.Str:=["ways"]
abbrev YE:List PySem.Str:=["letters","ways"]
abbrev YD:List PySem.Str:=["table","letter"]
abbrev YC:List PySem.Str:=["_law_cell_here"]
local macro_rules
  | `(tactic| obtain $p:rcasesPatMed := $t) => `(tactic| (refine Classical.byContradiction fun hG_ => ?_; obtain $p:rcasesPatMed : _ := $t; all_goals refine hG_ ?_))
set_option Elab.async false
set_option autoImplicit true
set_option relaxedAutoImplicit true
set_option linter.all false
set_option maxRecDepth 100000
open PySem renaming wpAny_bind->aA,Value->aE,Shared->aK,wpAny->aM,starEach->aP,Program->aV,model->aY,World->bC,mainGlobals->bI,intKind->cF,Around->cG,IsTupleKey->cO,wpAny_call_entry->cP,wpAny_callSpecial?_slot->cX,wpAny_newObj_type->cY,wpAny_holding->dB,wpAny_field->dF,cLine->dP,backTo->dU,bootBuiltins->dX,wpAny_pyIter_list->eA,binaryOp->eC,compareOp->eP,wpAny_setField_rec->eR,SetTable->eX,wpAny_seqItems->fO,wpAny_pyIter_tuple->fR,wpAny_setState_of->fY,FuncData->gB,sysModules->gD,pyNext->gU,attributeBase->hX,wpAny_isInstance->iB,wpAny_Call_Name_kw->iC,sizeLine_eq->iG,foldedSetIterable->iK,Builtin->iP,wpAny_forIn_list->iQ,wpAny_mono->iR,rawInt->iU,wpAny_passesOwn->iZ,wpAny_specialOf->jA,wpAny_attempt->jH,assignEach->jK,call_meets->jL,wpAny_setField->jP,mem_of_lookup->jV,wpAny_getItem_str_slice->jY,holding->jZ,swapsWith->kA,atKey->kF,codeAny_builtin->kG,keywordEach->kN,wpAny_truthy_bool->kR,firstArgMember->kW,wpAny_askSetting->lB,IsPair->lJ,codeAny->lM,sliceBounds->lN,relabel->lO,assign->lR,codeAny_mono->lU,wpAny_typeOf->mB,wpAny_eqBool_tuple->mD,Scope->mH,getItem->mJ,wpAny_rule->mL,IsEnum->nH,backToKw->nL,Keyword->nR,isSubtype_tuple_tuple->nT,wpAny_execs_nil->nY,letOwnedTupleGo->nZ,IsPart->oB,PlainAttrs->oC,post_val_or_str->oI,field->oJ,wpAny_updateSeq_pair->oP,wpAny_setEntries_of->oV,standAt->oX,bindArgs->oZ,callerA->pB,wpAny_fieldsOf->pC,isSubtype_stop->pD,IsZip->pG,getMethod->pK,wpAny_tupleItemsOf->pM,tupleKind_room_in1->pO,wpAny_standAt->pQ,behindInMarks->pR,wpAny_newList->pU,wpAny_onRaise->pV,wpAny_sequenceKey->pZ,ofAClassStatement->qD,wpAny_pyIter_slot->qE,wpAny_dictEntries->qH,BindsTo->qJ,valueAt->qK,NameKind->qL,noFill_tuple_add->qM,preSum->qQ,tupleKind->qU,eqIsQuiet->qZ,wpAny_dictEpoch->rD,IsRangeIter->rE,wpAny_of_eq->rJ,wpAny_letGo->rK,isSubtype_type->rM,wpAny_newTuple->rO,entryOfKey->rQ,GenState->rR,bindL->rS,bindC->rT,typeIs_int->rV,ZipApart->rW,swapsWithSole->rX,swappedStores->rY,seq_tuple_add->rZ,evalPart_none->sA,wpAny_handled->sE,Within->sJ,isTrue->sL,PassesOwn->sM,pyIter->sN,concat_meets->sQ,typeOf->sT,tupleKeyHash->sU,pickOrder->sW,putSet_of->sX,IsEnumOut->tG,spliced->tM,seqIndex_of->tU,wpAny_throw->tV,hashByValue->tW,callWith->tY,newTuple->uA,setField->uB,builtinsNs->uC,wpAny_Name->uD,wpAny_call->uE,typeIs_str->uF,call->uI,closureFor->uJ,newExc->uK,isInstance->uM,setsByText->uO,setItem->uP,storedH->uR
open List renaming length_map->aB,getElem?_eq_getElem->aC,length_append->aH,mem_cons_of_mem->aI,getElem?_map->aL,mem_cons_self->aN,size_toArray->aO,mem_of_getElem?->aR,replicate->aT,mem_cons->aU,mem_singleton->aZ,length_cons->bA,map_cons->bB,map_append->bE,range->bG,nil_append->bH,getElem?_eq_some_iff->bJ,getElem?_set_ne->bM,length_take->bN,mem_append_right->bQ,length_range->bS,getElem?_append_left->bT,getElem?_eq_none->bU,append_nil->bY,length_replicate->cA,getElem?_range->cB,getElem?_append_right->cH,getD_eq_getElem?_getD->cI,length_singleton->cK,getElem?_set_self->cM,mem_append->cS,take_add_one->cU,take_length->cW,length_drop->dC,append_assoc->dD,mem_map->dG,not_mem_nil->dH,find?_cons->dI,getElem?_replicate->dJ,mem_range->dN,map_map->dO,mem_append_left->dS,length_set->dY,drop_eq_getElem_cons->dZ,nodup_cons->eJ,idxOf_lt_length_iff->eW,ext_getElem?->eZ,replicate_succ->fK,nodup_nil->fP,toArray->fQ,filterMap_cons->fZ,getElem?_of_mem->gM,eraseIdx_cons_succ->gN,length_reverse->gQ,map_nil->gW,take_of_length_le->gY,pairwise_cons->iD,set_cons_succ->iE,mem_filter->iI,flatten_cons->iM,length_eq_zero_iff->iO,getElem_idxOf->iW,map_inj_right->iY,take_append_drop->jB,eq_nil_or_concat->jC,concat_eq_append->jD,any_cons->jG,reverse_cons->jI,getElem_toArray->jM,set_eq_take_append_cons_drop->jO,getElem_mem->jS,reverse_nil->jU,range_succ->kD,lookup->kM,drop_eq_nil_of_le->kQ,foldl_append->kS,mem_iff_getElem?->kX,all_eq_true->lC,getElem?_zipIdx->lG,map_drop->lH,map_congr_left->lP,getElem?_take_of_lt->lY,drop_zero->mM,pairwise_singleton->mS,getElem?_inj->mZ,map_take->nJ,any_toArray->nO,filterMap_append->nS,getElem?_zipWith->nU,length_filter_le->nV,foldl_cons->oE,mem_of_mem_take->oM,getElem?_mapIdx->oR,length_zip->oS,mem_map_of_mem->oW,map_id->pI,zip_cons_cons->pN,getElem?_drop->pP,flatMap_cons->qF,lookup_cons->qO,zipWith->qR,of_mem_zip->qW,all_cons->sD,all_map->tF,length->tT,foldl->uH
open PySem.W renaming Frag->aF,nsIn->cJ,findIn->dE,kitOne->eI,kia_one->eV,keepIn->fM,fnOf->fU,emptyDict->fX,kas_rev->iF,instObj->iH,isFn->iV,kas_sort->jT,kas_desc->kP,kas_place->kY,plainGet->kZ,mg_of->lK,callWith_K->lV,codeIn->mI,kas_asc->mQ,hasDictIn->mV,specialIn->mW,OpenLaw->nE,makesIn->oA,kas_descPart->oO,plainGet_of->oT,lookIn->oY,methodObj->pW,plainOver->pX,kitx_list->pY,takerIn->qV,readsIn->qX,findCls->qY,kas_bin->rN,kas_rev_size->sY,kas_tail3->sZ,kas_count->tD
open PySem.Heap renaming get?_push_of_some->aG,get?_push_size->aW,lt_size->aX,SameBut->eB,size_push->eU,get?_update_self->gG,ExtBut->kO,IsTuple->oQ,IsList->pH
open Nat renaming le_refl->aJ,ne_of_lt->bK,le_trans->bL,lt_of_lt_of_le->bO,zero_lt_one->cE,zero_le->cT,ne_of_gt->fE,zero_add->fH,lt_succ_self->fJ,lt_irrefl->fS,lt_trans->gJ,testBit_succ->gL,le_of_lt->gR,not_lt_zero->iJ,mod_lt->kI,testBit_and->kK,eq_of_testBit_eq->lF,pow_succ->mE,min_self->mF,le_succ_of_le->nA,le_of_not_lt->nM,le_add_right->nN,succ_lt_succ->nP,add_comm->oF,mul_comm->oG,two_pow_pos->oK,add_le_add->pE,add_assoc->pS,lt_of_succ_lt->qB,lt_succ_of_lt->qC,min_le_right->qN,succ_ne_zero->qS,min_eq_left->rB,le_succ->rH,mul_assoc->sI,sub_self->tH
open Bool renaming false_ne_true->aQ,false_eq_true->bP,and_eq_true->cQ,not_true->iA,eq_iff_iff->kB,or_eq_true->lQ,and_false->mK,and_true->nK,eq_false_iff->qG,and_self->sF
open Or renaming inl->aS,inr->fA
open PySem.PassesOwn renaming never->bF
open Array renaming getElem?_toList->bR,getElem?_eq_getElem->bW,getD_eq_getD_getElem?->cN,length_toList->cV,getElem?_eq_some_iff->fV,forIn_toList->kE,getElem?_eq_none_iff->lI,replicate->rA
open Int renaming toNat_natCast->bV,natCast_nonneg->lS,one_mul->rL,ediv_one->sR,le_trans->tJ
open Option.some renaming inj->bX
open PySem.Value renaming ref->bZ,none->eF,isInt->fW,int->jN,type->mG,bool->qI,str->qT,float->tR
open PySem.Str renaming ofString->cZ
open PyProof.Rows renaming slot_tuple_getitem->dA,callWith_type1->eY,seqObj->fB,callWith_builtin1->kC,envOfC->lW,subscriptTail_builtinR->nD,units_in1->nG,AllBare->nQ,entry_tuple_getitem->oU,slicePart_none->pA,mirror_perm->pF,args_tuple_getitem->pL,subscriptTail->sC,listUpdate_at->sG,IsTup->tK,IntsAre->tQ,seqEpoch_at->tX,bubble->uN
open PySem.F renaming plainAttrs_list->dM,slot_list_index->iN,args_tuple_add_2->lZ,entry_tuple_add->mR,type_list_index->mU,slot_tuple_add->nB,slot_list_pop->nW,type_list_pop->nX
open PySem.Builtin.SmallTypes renaming nextOf->dQ,ownedTupleIsFree->eK,ownedTupleHandOut->gK
open Option renaming map_eq_some_iff->dR,isSome_map->gO,isSome_iff_exists->lX,map->oN,map_some->rC
open PySem.Builtin renaming bitOr->dW,bitAnd->eG,bitXor->jQ,bitNot->rP
open PySem.Heap.SameBut renaming update->eM,refl->qA
open PySem.Builtin.Slice renaming slicePlaces->eQ,sliceAdjust->gE,sliceApplied->jE
open PySem.Obj renaming mapSeq->fF,data_mapFields->fG,isFreed_of_fields->kU,putSet->lE,cls_mapFields->mY,mapFields->sH
open PySem.Builtin.Tuple renaming tupleExact->fN,tupleHashOf->gF,tupleItemsOf->jF
open PySem.Builtin.List renaming listTooLong->gH
open PySem.Txt renaming slice->gP,slice_le->qP
open False renaming elim->gZ
open True renaming intro->hV
open PySem.Shared renaming heap->iS
open PyProof.Rows.F renaming plain_set_update_loop->iX
open List.Pairwise renaming nil->jJ
open PySem.Heap.IsList renaming push->jR
open PySem.Builtin.Int renaming intBits->jW
open PySem.Builtin.Range renaming rangeSize->jX
open PySem.SetTable renaming sizeAbove->kJ,grown->mP
open PySem.Around renaming under_plainId->lA,under->sO
open PySem.Calls renaming spliced_cons->lT,spliced_nil->mX
open List.Perm renaming refl->mO
open List.cons renaming inj->nI
open ForInStep renaming yield->oH
open PySem.Data renaming cell->pJ,fields->rF,seq->uX
open PySem.Code renaming isFrame->sP
open PyProof.Rows.IsTup renaming new->sS
open PySem.pickOrder renaming go->sV
open PySem.SeqAt renaming EqAt->uG
open PySem.Walks renaming list->uL
open Iff renaming rfl->uQ
namespace L2
open PySem PySem.Spec PyProof.Rows
abbrev Key:=Sum Int Str
def B1:Key->aE->Bool
 | .inl k,v=>fW k v
 | .inr x,v=>Value.isStrOf x v
def keyH (w:bC):Key->Int
 | .inl k=>hashInt k
 | .inr x=>hashStr w x
theorem g9:∀{k v},B1 k v=LY->(∃i t,k=Sum.inl i/\v=jN i t)\/(∃x t,k=Sum.inr x/\v=qT x t)
 | .inl i,v,h=>by
  obtain⟨t,e⟩:=Value.isInt_shape (k:=i) (v:=v) h;show .inl #v[i,t,rfl,e]
 | .inr x,v,h=>by
  obtain⟨t,e⟩:=Value.isStrOf_shape (x:=x) (v:=v) h;show .inr #v[x,t,rfl,e]
def Wg (i:Int)(t:Tok):B1 (.inl i) (.int i t)=LY:=by simp[B1,fW]
def Wh (x:Str)(t:Tok):B1 (.inr x) (.str x t)=LY:=by simp[B1,Value.isStrOf]
def aiq (a b:Int):decide ((Sum.inl a:Key)=Sum.inl b)=(a == b):=by
 by_cases e:a=b
 ·subst e;simp
 ·have h:¬(Sum.inl a:Key)=Sum.inl b:=λq=>e (Sum.inl.inj q);rw[MG h];show(beq_eq_false_iff_ne.mpr e).symm
def air (a b:Str):decide ((Sum.inr a:Key)=Sum.inr b)=decide (a=b):=by
 by_cases e:a=b
 ·subst e;simp
 ·have h:¬(Sum.inr a:Key)=Sum.inr b:=λq=>e (Sum.inr.inj q);rw[MG h,MG e]
def ais (a:Int)(b:Str):decide ((Sum.inl a:Key)=Sum.inr b)=LZ:=MG (λq=>nomatch q)
def ait (a:Str)(b:Int):decide ((Sum.inr a:Key)=Sum.inl b)=LZ:=MG (λq=>nomatch q)
def ie (prog:aV)(w:bC):PySem.KeyKind prog w Key where
 is:=B1
 hash:=keyH w
 inj:=λv a b ha hb=>by
  rcases g9 ha with⟨i,t,rfl,rfl⟩ | ⟨x,t,rfl,rfl⟩
  ·rcases g9 hb with⟨j,u,rfl,e⟩ | ⟨y,u,rfl,e⟩
   ·injection e with e1 _;rw[e1]
   ·show nomatch e
  ·rcases g9 hb with⟨j,u,rfl,e⟩ | ⟨y,u,rfl,e⟩
   ·show nomatch e
   ·injection e with e1 _;rw[e1]
 byValue:=λk v h=>by
  rcases g9 h with⟨i,t,rfl,rfl⟩ | ⟨x,t,rfl,rfl⟩<;>rfl
 pyHash:=λhv h=>by
  rcases g9 hv with⟨i,t,rfl,rfl⟩ | ⟨x,t,rfl,rfl⟩
  ·show wpAny_pyHash_int h
  ·show wpAny_pyHash_str h
 eqBool:=λhu hv h=>by
  rcases g9 hu with⟨i,t,rfl,rfl⟩ | ⟨x,t,rfl,rfl⟩
  ·rcases g9 hv with⟨j,u,rfl,rfl⟩ | ⟨y,u,rfl,rfl⟩
   ·rw[aiq]at h;show wpAny_eqBool_int h
   ·rw[ais]at h;show SeqAt.EqAt.int_str i t y u _ _ _ _ h
  ·rcases g9 hv with⟨j,u,rfl,rfl⟩ | ⟨y,u,rfl,rfl⟩
   ·rw[ait]at h;show SeqAt.EqAt.str_int x t j u _ _ _ _ h
   ·rw[air]at h;show wpAny_eqBool_str h
 «strs»:=λk x t v h=>by
  rcases g9 h with⟨i,u,rfl,e⟩ | ⟨y,u,rfl,e⟩
  ·show nomatch e
  ·injection e with e1 _;subst e1;cases v<;>rfl
def O4 (prog:aV)(w:bC)(i:Int)(t:Tok):(ie prog w).is (.inl i) (.int i t)=LY:=Wg i t
def O5 (prog:aV)(w:bC)(x:Str)(t:Tok):(ie prog w).is (.inr x) (.str x t)=LY:=Wh x t
inductive V where
 |non | bl (b:Bool) | int (i:Int) | str (x:Str) | byt (b:Array UInt8) | flt (b:UInt64) | ref (a:MA) | ty (n:String)
 deriving DecidableEq
def RelV:V->aE->Prop
 | .non,u=>u=eF
 | .bl b,u=>u=qI b
 | .int i,u=>∃t,u=jN i t
 | .str x,u=>∃t,u=qT x t
 | .byt b,u=>∃t,u=Value.bytes b t
 | .flt b,u=>∃t,u=tR b t
 | .ref a,u=>u=bZ a
 | .ty n,u=>u=mG n
abbrev Vals:List V->List aE->Prop:=Paired RelV
theorem Vals.length {xs:List V}{us:List aE}(r:Vals xs us):xs.length=us.length:=Paired.length r
theorem Vals.get:∀{xs:List V}{us:List aE}{i:Nat}{x:V},Vals xs us->xs[i]?=KE x->∃u,us[i]?=KE u/\RelV x u
 |_,_,_,_,.nil,e=>by simp at e
 |_,_,0,_,.cons r _,e=>by simp at e;subst e;show{_,rfl,r}
 |_,_,i+1,x,.cons _ t,e=>by
  obtain⟨u,a,b⟩:=Vals.get (i:=i) (x:=x) t (by simpa using e);show{u,by simpa using a,b}
theorem Vals.set (r:RelV x u):∀{xs us} i,Vals xs us->Vals (xs.set i x) (us.set i u)
 |_,_,_,.nil=>.nil
 |_,_,0,.cons _ t=>.cons r t
 |_,_,i+1,.cons q t=>.cons q (Vals.set r i t)
theorem Vals.append:∀{xs ys:List V}{us a:List aE},Vals xs us->Vals ys a->Vals (xs++ys) (us++a)
 |_,_,_,_,.nil,s=>s
 |_,_,_,_,.cons r t,s=>.cons r (Vals.append t s)
theorem Vals.take:∀{xs us} n,Vals xs us->Vals (xs.take n) (us.take n)
 |_,_,0,_=>.nil
 |_,_,_+1,.nil=>.nil
 |_,_,n+1,.cons r t=>.cons r (Vals.take n t)
theorem Vals.drop:∀{xs us} n,Vals xs us->Vals (xs.drop n) (us.drop n)
 |_,_,0,r=>r
 |_,_,_+1,.nil=>.nil
 |_,_,n+1,.cons _ t=>Vals.drop n t
def RelO:Option V->Option aE->Prop
 |some v,KE u=>RelV v u
 |none,LX=>True
 |_,_=>False
def KV {a:Type}:List (a×V)->List (a×aE)->Prop:=Paired λp q=>p.1=q.1/\RelV p.2 q.2
def kV:Key->V
 | .inl i=>.int i
 | .inr x=>.str x
inductive HO where
 |lst (xs:List V)
 |tup (xs:List V)
 |dK (kvs:List (Key×V)) | dT (kvs:List (List Key×V))
 |set (S:Int->Bool) (n:Nat)
 |ins (C dx:MA) (fs:List (Str×V))
 |own (x:MA)
 |xd (fs:List (Str×V))
 |met (f x:MA)
 |rng (lo hi:Int)
 |frz (o:Obj) (u:HO)
 |tbl (ps:Array aE)
 |ext (φ:MB->Prop)
abbrev Hp:=MA->Option HO
def upd (H:Hp)(a:MA)(o:HO):Hp:=λb=>if b=a then KE o else H b
def bo {H:Hp}{a:MA}{o:HO}:upd H a o a=KE o:=by unfold upd;rw[ME rfl]
def ay {H:Hp}{a b:MA}{o:HO}(h:b≠a):upd H a o b=H b:=by unfold upd;rw[MF h]
def ne_of {H:Hp}{a b:MA}{o u:HO}(h:H a=KE o)(h':H b=KE u)(d:o≠u):a≠b:=by
 intro e;subst e;rw[h]at h';show d (bX h')
def cf {H:Hp}{a b:MA}{o:HO}(h:H a=KE o)(h':H b=LX):a≠b:=by
 intro e;subst e;rw[h]at h';cases h'
section
variable (P:aV)(w:bC)
def ObjOk (H:Hp)(h:MB)(a:MA):HO->Prop
 | .lst xs=>xs.length<=sizeLine/\∃its n,Vals xs its/\h.get? a=KE { cls:=.type "list",data:=.seq its.toArray n }
 | .tup xs=>xs.length<=sizeLine/\∃its:List aE,Vals xs its/\tK h a its.toArray
 | .dK kvs=>kvs.length<=sizeLine/\(a == gD)=LZ/\∃vs,KV kvs vs/\h.DictOf (ie P w) a vs
 | .dT kvs=>kvs.length<=sizeLine/\(a == gD)=LZ/\∃xs:List (List Key×MA×aE),
   Paired (λp q=>p.1=q.1/\H q.2.1=KE (.tup (p.1.map kV))/\RelV p.2 q.2.2) kvs xs/\
   ∃o e ep,h.get? a=KE o/\o.ExactDict/\o.data=.dict e ep/\e.toList=xs.map (rQ (qU (ie P w)))/\(xs.map (·.1)).Nodup
 | .set S n=>h.SetOf (cF P w) a S n
 | .ins C c fs=>H c=KE (.own a)/\fs.length<=1000/\c≠a/\h.get? a=KE (iH C c)/\
   ∃b,h.Ns1 c b/\(∀f,RelO (fs.lookup f) (b f))/\sJ b (fs.map (·.1))
 | .own _=>∃o,h.get? a=KE o
 | .xd fs=>∃b,h.Ns1 a b/\∀f,RelO (fs.lookup f) (b f)
 | .rng lo hi=>∃t u v,h.get? a=KE { cls:=.type "range",data:=.fields #[.int lo t,.int hi u,.int 1 v] }
 | .frz o u=>h.get? a=KE o/\ObjOk H h a u
 | .tbl ps=>h.get? a=KE { cls:=.none,data:=.fields ps }
 | .met f x=>h.get? a=KE (pW (.ref f) (.ref x))
 | .ext d=>d h/\(∃o,h.get? a=KE o)/\∀g i:MB,d g->(∀o,g.get? a=KE o->i.get? a=KE o)->d i
def HOk (H:Hp)(h:MB):Prop:=∀a o,H a=KE o->ObjOk P w H h a o
end
section
variable {P:aV}{w:bC}{H H':Hp}{h h':MB}{a:MA}{o:HO}
theorem ObjOk.lt (x:ObjOk P w H h a o):a < h.objs.size:=by
 cases o with
 |lst xs=>obtain⟨_,_,_,_,e⟩:=x;show aX e
 |tup xs=>obtain⟨_,_,_,p⟩:=x;show p.lt
 |dK kvs=>obtain⟨_,_,_,_,o,_,_,e,_⟩:=x;show aX e
 |dT kvs=>obtain⟨_,_,_,_,o,_,_,e,_⟩:=x;show aX e
 |set S n=>obtain⟨o,_,_,_,e,_⟩:=x;show aX e
 |ins C b fs=>obtain⟨_,_,_,e,_⟩:=x;show aX e
 |own y=>obtain⟨_,e⟩:=x;show aX e
 |xd fs=>obtain⟨_,⟨_,_,_,e,_⟩,_⟩:=x;show aX e
 |rng lo hi=>obtain⟨_,_,_,e⟩:=x;show aX e
 |frz c u=>obtain⟨e,_⟩:=x;show aX e
 |tbl ps=>show aX (show h.get? a=KE _ from x)
 |met f y=>show aX (show h.get? a=KE _ from x)
 |ext d=>obtain⟨_,⟨_,e⟩,_⟩:=x;show aX e
theorem Paired.mapP:∀{l₁ c},Paired F l₁ c->(∀a b,F a b->G a b)->Paired G l₁ c
 |_,_,.nil,_=>.nil
 |_,_,.cons r t,f=>.cons (f _ _ r) (Paired.mapP t f)
def ObjOk.stay (x:ObjOk P w H h a o)(k:∀b u,(b=a\/H b=KE (.own a))->h.get? b=KE u->h'.get? b=KE u)
  (m:∀b,H b=KE (.own a)->H' b=KE (.own a)) (s:∀b xs,H b=KE (.tup xs)->H' b=KE (.tup xs)):ObjOk P w H' h' a o:=by
 induction o with
 |lst xs=>obtain⟨z,its,n,r,e⟩:=x;show{z,its,n,r,k _ _ (.inl rfl) e}
 |tup xs=>obtain⟨z,its,r,g,e,c⟩:=x;show{z,its,r,g,k _ _ (.inl rfl) e,c}
 |dK kvs=>obtain⟨z,y,vs,r,g,i,ep,e,c⟩:=x;show{z,y,vs,r,g,i,ep,k _ _ (.inl rfl) e,c}
 |dT kvs=>
  obtain⟨z,y,xs,r,g,i,ep,e,c⟩:=x;show{z,y,xs,Paired.mapP r λp q z=>{z.1,s _ _ z.2.1,z.2.2},g,i,ep,k _ _ (.inl rfl) e,c}
 |set S n=>obtain⟨g,i,ep,t,e,c⟩:=x;show{g,i,ep,t,k _ _ (.inl rfl) e,c}
 |ins C E fs=>
  obtain⟨d,z,ne,e,j,⟨l,i,ep,A,c⟩,r⟩:=x;show{m _ d,z,ne,k _ _ (.inl rfl) e,j,{l,i,ep,k _ _ (.inr d) A,c},r}
 |own y=>obtain⟨g,e⟩:=x;show{g,k _ _ (.inl rfl) e}
 |xd fs=>obtain⟨j,⟨l,i,ep,e,c⟩,r⟩:=x;show{j,{l,i,ep,k _ _ (.inl rfl) e,c},r}
 |rng lo hi=>obtain⟨t,u,v,e⟩:=x;show{t,u,v,k _ _ (.inl rfl) e}
 |frz g u D=>obtain⟨e,q⟩:=x;show{k _ _ (.inl rfl) e,D q}
 |tbl ps=>
  have e:h.get? a=KE { cls:=.none,data:=.fields ps }:=x;change h'.get? a=KE { cls:=.none,data:=.fields ps };show k a _ (.inl rfl) e
 |met f y=>
  have e:h.get? a=KE (pW (.ref f) (.ref y)):=x;change h'.get? a=KE (pW (.ref f) (.ref y));show k a _ (.inl rfl) e
 |ext G=>obtain⟨p,⟨o,e⟩,st⟩:=x;show{st _ _ p λo q=>k _ _ (.inl rfl) q,{o,k _ _ (.inl rfl) e},st}
theorem HOk.lt (x:HOk P w H h)(e:H a=KE o):a < h.objs.size:=(x a o e).lt
def HOk.fresh (x:HOk P w H h)(e:h.objs.size<=a):H a=LX:=by
 cases q:H a with
 |none=>rfl
 |some u=>show MI (bO (x.lt q) e) (fS _)
def HOk.kept (x:HOk P w H h)(k:∀b u,h.get? b=KE u->h'.get? b=KE u):HOk P w H h':=λa o e=>
 (x a o e).stay (λb u _ q=>k b u q) (λ_ q=>q) λ_ _ q=>q
def HOk.laid (x:HOk P w H h)(k:∀b u,h.get? b=KE u->h'.get? b=KE u)(g:h.objs.size<=a)(new:ObjOk P w (upd H a o) h' a o):HOk P w (upd H a o) h':=λb u e=>by
 have d:=x.fresh g;by_cases f:b=a
 ·subst f;rw[bo]at e;cases e;show new
 ·rw[ay f]at e;show(x b u e).stay (λc v _ q=>k c v q) (λc q=>by rw[ay (cf q d)];show q) λc xs q=>by rw[ay (cf q d)];show q
end
def Rd (H:Hp)(a:MA)(u:HO):Prop:=H a=KE u\/∃o,H a=KE (.frz o u)
def Rd.ok {P:aV}{w:bC}{H:Hp}{h:MB}{a:MA}{u:HO}(r:Rd H a u)(x:HOk P w H h):ObjOk P w H h a u:=by
 rcases r with r | ⟨o,r⟩
 ·show x a u r
 ·obtain⟨_,q⟩:=x a _ r;show q
def Mut:Option HO->Prop
 |some (.lst _)=>True
 |some (.dK _)=>True
 |some (.dT _)=>True
 |some (.set _ _)=>True
 |some (.ins _ _ _)=>True
 |some (.ext _)=>True
 |_=>False
section
variable {P:aV}{w:bC}{H:Hp}{h h':MB}{x e:MA}{o':HO}
def HOk.write (ok:HOk P w H h)(mu:Mut (H x))(g:e=x\/H e=KE (.own x))(k:∀b u,b≠e->h.get? b=KE u->h'.get? b=KE u)(l:∃u,h'.get? e=KE u)
  (new:ObjOk P w (upd H x o') h' x o'):HOk P w (upd H x o') h':=λb u q=>by
 have i:∀c y,H c=KE (.own y)->c≠x:=λc y r z=>(by subst z;rw[r]at mu;show mu);have a:∀c xs,H c=KE (.tup xs)->c≠x:=λc xs r z=>(by subst z;rw[r]at mu;show mu);by_cases d:b=x
 ·subst d;rw[bo]at q;cases q;show new
 ·rw[ay d]at q;by_cases f:b=e
  ·have j:H b=KE (.own x):=by
    rcases g with z | z
    ·show MI (f.trans z) d
    ·rw[f];show z
   rw[q]at j;cases j;obtain⟨v,m⟩:=l;show{v,by rw[f];show m}
  ·show(ok b u q).stay (λc v hc r=>k c v ?_ r) (λc r=>by rw[ay (i c b r)];show r) λc xs r=>(by rw[ay (a c xs r)];show r);rcases hc with rfl | hc
   ·show f
   ·intro n;subst n;rcases g with z | z
    ·show i c b hc z
    ·rw[hc]at z;cases z;show d rfl
end
structure Un (fs ex:List MA)(H H':Hp)(h h':MB):Prop where
 keep:∀b o,h.get? b=KE o->H b=LX->b ∉ fs->b ∉ ex->h'.get? b=KE o
 slot:∀b o,h.get? b=KE o->H b=LX->b∈fs->b ∉ ex->∃sl,h'.get? b=KE { o with slots:=sl }
 free:∀b o,h.get? b=KE o->H b=LX->b ∉ ex->H' b=LX
 there:∀b o,h.get? b=KE o->b ∉ ex->∃o',h'.get? b=KE o'
 tups:∀b xs,H b=KE (.tup xs)->H' b=KE (.tup xs)
 frzs:∀b o u,H b=KE (.frz o u)->H' b=KE (.frz o u)
 tbls:∀b ps,H b=KE (.tbl ps)->∃more,H' b=KE (.tbl (ps++more))
section
variable {fs BL ex ex':List MA}{H H1 H2:Hp}{h h1 h2 h':MB}{a x e:MA}{o:HO}
def Un.any (u:Un fs ex H H1 h h1)(q:h.get? b=KE c)(n:H b=LX)(d:b ∉ ex):∃g,h1.get? b=KE { c with slots:=g }:=by
 by_cases f:b∈fs
 ·show u.slot b c q n f d
 ·show{c.slots,u.keep b c q n f d}
def Un.kept (k:∀b u,h.get? b=KE u->h'.get? b=KE u):Un fs ex H H h h':=
 {λb c q _ _ _=>k b c q,λb c q _ _ _=>{c.slots,k b c q},λ_ _ _ n _=>n,λb c q _=>{c,k b c q},λ_ _ q=>q,λ_ _ _ q=>q,λ_ ps q=>{#[],by rw[q];simp}}
def Un.refl:Un fs ex H H h h:=Un.kept λ_ _ q=>q
def Un.laid (k:∀b u,h.get? b=KE u->h'.get? b=KE u)(hp:h.objs.size<=a)(hn:H a=LX):Un fs ex H (upd H a o) h h' where
 keep:=λb u q _ _ _=>k b u q
 slot:=λb u q _ _ _=>{u.slots,k b u q}
 free:=λb u q n _=>by rw[ay (bK (bO (aX q) hp))];show n
 there:=λb u q _=>{u,k b u q}
 tups:=λb xs q=>by rw[ay (cf q hn)];show q
 frzs:=λb u xs q=>by rw[ay (cf q hn)];show q
 tbls:=λb ps q=>{#[],by rw[ay (cf q hn),q];simp}
def Un.write (mu:Mut (H x))(i:e=x\/H e=KE (.own x))(k:∀b u,b≠e->h.get? b=KE u->h'.get? b=KE u)(j:∃u,h'.get? e=KE u):Un fs ex H (upd H x o) h h':=by
 have d:∀b,H b=LX->b≠x:=λb n z=>(by subst z;rw[n]at mu;show mu);have f:∀b,H b=LX->b≠e:=λb n z=>by
  subst z;rcases i with r | r
  ·show d b n r
  ·rw[n]at r;cases r
 have c:∀b u,H b=KE u->¬Mut (KE u)->b≠x:=λb u q l z=>(by subst z;rw[q]at mu;show l mu);show{λb u q n _ _=>k b u (f b n) q,λb u q n _ _=>{u.slots,k b u (f b n) q},λb u q n _=>by rw[ay (d b n)];show n,λb u q _=>?_,λb xs q=>by rw[ay (c b _ q λz=>z)];show q,λb u xs q=>by rw[ay (c b _ q λz=>z)];show q,λb ps q=>{#[],by rw[ay (c b _ q λz=>z),q];simp}};by_cases g:b=e
 ·subst g;show j
 ·show{u,k b u g q}
end
def trk (h:MB)(H:Hp):List MA:=(bG h.objs.size).filter λa=>(H a).isSome
def yu (h:MB)(H:Hp):MB:=PySem.W.hideAll h (trk h H)
def Wi (h:MB)(H:Hp):(yu h H).objs.size=h.objs.size:=PySem.W.hideAll_size _ _
def Zv (e:h.get? b=KE o)(n:H b=LX):(yu h H).get? b=KE o:=
 PySem.W.hideAll_get _ e λa=>by
  have q:(H b).isSome=LY:=(iI.mp a).2;rw[n]at q;simp at q
def afa (e:(yu h H).get? b=KE o):h.get? b=KE o/\H b=LX:=by
 have a:h.get? b=KE o:=PySem.W.of_hideAll (trk h H) e;show{a,?_};cases q:H b with
 |none=>rfl
 |some x=>
  have c:b∈trk h H:=List.mem_filter.mpr {dN.mpr (aX a),by simp[q]};have z:(yu h H).get? b=LX:=PySem.W.hideAll_none (trk h H) c;rw[z]at e;cases e
def afb (g h:MB)(L:MA):List (MA×Obj):=(bG h.objs.size).filterMap λa=>if a=L\/(g.get? a).isSome=LY then LX else (h.get? a).map λo=>(a,o)
def rest (g h:MB)(L d:MA):List (MA×Obj):=(afb g h L).filter λp=>decide (p.1≠d)
structure Mod (K:aF)(mg:Str->Option aE)(base:MB):Prop where
 kin:K.In base
 glob:base.Ns bI mg
 blt:∃mb,base.Ns uC mb/\∀x:Str,x≠"__name__"->mb x=dX x
 nolimit:base.NoLimit
structure Cx where
 prog:aV
 w:bC
 K:aF
 mg:Str->Option aE
 base:MB
 A:cG
 N:List Str
 s₀:aK
 H₀:Hp
 env:Env
 outer:List Env
 stack:List Env
 ex:List MA
 fn:Str->Bool
 calm:Bool
 pn:List (MA×Obj)
 xe:aE->aK->Prop
def frs (l:List Env):List MA:=l.filterMap (·.frame)
abbrev Cx.fs (X:Cx):List MA:=frs X.outer
def Vis (a:mH)(x:Str):Prop:=a.names.lookup x=KE .local\/a.names.lookup x=KE .cell\/a.names.lookup x=KE .free
def Loc (a:mH)(x:Str):Prop:=a.names.lookup x=KE .local\/a.names.lookup x=KE .cell
def Look (env:Env)(h:MB)(m:Str->Option aE)(x:Str)(u:aE):Prop:=
 (env.kindOf x=KE .local/\m x=KE u)\/((env.kindOf x=KE .cell\/env.kindOf x=KE .free)/\∃c,env.cells.lookup x=KE c/\h.IsCell c (KE u))
structure Cx.Ok (X:Cx):Prop where
 mod:Mod X.K X.mg X.base
 kind:X.env.scope.kind=.function
 glob:X.env.globals=bI
 blt:X.env.builtins=uC
 above:X.s₀.heap.objs.size<=X.env.locals
 inj:∀x y c,X.env.cells.lookup x=KE c->X.env.cells.lookup y=KE c->x=y
 has:∀x,(X.env.kindOf x=KE .cell\/X.env.kindOf x=KE .free)->∃c,X.env.cells.lookup x=KE c
 cab:∀x c,X.fn x=LY->X.env.cells.lookup x=KE c->X.s₀.heap.objs.size<=c
 hd:X.calm=LY->X.A.handled=LX
 frames:X.A.frames=KE X.stack
 stk:X.stack=X.outer\/(X.stack=X.env::X.outer/\X.env.frame=KE X.env.locals)
 exf:∀b∈X.ex,b≠X.env.locals/\∀x c,X.env.cells.lookup x=KE c->c≠b
 bs:∀b o,X.base.get? b=KE o->X.s₀.heap.get? b=KE o/\X.H₀ b=LX
 bsz:X.base.objs.size<=X.s₀.heap.objs.size
 noex:∀b o,X.base.get? b=KE o->b ∉ X.ex
 exfs:∀b∈X.ex,b ∉ X.fs
 funs:X.s₀.heap.FunFrames X.base X.outer
 frf:∀b∈X.fs,X.H₀ b=LX
structure Inv (X:Cx)(uS:List (MA×Obj))(σ:List (Option V))(H:Hp)(s:aK):Prop where
 ok:X.Ok
 os:s.os=X.s₀.os
 bare:nQ s.gens
 base:Un X.fs X.ex X.H₀ H X.s₀.heap s.heap
 loc:∃m,s.heap.Ns X.env.locals m/\∀(i:Nat)(x:Str) (v:V),X.N[i]?=KE x->σ[i]?=KE (KE v)->Vis X.env.scope x->∃u,RelV v u/\Look X.env s.heap m x u
 cell:∀x c,X.env.cells.lookup x=KE c->∃v,s.heap.IsCell c v
 free:H X.env.locals=LX
 freeC:∀x c,X.env.cells.lookup x=KE c->H c=LX
 pin:∀p∈X.pn++uS,s.heap.get? p.1=KE p.2/\H p.1=LX/\p.1≠X.env.locals/\p.1 ∉ X.fs/\∀v,p.2.data≠.cell v
 hok:HOk X.prog X.w H s.heap
 len:σ.length=X.N.length
section
variable {X:Cx}{uS:List (MA×Obj)}{σ:List (Option V)}{H H':Hp}{s:aK}{h':MB}
def Cx.Ok.nofr (ok:X.Ok){b:MA}{o:Obj}(e:X.base.get? b=KE o):b ∉ X.fs:=λa=>by
 have:=(ok.funs.mem a).1;rw[e]at this;cases this
theorem Inv.bs (I:Inv X uS σ H s):∀b o,X.base.get? b=KE o->s.heap.get? b=KE o/\H b=LX:=λb o e=>
 {I.base.keep b o (I.ok.bs b o e).1 (I.ok.bs b o e).2 (I.ok.nofr e) (I.ok.noex b o e),I.base.free b o (I.ok.bs b o e).1 (I.ok.bs b o e).2 (I.ok.noex b o e)}
def Inv.bk (I:Inv X uS σ H s):∀b o,X.base.get? b=KE o->s.heap.get? b=KE o:=λb o e=>(I.bs b o e).1
theorem Inv.mod (I:Inv X uS σ H s):Mod X.K X.mg X.base:=I.ok.mod
def Inv.kIn (I:Inv X uS σ H s):X.K.In s.heap:=I.ok.mod.kin.keeps I.bk
theorem Inv.lt (I:Inv X uS σ H s):X.env.locals < ‹s›:=let ⟨_,a,_⟩:=I.loc;a.lt
def Inv.sz (I:Inv X uS σ H s):X.s₀.heap.objs.size<=‹s›:=bL I.ok.above (gR I.lt)
def Inv.nofs (I:Inv X uS σ H s){a:MA}(h:‹s›<=a):a ∉ X.fs:=λb=>by
 obtain⟨_,o,c,_⟩:=I.ok.funs.mem b;show MI (bO (aX c) (bL I.sz h)) (fS _)
def Inv.cne (I:Inv X uS σ H s):∀x c,X.env.cells.lookup x=KE c->c≠X.env.locals:=λx c e z=>by
 obtain⟨v,o,a,hd⟩:=I.cell x c e;obtain⟨m,⟨f,g,ep,b,d,_⟩,_⟩:=I.loc;rw[z,b]at a;cases a;rw[d]at hd;cases hd
theorem Inv.funs (I:Inv X uS σ H s):s.heap.FunFrames X.base X.outer:=by
 have all:∀(l:List Env),(∀b∈frs l,b∈X.fs)->X.s₀.heap.FunFrames X.base l->s.heap.FunFrames X.base l:=by
  intro l
  induction l with
  |nil=>intro _ _;trivial
  |cons env r f=>
   intro hs g;obtain⟨hk,⟨L,o,a,h,i,hd⟩,j⟩:=g;have c:L∈X.fs:=hs L (by unfold frs;rw[fZ,a];show aN);obtain⟨m,e⟩:=I.base.slot L o i (I.ok.frf L c) c λz=>I.ok.exfs L z c;show{hk,{L,_,a,h,e,hd},f (λb d=>hs b (by unfold frs;rw[fZ,a];show aI _ d)) j}
 show all X.outer (λ_ d=>d) I.ok.funs
theorem Inv.stack (I:Inv X uS σ H s):s.heap.FunFrames X.base X.stack:=by
 rcases I.ok.stk with e | ⟨e,a⟩
 ·rw[e];show I.funs
 ·rw[e];obtain⟨m,b,_⟩:=I.loc;show .cons (by rw[I.ok.kind];decide) a b ?_ I.funs;show Heap.get?_none_of_le (bL I.ok.bsz I.ok.above)
def Inv.stkSub (I:Inv X uS σ H s):∀b∈frs X.stack,b∈X.env.locals::X.fs:=λb a=>by
 rcases I.ok.stk with e | ⟨e,c⟩
 ·rw[e]at a;show aI _ a
 ·rw[e]at a;unfold frs at a;rw[fZ,c]at a;show a
def Inv.stkFree (I:Inv X uS σ H s):∀b∈frs X.stack,H b=LX:=λb hb=>by
 rcases aU.mp (I.stkSub b hb)with e | hb
 ·rw[e];show I.free
 ·obtain⟨_,o,a,_⟩:=I.ok.funs.mem hb;show I.base.free b o a (I.ok.frf b hb) λz=>I.ok.exfs b z hb
def Inv.step {g':Array rR}{t':Nat}{d':Drawn}{ch:List MA}(I:Inv X uS σ H s)
  (j:∀b∈ch,(b∈X.ex\/X.s₀.heap.objs.size<=b)/\b≠X.env.locals/\(∀x c,X.env.cells.lookup x=KE c->c≠b)/\∀p∈X.pn++uS,p.1≠b)
  (keep:∀b o,b≠X.env.locals->b ∉ X.fs->b ∉ ch->s.heap.get? b=KE o->H b=LX->h'.get? b=KE o)
  (slot:∀b o,b≠X.env.locals->b∈X.fs->b ∉ ch->s.heap.get? b=KE o->H b=LX->∃E,h'.get? b=KE { o with slots:=E }) (free:∀b o,b ∉ ch->s.heap.get? b=KE o->H b=LX->H' b=LX)
  (there:∀b o,b ∉ ch->s.heap.get? b=KE o->∃y,h'.get? b=KE y)
  (tups:∀b xs,H b=KE (.tup xs)->H' b=KE (.tup xs)) (frzs:∀b o u,H b=KE (.frz o u)->H' b=KE (.frz o u)) (tbls:∀b ps,H b=KE (.tbl ps)->∃more,H' b=KE (.tbl (ps++more)))
  (ns:∀m,s.heap.Ns X.env.locals m->h'.Ns X.env.locals m) (hok:HOk X.prog X.w H' h') (T:nQ g') :
  Inv X uS σ H' { s with heap:=h',gens:=g',drawn:=d',toks:=t' }:=by
 have J:∀b o,X.s₀.heap.get? b=KE o->b≠X.env.locals:=λb o e=>bK (bO (aX e) I.ok.above);have D:∀b o,X.s₀.heap.get? b=KE o->b ∉ X.ex->b ∉ ch:=λb o e a g=>by
  rcases(j b g).1 with z | z
  ·show a z
  ·show MI (bO (aX e) z) (fS _)
 have L:∀x c,X.env.cells.lookup x=KE c->∀v,s.heap.IsCell c v->h'.IsCell c v:=λx c e v ⟨o,h,hd⟩=>by
  have A:c ∉ ch:=λz=>(j c z).2.2.1 x c e rfl;by_cases N:c∈X.fs
  ·obtain⟨E,q⟩:=slot c o (I.cne x c e) N A h (I.freeC x c e);show{_,q,hd}
  ·show{o,keep c o (I.cne x c e) N A h (I.freeC x c e),hd}
 show{I.ok,I.os,T,{λb o e n g a=>?_,λb o e n g a=>?_,λb o e n a=>?_,λb o e a=>?_,λb xs e=>tups b xs (I.base.tups b xs e),λb o xs e=>frzs b o xs (I.base.frzs b o xs e),λb ps e=>?_},?_,λx c e=>?_,?_,λx c e=>?_,λp O=>?_,hok,I.len}
 ·show keep b o (J b o e) g (D b o e a) (I.base.keep b o e n g a) (I.base.free b o e n a)
 ·obtain⟨E,f⟩:=I.base.slot b o e n g a;obtain⟨G,C⟩:=slot b _ (J b o e) g (D b o e a) f (I.base.free b o e n a);show#v[G,C]
 ·obtain⟨y,f⟩:=I.base.there b o e a;show free b y (D b o e a) f (I.base.free b o e n a)
 ·obtain⟨y,f⟩:=I.base.there b o e a;show there b y (D b o e a) f
 ·obtain⟨U,f⟩:=I.base.tbls b ps e;obtain⟨m2,C⟩:=tbls b _ f;show{U++m2,by rw[C,Array.append_assoc]}
 ·obtain⟨m,Y,hl⟩:=I.loc;show{m,ns m Y,λi x v f C e3=>?_};obtain⟨u,r,l⟩:=hl i x v f C e3;show{u,r,?_};rcases l with l | ⟨k,c,e,z⟩
  ·show .inl l
  ·show .inr {k,c,e,L x c e _ z}
 ·obtain⟨v,z⟩:=I.cell x c e;show{v,L x c e v z}
 ·obtain⟨m,⟨o,_,_,h,_⟩,_⟩:=I.loc;show free _ o (λz=>(j _ z).2.1 rfl) h I.free
 ·obtain⟨v,o,h,hd⟩:=I.cell x c e;show free c o (λz=>(j c z).2.2.1 x c e rfl) h (I.freeC x c e)
 ·obtain⟨e,n,ne,Q,d⟩:=I.pin p O;have A:p.1 ∉ ch:=λz=>(j p.1 z).2.2.2 p O rfl;show{keep p.1 p.2 ne Q A e n,free p.1 p.2 A e n,ne,Q,d}
def Inv.un {t':Nat}(I:Inv X uS σ H s)(u:Un X.fs [] H H' s.heap h')(hok:HOk X.prog X.w H' h'):Inv X uS σ H' { s with heap:=h',toks:=t' }:=by
 obtain⟨m,⟨o,l,ep,c,r⟩,_⟩:=id I.loc;obtain⟨p,f⟩:=u.any c I.free ∅;show I.step (g':=s.gens) (d':=s.drawn) (ch:=[]) (λ_ z=>nomatch z) (λb o _ a _ e n=>u.keep b o e n a ∅) (λb o _ a _ e n=>u.slot b o e n a ∅) (λb o _ e n=>u.free b o e n ∅) (λb o _ e=>u.there b o e ∅) u.tups u.frzs u.tbls (λq g=>by
   obtain⟨x,h,i,d,j⟩:=g;rw[c]at d;cases d;show{_,h,i,f,j}) hok I.bare
def Inv.call {t':Nat}{ch:List MA}(I:Inv X uS σ H s)(u:Un (frs X.stack) ch H H' s.heap h')(hok:HOk X.prog X.w H' h')(i:nQ g')
  (f:∀b∈ch,(b∈X.ex\/X.s₀.heap.objs.size<=b)/\b≠X.env.locals/\(∀x c,X.env.cells.lookup x=KE c->c≠b)/\∀p∈X.pn++uS,p.1≠b) :
  Inv X uS σ H' { s with heap:=h',gens:=g',drawn:=d',toks:=t' }:=by
 obtain⟨m,⟨o,C,ep,g,r⟩,_⟩:=id I.loc;obtain⟨D,d⟩:=u.any g I.free λz=>(f _ z).2.1 rfl;show I.step (ch:=ch) f (λb o d j a e n=>u.keep b o e n (λz=>(aU.mp (I.stkSub b z)).elim d j) a) (λb o _ _ a e n=>u.any e n a) (λb o a e n=>u.free b o e n a) (λb o a e=>u.there b o e a) u.tups u.frzs u.tbls (λE l=>by
   obtain⟨G,q,y,h,A⟩:=l;rw[g]at h;cases h;show{_,q,y,d,A}) hok i
def Inv.turned {t':Nat}(I:Inv X uS σ H s)(k:∀b o,b≠it->s.heap.get? b=KE o->h'.get? b=KE o)(g:H it=LX)(d:it≠X.env.locals)
  (h:it∈X.ex\/X.s₀.heap.objs.size<=it) (i:∀x c,X.env.cells.lookup x=KE c->c≠it) (j:∀p∈X.pn++uS,p.1≠it):Inv X uS σ H { s with heap:=h',toks:=t' }:=by
 have f:∀b u,H b=KE u->b≠it:=λb u e z=>(by rw[z,g]at e;cases e);show I.step (g':=s.gens) (d':=s.drawn) (ch:=[it]) (λb l=>?_) (λb o _ _ a e _=>k b o (λz=>a (by simp[z])) e) (λb o _ _ a e _=>{o.slots,k b o (λz=>a (by simp[z])) e}) (λ_ _ _ _ n=>n)
  (λb o a e=>{o,k b o (λz=>a (by simp[z])) e}) (λ_ _ e=>e) (λ_ _ _ e=>e) (λb ps e=>{#[],by rw[e];simp}) (λm w=>?_) (λb u e=>?_) I.bare
 ·have e:b=it:=(by simpa using l);subst e;show#v[h,d,i,j]
 ·obtain⟨o,y,ep,A,r⟩:=w;show{o,y,ep,k _ o (Ne.symm d) A,r}
 ·show(I.hok b u e).stay (λc v a q=>k c v ?_ q) (λ_ q=>q) λ_ _ q=>q;rcases a with z | z
  ·rw[z];show f b u e
  ·show f c _ z
def Inv.tok (I:Inv X uS σ H s)(t:Nat):Inv X uS σ H { s with toks:=t }:=I.un (h':=s.heap) (t':=t) Un.refl I.hok
theorem Inv.kept {t':Nat}(I:Inv X uS σ H s)(k:∀b u,s.heap.get? b=KE u->h'.get? b=KE u):Inv X uS σ H { s with heap:=h',toks:=t' }:=I.un (Un.kept k) (I.hok.kept k)
theorem Inv.laid {t':Nat}(I:Inv X uS σ H s)(k:∀b u,s.heap.get? b=KE u->h'.get? b=KE u)(c:‹s›<=a)(new:ObjOk X.prog X.w (upd H a o) h' a o) :
  Inv X uS σ (upd H a o) { s with heap:=h',toks:=t' }:=I.un (Un.laid k c (I.hok.fresh c)) (I.hok.laid k c new)
theorem Inv.write {t':Nat}(I:Inv X uS σ H s)(mu:Mut (H x))(a:e=x\/H e=KE (.own x))(k:∀b u,b≠e->s.heap.get? b=KE u->h'.get? b=KE u)(c:∃u,h'.get? e=KE u)
  (new:ObjOk X.prog X.w (upd H x o) h' x o):Inv X uS σ (upd H x o) { s with heap:=h',toks:=t' }:=I.un (Un.write mu a k c) (I.hok.write mu a k c new)
def Inv.weak {a:List (Option V)}(I:Inv X uS σ H s)(b:a.length=σ.length)(w:∀(i:Nat) v,a[i]?=KE (KE v)->σ[i]?=KE (KE v)):Inv X uS a H s:=
 ⟨I.ok,I.os,I.bare,I.base,let ⟨m,c,d⟩:=I.loc;{m,c,λi x v e f g=>d i x v e (w i v f) g},I.cell,I.free,I.freeC,I.pin,I.hok,b.trans I.len⟩
def Inv.pins_of {a:List (MA×Obj)}(I:Inv X uS σ H s)(h:∀p∈a,s.heap.get? p.1=KE p.2/\H p.1=LX/\p.1≠X.env.locals/\p.1 ∉ X.fs/\∀v,p.2.data≠.cell v):Inv X a σ H s:=
 {I.ok,I.os,I.bare,I.base,I.loc,I.cell,I.free,I.freeC,λp b=>(cS.mp b).elim (λz=>I.pin p (dS _ z)) (h p),I.hok,I.len}
def K5 {N:List Str}(c:N.Nodup){i j:Nat}(a:N[i]?=KE x)(b:N[j]?=KE x):i=j:=by
 obtain⟨f,d⟩:=bJ.mp a;obtain⟨g,e⟩:=bJ.mp b;show(List.getElem_inj c).mp (d.trans e.symm)
def Ic {E:aE->aK->Prop}{i:Nat}{Q:Unit->aK->Prop}(I:Inv X uS σ H s)(hN:X.N.Nodup)(hi:X.N[i]?=KE x)(g:Loc X.env.scope x)(r:RelV v u)
  (h:∀s',Inv X uS (σ.set i (KE v)) H s'->(∃a,eB a s.heap s'.heap/\(a=X.env.locals\/X.env.cells.lookup x=KE a))->Q Unit.unit s') (hf:X.fn x=LY\/X.env.scope.names.lookup x=KE .local:=by first | show .inl rfl | show .inr rfl | assumption):aM M A (storeName X.env x u) Q E s:=by
 obtain⟨m,T,hl⟩:=id I.loc;have G:(X.env.scope.kind == .class || (X.env.scope.kind == .module && X.env.locals != X.env.globals))=LZ:=(by rw[I.ok.kind];rfl);have FK:i < σ.length:=(by rw[I.len];show(bJ.mp hi).1);have cne:=I.cne;have A':∀{a:MA}{h':MB},(∃o,s.heap.get? a=KE o/\H a=LX)->eB a s.heap h'->HOk X.prog X.w H h':=λ{a h'} ha hs b ob e=>by
  obtain⟨_,_,DL⟩:=ha;show(I.hok b ob e).stay (λc L hc q=>(hs.2 c ?_).trans q) (λ_ q=>q) λ_ _ q=>q;intro U;subst U;rcases hc with rfl | hc
  ·rw[DL]at e;cases e
  ·rw[DL]at hc;cases hc
 rcases g with hk | hk
 ·show wpAny_storeName_local hk T (λh' JT hs=>?_) G;obtain⟨oL,_,_,EA,_⟩:=id T;show h _ {I.ok,I.os,I.bare,{λb o e n C g=>?_,λb o e n C g=>?_,I.base.free,λb o e g=>?_,I.base.tups,I.base.frzs,I.base.tbls},{_,JT,λj y Y f l e3=>?_},λy c e=>?_,I.free,I.freeC,λp hp=>?_,A' #v[oL,EA,I.free] hs,by simpa using I.len} {_,hs,.inl rfl}
  ·show(hs.2 b (bK (bO (aX e) I.ok.above))).trans (I.base.keep b o e n C g)
  ·obtain⟨sl,f⟩:=I.base.slot b o e n C g;show{sl,(hs.2 b (bK (bO (aX e) I.ok.above))).trans f}
  ·obtain⟨o',f⟩:=I.base.there b o e g;show{o',(hs.2 b (bK (bO (aX e) I.ok.above))).trans f}
  ·by_cases D:j=i
   ·subst D;rw[hi]at f;cases f;rw[cM FK]at l;cases l;show{u,r,.inl {hk,by simp}}
   ·rw[bM (Ne.symm D)]at l;obtain⟨u',r',q⟩:=hl j y Y f l e3;show{u',r',?_};rcases q with⟨k,e⟩ | ⟨k,c,e,z⟩
    ·show .inl {k,?_};have:y≠x:=λe=>D (K5 hN f (e ▸ hi));simp[this,e]
    ·show .inr {k,c,e,z.sameBut hs (cne y c e)}
  ·obtain⟨L,z⟩:=I.cell y c e;show{L,z.sameBut hs (cne y c e)}
  ·obtain⟨e,n,ne,nf,d⟩:=I.pin p hp;show{(hs.2 p.1 ne).trans e,n,ne,nf,d}
 ·have HX:X.fn x=LY:=by
   rcases hf with z | z
   ·show z
   ·rw[z]at hk;cases hk
  obtain⟨c,hc⟩:=I.ok.has x (.inl hk);obtain⟨L,z⟩:=I.cell x c hc;show wpAny_storeName_cell I.ok.kind hk hc z (λh' FL hs=>?_);obtain⟨oc,JU,J⟩:=id z;show h { s with heap:=h' } {I.ok,I.os,I.bare,{λb o e n C g=>?_,λb o e n C g=>?_,I.base.free,λb o e g=>?_,I.base.tups,I.base.frzs,I.base.tbls},{m,T.sameBut hs (Ne.symm (cne x c hc)),λj y Y f l e3=>?_},λy O e=>?_,I.free,I.freeC,λp hp=>?_,A' {oc,JU,I.freeC x c hc} hs,by simpa using I.len} {c,hs,.inr hc}
  ·show(hs.2 b (bK (bO (aX e) (I.ok.cab x c HX hc)))).trans (I.base.keep b o e n C g)
  ·obtain⟨sl,f⟩:=I.base.slot b o e n C g;show{sl,(hs.2 b (bK (bO (aX e) (I.ok.cab x c HX hc)))).trans f}
  ·obtain⟨o',f⟩:=I.base.there b o e g;show{o',(hs.2 b (bK (bO (aX e) (I.ok.cab x c HX hc)))).trans f}
  ·by_cases D:j=i
   ·subst D;rw[hi]at f;cases f;rw[cM FK]at l;cases l;show{u,r,.inr {.inl hk,c,hc,FL}}
   ·rw[bM (Ne.symm D)]at l;obtain⟨u',r',q⟩:=hl j y Y f l e3;show{u',r',?_};rcases q with q | ⟨k,O,e,z'⟩
    ·show .inl q
    ·show .inr {k,O,e,z'.sameBut hs ?_};intro U;subst U;show D (K5 hN f (I.ok.inj _ _ _ e hc ▸ hi))
  ·by_cases JV:O=c
   ·subst JV;show{_,FL}
   ·obtain⟨w2,z2⟩:=I.cell y O e;show{w2,z2.sameBut hs JV}
  ·obtain⟨e,n,ne,nf,d⟩:=I.pin p hp;show{(hs.2 p.1 ?_).trans e,n,ne,nf,d};intro q;rw[q,JU]at e;have q':oc=p.2:=bX e;show d L (by rw[<-q'];show J)
def ql {M:Model}{A:cG}{E:aE->aK->Prop}{i:Nat}{x:Str}{v:V}{u:aE}{Q:Unit->aK->Prop}(I:Inv X uS σ H s)(a:X.N.Nodup)(hi:X.N[i]?=KE x)(b:Loc X.env.scope x)(r:RelV v u)
  (h:∀s',Inv X uS (σ.set i (KE v)) H s'->Q Unit.unit s') (c:X.fn x=LY\/X.env.scope.names.lookup x=KE .local:=by first | show .inl rfl | show .inr rfl | assumption):aM M A (storeName X.env x u) Q E s:=
 Ic I a hi b r (λs' d _=>h s' d) c
def Inv.call' {s':aK}(I:Inv X uS σ H s)(a:s'.os=s.os)(u:Un (frs X.stack) ch H H' s.heap s'.heap)(hok:HOk X.prog X.w H' s'.heap)(d:nQ s'.gens)
  (f:∀b∈ch,(b∈X.ex\/X.s₀.heap.objs.size<=b)/\b≠X.env.locals/\(∀x c,X.env.cells.lookup x=KE c->c≠b)/\∀p∈X.pn++uS,p.1≠b):Inv X uS σ H' s':=by
 obtain⟨h',g',d',t',g⟩:=s';have e:g=s.os:=a;subst e;show I.call (g':=g') (t':=t') (d':=d') u hok d f
end
abbrev XK:=aE->Option MA->Hp->Prop
abbrev St:=List (Option V)
abbrev VK:=V->Hp->Prop
abbrev TE:=St->Hp->VK->Prop
abbrev TT:=St->Hp->(Bool->Hp->Prop)->Prop
abbrev TA:=St->Hp->(List V->Hp->Prop)->Prop
structure Au where
 nx:St->Hp->Prop
 rt:VK
 bk:St->Hp->Prop:=λ_ _=>False
 ct:St->Hp->Prop:=λ_ _=>False
abbrev TS:=Au->St->Hp->Prop
def EP (X:Cx)(a:List (MA×Obj))(b:St)(Q:VK)(u:aE)(s':aK):Prop:=∃v H',Inv X a b H' s'/\RelV v u/\Q v H'
def TP (X:Cx)(a:List (MA×Obj))(c:St)(Q:Bool->Hp->Prop)(b:Bool)(s':aK):Prop:=∃H',Inv X a c H' s'/\Q b H'
def AP (X:Cx)(a:List (MA×Obj))(b:St)(Q:List V->Hp->Prop)(us:List aE)(s':aK):Prop:=∃vs H',Inv X a b H' s'/\Vals vs us/\Q vs H'
def SP (X:Cx)(b:List (MA×Obj))(D:Au)(f:Flow)(s':aK):Prop:=
 match f with
 | .next=>∃a H',Inv X b a H' s'/\D.nx a H'
 | .brk=>∃a H',Inv X b a H' s'/\D.bk a H'
 | .cont=>∃a H',Inv X b a H' s'/\D.ct a H'
 | .ret u=>∃v a H',Inv X b a H' s'/\RelV v u/\D.rt v H'
def PE (X:Cx)(e:MC)(t:TE):Prop:=
 ∀(b:List (MA×Obj))(s:aK) (a:St) (H:Hp) (Q:VK),Inv X b a H s->t a H Q->aM (aY X.prog X.w) X.A (eval e X.env) (EP X b a Q) X.xe s
def PT (X:Cx)(e:MC)(t:TT):Prop:=
 ∀(b:List (MA×Obj))(s:aK) (a:St) (H:Hp) (Q:Bool->Hp->Prop),Inv X b a H s->t a H Q->aM (aY X.prog X.w) X.A (sL e X.env (eval e X.env)) (TP X b a Q) X.xe s
def PW (X:Cx)(e:MC)(t:TT):Prop:=
 ∀(c:Sem aE)(b:List (MA×Obj)) (s:aK) (a:St) (H:Hp) (Q:Bool->Hp->Prop),Inv X b a H s->t a H Q->aM (aY X.prog X.w) X.A (sL e X.env c) (TP X b a Q) X.xe s
def PW.pt (h:PW X e t):PT X e t:=h _
def PA (X:Cx)(d:List MC)(t:TA):Prop:=
 ∀(a:Pos)(c:List (MA×Obj)) (s:aK) (b:St) (H:Hp) (Q:List V->Hp->Prop),Inv X c b H s->t b H Q->aM (aY X.prog X.w) X.A (tM (dU a (aP d X.env))) (AP X c b Q) X.xe s
def PS (X:Cx)(st:MD)(t:TS):Prop:=
 ∀(a:List (MA×Obj))(s:aK) (b:St) (H:Hp) (D:Au),Inv X a b H s->t D b H->aM (aY X.prog X.w) X.A (exec st X.env) (SP X a D) X.xe s
def PSs (X:Cx)(st:List MD)(t:TS):Prop:=
 ∀a s b H D,Inv X a b H s->t D b H->aM (aY X.prog X.w) X.A (execs st X.env) (SP X a D) X.xe s
def thn {b:Type}{t:Sem b}{Q c:b->aK->Prop}{M:Model}{A:cG}{E:aE->aK->Prop}{s:aK}(h:aM M A t Q E s)(d:∀a s,Q a s->c a s):aM M A t c E s:=iR h d λ_ _ x=>x
section
variable {X:Cx}
def yw (i:Nat):TE:=λa H Q=>∃v,a[i]?=KE (KE v)/\Q v H
def tC (v:V):TE:=λ_ H Q=>Q v H
def kf (d:X.N[i]?=KE x)(f:Vis X.env.scope x)(hd:(x == ("__debug__":Str))=LZ:=by decide)(g:(x == ("__classdict__":Str))=LZ:=by decide):PE X (.Name x j) (yw i):=by
 intro n s o H Q I h;obtain⟨v,e,h⟩:=h;obtain⟨m,p,q⟩:=I.loc;obtain⟨u,r,l⟩:=q i x v d e f;have fin:EP X n o Q u s:=#v[v,H,I,r,h];rcases l with⟨hk,w⟩ | ⟨hk,c,a,b⟩
 ·show uD (wpAny_loadName_local I.ok.kind hk p w fin) hd
 ·rcases hk with hk | hk
  ·show uD (wpAny_loadName_cell I.ok.kind hk a b fin) hd
  ·show uD (wpAny_loadName_free I.ok.kind hk a b fin g) hd
def K6 {i j a}:PE X (.Constant (.int i) j a) (tC (.int i)):=λ_ _ _ H _ I h=>wpAny_Constant_int {.int i,H,I.tok _,{_,rfl},h}
def Em:PE X (.Constant (.bool b) j a) (tC (.bl b)):=λ_ _ _ H _ I h=>Constant_bool {.bl b,H,I,rfl,h}
def aiu:PE X (.Constant .none j a) (tC .non):=λ_ _ _ H _ I h=>Constant_none {.non,H,I,rfl,h}
def aiv:PE X (.Constant (.str x) j a) (tC (.str x)):=λ_ _ _ H _ I h=>Calls.Constant_str {.str x,H,I.tok _,{_,rfl},h}
def Gl (X:Cx)(x:Str):Prop:=X.env.kindOf x=KE .globalImplicit
def B2 (I:Inv X d e H s)(a:Gl X x)(b:X.mg x=KE u)(h:Q u s)
  (hd:(x == ("__debug__":Str))=LZ:=by decide):aM (aY X.prog X.w) X.A (eval (.Name x c) X.env) Q E s:=
 Calls.Name_function_global I.ok.kind a (Calls.loadGlobal_global (by rw[I.ok.glob];show I.mod.glob.keeps I.bk) b h) hd
def lg (I:Inv X i j H s)(a:Gl X x)(b:X.mg x=LX)(c:dX x=KE u)(h:Q u s)
  (d:x≠"__name__":=by decide) (hd:(x == ("__debug__":Str))=LZ:=by decide):aM (aY X.prog X.w) X.A (eval (.Name x e) X.env) Q E s:=by
 obtain⟨l,f,g⟩:=I.mod.blt;show Calls.Name_function_global I.ok.kind a (Calls.loadGlobal_builtin (by rw[I.ok.glob];show I.mod.glob.keeps I.bk) b (by rw[I.ok.blt];show f.keeps I.bk) ((g x d).trans c) h) hd
def afc (a:Gl X x)(b:X.mg x=KE u)(r:RelV v u)(hd:(x == ("__debug__":Str))=LZ:=by decide):PE X (.Name x c) (tC v):=
 λ_ _ _ H _ I h=>B2 I a b #v[v,H,I,r,h] hd
def afd (a:Gl X x)(b:X.mg x=LX)(c:dX x=KE u)(r:RelV v u)(d:x≠"__name__":=by decide)(hd:(x == ("__debug__":Str))=LZ:=by decide):PE X (.Name x e) (tC v):=
 λ_ _ _ H _ I h=>lg I a b c #v[v,H,I,r,h] d hd
variable {a b:MC}{ta tb:TE}{pos:Pos}
def tB (t:TE):TT:=λd H Q=>t d H λx e=>∃c,x=.bl c/\Q c e
variable {tA HE:TT}{rest:List MC}
def tAnd (t u:TT):TT:=λd H Q=>t d H λc e=>if c=LY then u d e Q else Q LZ e
def tOr (t u:TT):TT:=λd H Q=>t d H λc e=>if c=LY then Q LY e else u d e Q
def tNot (t:TT):TT:=λd H Q=>t d H λc e=>Q (!c) e
def afe (d:PT X a tA):PW X (.BoolOp .And [a] pos) tA:=by
 intro i f s g H Q I h;show isTrue_and (thn (d f s g H Q I h) λc s1 e=>?_);cases c with
 |true=>show isTrue_and_nil e
 |false=>show e
def aiw (d:PT X a tA):PW X (.BoolOp .Or [a] pos) tA:=by
 intro i f s g H Q I h;show isTrue_or (thn (d f s g H Q I h) λc s1 e=>?_);cases c with
 |false=>show isTrue_or_nil e
 |true=>show e
def aix (j:PT X a tA)(l:PW X (.BoolOp .And (b::rest) pos) HE):PW X (.BoolOp .And (a::b::rest) pos) (tAnd tA HE):=by
 intro m d s e H Q I h;show isTrue_and (thn (j d s e H _ I h) λc s1 n=>?_);obtain⟨f,g,i⟩:=n;cases c with
 |true=>show l m d s1 e f Q g i
 |false=>show#v[f,g,i]
def pw_or (j:PT X a tA)(l:PW X (.BoolOp .Or (b::rest) pos) HE):PW X (.BoolOp .Or (a::b::rest) pos) (tOr tA HE):=by
 intro m d s e H Q I h;show isTrue_or (thn (j d s e H _ I h) λc s1 n=>?_);obtain⟨f,g,i⟩:=n;cases c with
 |true=>show#v[f,g,i]
 |false=>show l m d s1 e f Q g i
def aiy (d:PT X a tA):PT X (.UnaryOp .Not a pos) (tNot tA):=by
 intro e s f H Q I h;show isTrue_not (d e s f H (λc g=>Q (!c) g) I h)
def tAndV (ta tb:TE):TE:=λd H Q=>ta d H λx e=>∃c,x=.bl c/\if c=LY then tb d e Q else Q (.bl LZ) e
def aiz (h:PE X a t):PE X (.BoolOp op [a] pos) t:=λc s d H Q I hw=>BoolOp_one (h c s d H Q I hw)
def aja (j:PE X a ta)(l:PE X (.BoolOp .And (b::rest) pos) tb):PE X (.BoolOp .And (a::b::rest) pos) (tAndV ta tb):=by
 intro e s f H Q I h;show BoolOp_and (thn (j e s f H _ I h) λv s1 m=>?_);obtain⟨x,g,i,n,d⟩:=m;obtain⟨c,rfl,d⟩:=d;cases n;show kR ?_;cases c with
 |true=>show l e s1 f g Q i d
 |false=>show{.bl LZ,g,i,rfl,d}
def tIf (t:TT)(ta tb:TE):TE:=λd H Q=>t d H λc e=>if c=LY then ta d e Q else tb d e Q
def Zw {c:MC}(l:PT X c tA)(m:PE X a ta)(n:PE X b tb):PE X (.IfExp c a b pos) (tIf tA ta tb):=by
 intro e s f H Q I h;show wpAny_IfExp (thn (l e s f H _ I h) λd s1 o=>?_);obtain⟨g,i,j⟩:=o;cases d with
 |true=>show m e s1 f g Q i j
 |false=>show n e s1 f g Q i j
end
def SqL (K:aF)(H:Hp)(a:MA)(xs:List V):Prop:=
 Rd H a (.lst xs)\/
  ∃o its n,K.lookup a=KE o/\o.cls=.type "list"/\o.dict=LX/\o.data=.seq its n/\its.size<=sizeLine/\Vals xs its.toList
def SqT (K:aF)(H:Hp)(a:MA)(xs:List V):Prop:=
 Rd H a (.tup xs)\/
  ∃o its n,K.lookup a=KE o/\o.cls=.type "tuple"/\o.data=.seq its n/\its.size<=sizeLine/\Vals xs its.toList
def absV:aE->Option V
 | .none=>KE .non
 | .bool b=>KE (.bl b)
 | .int i _=>KE (.int i)
 | .str x _=>KE (.str x)
 | .bytes b _=>KE (.byt b)
 | .float b _=>KE (.flt b)
 | .ref a=>KE (.ref a)
 | .type n=>KE (.ty n)
 |_=>LX
def RelV.abs (r:RelV x u):absV u=KE x:=by
 cases x with
 |non=>cases r;rfl
 |bl _=>cases r;rfl
 |int _=>obtain⟨t,rfl⟩:=r;rfl
 |str _=>obtain⟨t,rfl⟩:=r;rfl
 |byt _=>obtain⟨t,rfl⟩:=r;rfl
 |flt _=>obtain⟨t,rfl⟩:=r;rfl
 |ref _=>cases r;rfl
 |ty _=>cases r;rfl
def RelV.inj {x y:V}{u:aE}(r:RelV x u)(q:RelV y u):x=y:=bX (r.abs.symm.trans q.abs)
theorem Vals.inj:∀{xs ys:List V}{us:List aE},Vals xs us->Vals ys us->xs=ys
 |_,_,_,.nil,.nil=>rfl
 |_,_,_,.cons r t,.cons a t'=>by rw[r.inj a,Vals.inj t t']
section
variable {X:Cx}{uS:List (MA×Obj)}{σ:St}{H:Hp}{s:aK}{a:MA}{xs ys:List V}
def SqL.of {K:aF}(h:H a=KE (.lst xs)):SqL K H a xs:=.inl (.inl h)
def SqT.of {K:aF}(h:H a=KE (.tup xs)):SqT K H a xs:=.inl (.inl h)
def Inv.list (I:Inv X uS σ H s)(h:SqL X.K H a xs):∃its:List aE,Vals xs its/\PlainL s.heap a its.toArray/\xs.length<=sizeLine:=by
 rcases h with h | ⟨o,its,n,hk,b,hd,hs,hz,r⟩
 ·obtain⟨z,its,n,r,e⟩:=h.ok I.hok;show{its,r,{_,n,e,rfl,rfl,rfl},z}
 ·show{its.toList,r,{o,n,I.kIn a o hk,b,hd,by simpa using hs},?_};have e:=r.length;simp only[cV]at e;lia
def Inv.tuple (I:Inv X uS σ H s)(h:SqT X.K H a xs):∃its:List aE,Vals xs its/\tK s.heap a its.toArray/\xs.length<=sizeLine:=by
 rcases h with h | ⟨o,its,n,hk,b,hs,hz,r⟩
 ·obtain⟨z,its,r,p⟩:=h.ok I.hok;show#v[its,r,p,z]
 ·show{its.toList,r,{o,I.kIn a o hk,b,n,by simpa using hs},?_};have e:=r.length;simp only[cV]at e;lia
def Inv.list_inj (I:Inv X uS σ H s)(h:SqL X.K H a xs)(h':SqL X.K H a ys):xs=ys:=by
 obtain⟨its,r,⟨o,n,e,_,_,d⟩,_⟩:=I.list h;obtain⟨its',c,⟨f,g,b,_,_,d'⟩,_⟩:=I.list h';rw[e]at b;cases b;rw[d]at d';injection d' with d1 _;have:its=its':=(by simpa using MK Array.toList d1);subst this;show r.inj c
def Inv.tuple_inj (I:Inv X uS σ H s)(h:SqT X.K H a xs)(h':SqT X.K H a ys):xs=ys:=by
 obtain⟨its,r,⟨o,e,_,n,d⟩,_⟩:=I.tuple h;obtain⟨its',c,⟨f,b,_,g,d'⟩,_⟩:=I.tuple h';rw[e]at b;cases b;rw[d]at d';injection d' with d1 _;have:its=its':=(by simpa using MK Array.toList d1);subst this;show r.inj c
end
abbrev Cx.wish (X:Cx)(E:aE->aK->Prop):Cx:={ X with xe:=E }
abbrev Cx.nox (X:Cx):Cx:=X.wish λ_ _=>False
theorem Cx.Ok.wish {X:Cx}(ok:X.Ok)(E:aE->aK->Prop):(X.wish E).Ok:=
 #v[ok.mod,ok.kind,ok.glob,ok.blt,ok.above,ok.inj,ok.has,ok.cab,ok.hd,ok.frames,ok.stk,ok.exf,ok.bs,ok.bsz,ok.noex,ok.exfs,ok.funs,ok.frf]
def Cx.Ok.unwish {X:Cx}{E:aE->aK->Prop}(ok:(X.wish E).Ok):X.Ok:=
 #v[ok.mod,ok.kind,ok.glob,ok.blt,ok.above,ok.inj,ok.has,ok.cab,ok.hd,ok.frames,ok.stk,ok.exf,ok.bs,ok.bsz,ok.noex,ok.exfs,ok.funs,ok.frf]
section
variable {X:Cx}{uS:List (MA×Obj)}{σ:St}{H:Hp}{s:aK}{E:aE->aK->Prop}
theorem Inv.wish (I:Inv X uS σ H s)(E:aE->aK->Prop):Inv (X.wish E) uS σ H s:={I.ok.wish E,I.os,I.bare,I.base,I.loc,I.cell,I.free,I.freeC,I.pin,I.hok,I.len}
theorem Inv.unwish (I:Inv (X.wish E) uS σ H s):Inv X uS σ H s:=#v[I.ok.unwish,I.os,I.bare,I.base,I.loc,I.cell,I.free,I.freeC,I.pin,I.hok,I.len]
theorem SP.unwish (h:SP (X.wish E) uS D f s'):SP X uS D f s':=by
 cases f with
 |next=>obtain⟨a,H',I,q⟩:=h;show#v[a,H',I.unwish,q]
 |brk=>obtain⟨a,H',I,q⟩:=h;show#v[a,H',I.unwish,q]
 |cont=>obtain⟨a,H',I,q⟩:=h;show#v[a,H',I.unwish,q]
 |ret u=>obtain⟨v,a,H',I,r,q⟩:=h;show#v[v,a,H',I.unwish,r,q]
theorem PSs.nox {st:List MD}(h:PSs X.nox st t):PSs X st t:=λuS s σ H D I hw=>
 iR (h uS s σ H D (I.wish _) hw) (λ_ _ q=>q.unwish) λ_ _ z=>gZ z
end
section
variable {X:Cx}{st:MD}{rest:List MD}{t u:TS}{e:MC}{te:TE}{pos:Pos}
def yx:TS:=λD a H=>D.nx a H
def qm (t u:TS):TS:=λD a H=>t { D with nx:=u D } a H
def xy:PSs X [] yx:=λ_ _ a H _ I h=>nY #v[a,H,I,h]
def gg (c:PS X st t)(d:PSs X rest u):PSs X (st::rest) (qm t u):=by
 intro b s g H D I h;show wpAny_execs_cons (thn (c b s g H { D with nx:=u D } I h) λf s1 q=>?_);cases f with
 |next=>
  obtain⟨a,H',i,q⟩:=q;show d b s1 a H' D i q
 |ret v=>show q
 |brk=>show q
 |cont=>show q
def mi (a:PS X st t):PSs X [st] t:=by
 intro b s c H D I h;show wpAny_execs_cons (thn (a b s c H D I h) λf s1 q=>?_);cases f with
 |next=>show nY q
 |ret v=>show q
 |brk=>show q
 |cont=>show q
def Inv.quiet {a:List (MA×Obj)}{b:St}{H:Hp}{s:aK}(I:Inv X a b H s):interactive X.env=LZ:=by simp[interactive,I.ok.kind]
def Tj (te:TE):TS:=λD a H=>te a H λ_ b=>D.nx a b
def Gf (b:PE X e te)(hs:kA e LX pos.line X.env=pure LZ:=by rfl):PS X (.Expr e pos) (Tj te):=by
 intro c s a H D I h;show wpAny_Expr_any (thn (b c s a H _ I h) λv s1 d=>by obtain⟨x,f,g,j,i⟩:=d;show#v[a,f,g,i]) I.quiet hs
def K7 (te:TE):TS:=λD a H=>te a H D.rt
def vd (b:PE X e te):PS X (.Return (KE e) pos) (K7 te):=by
 intro c s a H D I h;show wpAny_Return_some (thn (b c s a H _ I h) λv s1 d=>by obtain⟨x,f,g,i,j⟩:=d;show#v[x,a,f,g,i,j])
def Di (c:TT)(t u:TS):TS:=λD a H=>c a H λb d=>if b=LY then t D a d else u D a d
def En {a b:List MD}(m:PT X c n)(o:PSs X a t)(p:PSs X b u):PS X (.If c a b pos) (Di n t u):=by
 intro f s g H D I h;show wpAny_If (thn (m f s g H _ I h) λd s1 q=>?_);obtain⟨i,j,l⟩:=q;cases d with
 |true=>show o f s1 g i D j l
 |false=>show p f s1 g i D j l
end
abbrev TG:=V->St->Hp->(St->Hp->Prop)->Prop
abbrev TGs:=List V->St->Hp->(St->Hp->Prop)->Prop
def PG (X:Cx)(a:MC)(t:TG):Prop:=
 ∀c s d H v u Q,Inv X c d H s->RelV v u->t v d H Q->
  aM (aY X.prog X.w) X.A (lR a X.env u) (λ_ s'=>∃b H',Inv X c b H' s'/\Q b H') X.xe s
def PGs (X:Cx)(d:List MC)(t:TGs):Prop:=
 ∀b s c H vs us Q,Inv X b c H s->Vals vs us->t vs c H Q->
  aM (aY X.prog X.w) X.A (assignInOrder ((jK d X.env).map (·.2)) us) (λ_ s'=>∃a H',Inv X b a H' s'/\Q a H') X.xe s
abbrev K8:=V->V->V->Hp->(Hp->Prop)->Prop
def Tn (X:Cx)(t:K8):Prop:=
 ∀a s b H o i v c iv u Q,Inv X a b H s->RelV o c->RelV i iv->RelV v u->t o i v H Q->
  aM (aY X.prog X.w) X.A (uP c iv u) (λ_ s'=>∃H',Inv X a b H' s'/\Q H') X.xe s
abbrev TIp:=V->V->Hp->VK->Prop
def PIp (X:Cx)(op:Operator)(t:TIp):Prop:=
 ∀a s b H x y v u Q,Inv X a b H s->RelV x v->RelV y u->t x y H Q->
  aM (aY X.prog X.w) X.A (inplaceOp op v u) (EP X a b Q) X.xe s
section
variable {X:Cx}{pos:Pos}
def uf (i:Nat):TG:=λv a H Q=>Q (a.set i (KE v)) H
def mj (a:X.N.Nodup)(hi:X.N[i]?=KE x)(b:Loc X.env.scope x)(c:X.fn x=LY\/X.env.scope.names.lookup x=KE .local:=by first | show .inl rfl | show .inr rfl | assumption):PG X (.Name x pos) (uf i):=by
 intro e s f H v u Q I r h;show wpAny_assign_Name (ql I a hi b r (λs' d=>{_,H,d,h}) c)
def Zx:TGs:=λvs a H Q=>vs=[]/\Q a H
def Kt (t:TG)(u:TGs):TGs:=λvs b H Q=>∃v r,vs=v::r/\t v b H λa H'=>u r a H' Q
def Gg:PGs X [] Zx:=by
 intro b s a H vs us Q I r h;obtain⟨e,h⟩:=h;subst e;cases r;show assignInOrder_nil #v[a,H,I,h]
def qo {a:List MC}(d:PG X e t)(f:PGs X a u)
  (hs:(jK (e::a) X.env).map (·.2)=lR e X.env::(jK a X.env).map (·.2):=by rfl):PGs X (e::a) (Kt t u):=by
 intro c s g H vs us Q I r h;obtain⟨v,p,i,h⟩:=h;subst i;cases r with
 |cons r j=>
  rw[hs];show assignInOrder_cons (thn (d c s g H _ _ _ I r h) λ_ s1 l=>?_);obtain⟨b,m,n,o⟩:=l;show f c s1 b m _ _ Q n j o
def gTup (K:aF)(n:Nat)(t:TGs):TG:=λv b H Q=>∃a xs,v=.ref a/\SqT K H a xs/\xs.length=n/\t xs b H Q
def Wj (i:X.calm=LY)(h:PGs X c t)
  (j:(jK c X.env).length=n:=by rfl) (l:(jK c X.env).findIdx? (·.1)=LX:=by rfl):PG X (.Tuple c k pos) (gTup X.K n t):=by
 intro d s f H v u Q I r hw;obtain⟨a,xs,m,p,q,hw⟩:=hw;subst m;cases r;obtain⟨its,g,w,hz⟩:=I.tuple p;show assign_Tuple_tuple (I.ok.hd i) w (by simp[j,<-q,g.length]) l λh' x=>?_;have y:Inv X d f H { s with heap:=h' }:=I.kept (t':=s.toks) λb o e=>x b o (bK (aX e)) e;show h d _ f H xs _ Q y (by simpa using g) hw
def gSub (to b:TE)(t:K8):TG:=λv a H Q=>to a H λo c=>b a c λi d=>t o i v d λH3=>Q a H3
def Wk {o i:MC}{to e:TE}{t:K8}(f:PE X o to)(hi:PE X i e)(hs:Tn X t)
  (g:∀v,lR (.Subscript o i pos) X.env v=(do
    let a <-jZ [v] (eval o X.env)
    let iv <-jZ [v,a] (eval i X.env)
    oX pos
    jZ [v,a,iv] (uP a iv v)
    release [v,a,iv] []):=by intro _;rfl):PG X (.Subscript o i pos) (gSub to e t):=by
 intro d s c H v u Q I r h;rw[g];show aA (dB (thn (f d s c H _ I h) λa s1 b=>?_));obtain⟨x,j,l,m,n⟩:=b;show aA (dB (thn (hi d s1 c j _ l n) λiv p b=>?_));obtain⟨y,q,I2,w,z⟩:=b;show aA (pQ (aA (dB (thn (hs d p c q x y v a iv u _ I2 m w r z) λ_ s3 b=>?_))));obtain⟨H3,A,C⟩:=b;show wpAny_release #v[c,H3,A,C]
def K9 (te:TE)(g:TG):TS:=λD a H=>te a H λx b=>g x a b D.nx
def La {a e:MC}{te:TE}{g:TG}(d:PE X e te)(f:PG X a g)(hs:rX [a] e pos.line X.env=pure LZ:=by rfl)(hw:rY [a] e X.env=pure LX:=by rfl)
  (i:(jK [a] X.env).map (·.2)=[lR a X.env]:=by rfl):PS X (.Assign [a] e pos) (K9 te g):=by
 intro b s c H D I h;show wpAny_Assign_stores (thn (d b s c H _ I h) λv s1 j=>?_) hs hw;obtain⟨x,l,m,n,o⟩:=j;rw[i];show thn (f b s1 c l x v _ m n o) λ_ p q=>q
def Eo {i:Nat}{x:Str}{e:MC}{te:TE}{a:Pos}(b:X.N.Nodup)(hi:X.N[i]?=KE x)(c:Loc X.env.scope x)(d:PE X e te)(hs:kA e (KE (.Name x a)) pos.line X.env=pure LZ:=by rfl)(f:X.fn x=LY\/X.env.scope.names.lookup x=KE .local:=by first | show .inl rfl | show .inr rfl | assumption) :
  PS X (.Assign [.Name x a] e pos) (K9 te (uf i)):=by
 intro g s j H D I h;show wpAny_Assign_Name (thn (d g s j H _ I h) λv s1 l=>?_) hs;obtain⟨y,m,n,o,p⟩:=l;show ql n b hi c o (λq I2=>{_,m,I2,p}) f
def tAug (i:Nat)(te:TE)(b:TIp):TS:=λD a H=>∃x,a[i]?=KE (KE x)/\te a H λy c=>b x y c λz d=>D.nx (a.set i (KE z)) d
def Wl {i:Nat}(o:X.N.Nodup)(hi:X.N[i]?=KE x)(d:Loc X.env.scope x)(p:PE X e te)(q:PIp X op C)(E:X.fn x=LY\/X.env.scope.names.lookup x=KE .local:=by first | show .inl rfl | show .inr rfl | assumption) :
  PS X (.AugAssign (.Name x wX) op e pos) (tAug i te C):=by
 intro f s n H D I h;obtain⟨v,G,h⟩:=h;obtain⟨m,J,L⟩:=I.loc;have g:Vis X.env.scope x:=(by rcases d with k | k;show .inl k;show .inr (.inl k));obtain⟨u,r,l⟩:=L i x v hi G g;show wpAny_AugAssign_Name ?_;have go:aM (aY X.prog X.w) X.A (eval e X.env) (λw a=>aM (aY X.prog X.w) X.A (inplaceOp op u w) (λr b=>aM (aY X.prog X.w) X.A (storeName X.env x r) (λ_=>SP X f D .next) X.xe b) X.xe a) X.xe s:=by
  show thn (p f s n H _ I h) λw s1 j=>?_;obtain⟨y,O,Q,T,U⟩:=j;show thn (q f s1 n O v y u w _ Q r T U) λz s2 j=>?_;obtain⟨zv,Y,I2,r2,q2⟩:=j;show ql I2 o hi d r2 (λs3 I3=>{_,Y,I3,q2}) E
 rcases l with⟨hk,hm⟩ | ⟨hk,c,hc,BA⟩
 ·show wpAny_loadName_local I.ok.kind hk J hm go
 ·rcases hk with hk | hk
  ·show wpAny_loadName_cell I.ok.kind hk hc BA go
  ·rcases d with k | k
   ·have:X.env.scope.names.lookup x=KE .free:=hk;rw[k]at this;cases this
   ·have:X.env.scope.names.lookup x=KE .free:=hk;rw[k]at this;cases this
def ipI (f:Int->Int->Int):TIp:=λx y H Q=>∃i j,x=.int i/\y=.int j/\Q (.int (f i j)) H
def ajd (c:TT)(tb:TS):TS:=λD a H=>∃W:Nat->St->Hp->Prop,(∃m,W m a H)/\∀m a H,W m a H->
 c a H λb e=>if b=LY then ∃N:St->Hp->Prop,(∀d H',N d H'->∃f,f < m/\W f d H')/\tb { D with nx:=N,ct:=N,bk:=D.nx } a e else D.nx a e
def Zy {body:List MD}(q:sM (aY X.prog X.w) X.A X.env X.xe)(y:PT X c z)(C:PSs X body tb):PS X (.While c body [] pos) (ajd z tb):=by
 intro j s E H D I h;obtain⟨W,⟨G,J⟩,L⟩:=h;show wpAny_While (codeAny_whileLoop (λn s'=>∃e H',Inv X j e H' s'/\W n e H') ?_ G #v[E,H,I,J]);intro n s1 O;obtain⟨d,r,Q,T⟩:=O;show iZ q (thn (y j s1 d r _ Q (L n d r T)) λb U Y=>?_);obtain⟨u,I2,g⟩:=Y;cases b with
 |true=>
  obtain⟨N,x,g⟩:=g;rw[ME rfl];show iZ q (thn (C j U d u _ I2 g) λf s3 i=>?_);cases f with
  |next=>
   obtain⟨a,H3,l,n3⟩:=i;obtain⟨m,o,p⟩:=x a H3 n3;show#v[m,o,a,H3,l,p]
  |cont=>
   obtain⟨a,H3,l,n3⟩:=i;obtain⟨m,o,p⟩:=x a H3 n3;show#v[m,o,a,H3,l,p]
  |brk=>show i
  |ret v=>show i
 |false=>
  rw[MF aQ];show nY #v[d,u,I2,g]
end
structure It where
 go:Nat->Hp->Prop
 yld:Nat->Hp->V->Hp->Prop
 stop:Nat->Hp->Prop
def lh (X:Cx)(a:List (MA×Obj))(H:Hp)(b:MA):Prop:=
 H b=LX/\b≠X.env.locals/\b ∉ X.fs/\(b∈X.ex\/X.s₀.heap.objs.size<=b)/\(∀x c,X.env.cells.lookup x=KE c->c≠b)/\∀p∈X.pn++a,p.1≠b
def Inv.fpOk (I:Inv X d h H s)(a:‹s›<=b)(f:H' b=LX):lh X d H' b:=by
 show{f,fE (bO I.lt a),I.nofs a,.inr (bL I.sz a),λx c e z=>?_,λp g z=>?_}
 ·obtain⟨v,q⟩:=I.cell x c e;show MI (bO q.lt (by rw[z];show a)) (fS _)
 ·show MI (bO (aX (I.pin p g).1) (by rw[z];show a)) (fS _)
structure yy (P:aV)(w:bC)(K:aF)(tg:MC)(J:It)(fp:List MA)(it:MA)(tn:Nat->MB->Prop):Prop where
 mem:it∈fp
 obj:∀i h,tn i h->∀b∈fp,∃o,h.get? b=KE o/\∀v,o.data≠.cell v
 keep:∀i h h',tn i h->(∀b∈fp,∀o,h.get? b=KE o->h'.get? b=KE o)->tn i h'
 item:∀X,X.prog=P->X.w=w->X.K=K->X.calm=LY->∀i uS s σ H E,Inv X uS σ H s->(∀b∈fp,lh X uS H b)->tn i s.heap->J.go i H->
  aM (aY P w) X.A (gU (.ref it)) (λr s1=>∃u,r=KE u/\aM (aY P w) X.A (nZ tg (.ref it) u) (λ_ s2=>∃x H',Inv X uS σ H' s2/\RelV x u/\J.yld i H x H'/\tn (i+1) s2.heap/\∀b∈fp,H' b=LX) E s1) E s
 done:∀X,X.prog=P->X.w=w->X.K=K->X.calm=LY->∀i uS s σ H E,Inv X uS σ H s->(∀b∈fp,lh X uS H b)->tn i s.heap->J.stop i H->
  aM (aY P w) X.A (gU (.ref it)) (λr s1=>r=LX/\Inv X uS σ H s1) E s
 self:∀A i s Q E,tn i s.heap->Q (.ref it) s->aM (aY P w) A (sN (.ref it)) Q E s
abbrev TI:=St->Hp->(It->Hp->Prop)->Prop
def PIE (X:Cx)(a:List (MA×Obj))(f:St)(g:MC)(R:It->Hp->Prop)(h:aE)(c:aK):Prop:=
 ∃it d e J H',h=.ref it/\Inv X a f H' c/\yy X.prog X.w X.K g J d it e/\e 0 c.heap/\(∀b∈d,lh X a H' b)/\R J H'
def PI (X:Cx)(c iter:MC)(d:TI):Prop:=
 ∀b s a H R,Inv X b a H s->d a H R->
  aM (aY X.prog X.w) X.A (eval iter X.env) (λv s1=>aM (aY X.prog X.w) X.A (sN v) (PIE X b a c R) X.xe s1) X.xe s
def B3 (b:s.heap.get? it=KE o)(c:o.cls=.type n)(hd:o.data=.fields vs)
  (d:["enumerate","zip","dict_itemiterator","dict_reverseitemiterator","odict_iterator","itertools.zip_longest","itertools.pairwise"].contains n=LZ) (a:Q Unit.unit s):aM M A (nZ e (.ref it) u) Q E s:=by
 unfold nZ;cases e<;>first
  |show wpAny_pure a
  | (cases u<;>first
      |show wpAny_pure a
      | (show aA (wpAny_load b ?_)
         rw[c,hd];change aM M A (if (["enumerate","zip","dict_itemiterator","dict_reverseitemiterator","odict_iterator","itertools.zip_longest","itertools.pairwise"].contains n && vs[0]? == KE (iU _))=LY then _ else _) Q E s
         rw[MF (by intro h;rw[d,Bool.false_and]at h;cases h)];show wpAny_pure a))
def Itl (K:aF)(a:MA):It:=
 {λi H=>∃xs x,SqL K H a xs/\xs[i]?=KE x,λi H x H'=>H'=H/\∀xs,SqL K H a xs->xs[i]?=KE x,λi H=>∃xs,SqL K H a xs/\xs.length<=i}
def Itt (K:aF)(a:MA):It:=
 {λi H=>∃xs x,SqT K H a xs/\xs[i]?=KE x,λi H x H'=>H'=H/\∀xs,SqT K H a xs->xs[i]?=KE x,λi H=>∃xs,SqT K H a xs/\xs.length<=i}
def Itr (lo:Int)(n:Nat):It:={λi _=>i < n,λi H x H'=>H'=H/\x=.int (lo+i),λi _=>n<=i}
def Wm {P:aV}{w:bC}{K:aF}{tg:MC}(a it:MA):yy P w K tg (Itl K a) [it] it (λi h=>h.IsListIter it a i) where
 mem:=by simp
 obj:=λi h st b hb=>by
  have e:b=it:=(by simpa using hb);subst e;obtain⟨o,e,c,d⟩:=st;show{o,e,λv z=>by rw[d]at z;cases z}
 keep:=λi h h' st k=>st.at λo e=>k it ∅ o e
 item:=by
  intro X hP hw hK hc i uS s σ H E I hf st hg;subst hP hw hK;obtain⟨xs,x,hq,hx⟩:=hg;obtain⟨its,rv,p,hz⟩:=I.list hq;obtain⟨u,hu,ru⟩:=rv.get hx;obtain⟨f0,f1,f2,f3,f4,f5⟩:=hf it ∅;show wpAny_pyNext_list_item st p.isList (x:=u) (by simpa using hu) λh' zA sb=>?_;have I1:Inv X uS σ H { s with heap:=h' }:=I.turned (t':=s.toks) (λb o hb e=>(sb.2 b hb).trans e) f0 f1 f3 f4 f5;obtain⟨o,e,c,d⟩:=id zA;show⟨u,rfl,B3 (s:={ s with heap:=h' }) e c d (by decide) {x,H,I1,ru,{rfl,λys hy=>by rw[I.list_inj hy hq];show hx},zA,λb hb=>(hf b hb).1}⟩
 done:=by
  intro X hP hw hK hc i uS s σ H E I hf st hg;subst hP hw hK;obtain⟨xs,hq,hx⟩:=hg;obtain⟨its,rv,p,hz⟩:=I.list hq;obtain⟨f0,f1,f2,f3,f4,f5⟩:=hf it ∅;have hl:=rv.length;show wpAny_pyNext_list_end (I.ok.hd hc) st p.isList (by simp;lia) λh' eb=>{rfl,I.turned (t':=s.toks) (λb o hb e=>eb b o hb e) f0 f1 f3 f4 f5}
 self:=λ_ _ _ _ _ st h=>wpAny_pyIter_listiter st h
def To {P:aV}{w:bC}{K:aF}{tg:MC}(a it:MA):yy P w K tg (Itt K a) [it] it (λi h=>h.IsTupleIter it a i) where
 mem:=by simp
 obj:=λi h st b hb=>by
  have e:b=it:=(by simpa using hb);subst e;obtain⟨o,e,c,d⟩:=st;show{o,e,λv z=>by rw[d]at z;cases z}
 keep:=λi h h' st k=>st.at λo e=>k it ∅ o e
 item:=by
  intro X hP hw hK hc i uS s σ H E I hf st hg;subst hP hw hK;obtain⟨xs,x,hq,hx⟩:=hg;obtain⟨its,rv,p,hz⟩:=I.tuple hq;obtain⟨u,hu,ru⟩:=rv.get hx;obtain⟨f0,f1,f2,f3,f4,f5⟩:=hf it ∅;show wpAny_pyNext_tuple_item st (show s.heap.IsTuple a its.toArray from p) (x:=u) (by simpa using hu) λh' zA sb=>?_;have I1:Inv X uS σ H { s with heap:=h' }:=I.turned (t':=s.toks) (λb o hb e=>(sb.2 b hb).trans e) f0 f1 f3 f4 f5;obtain⟨o,e,c,d⟩:=id zA;show⟨u,rfl,B3 (s:={ s with heap:=h' }) e c d (by decide) {x,H,I1,ru,{rfl,λys hy=>by rw[I.tuple_inj hy hq];show hx},zA,λb hb=>(hf b hb).1}⟩
 done:=by
  intro X hP hw hK hc i uS s σ H E I hf st hg;subst hP hw hK;obtain⟨xs,hq,hx⟩:=hg;obtain⟨its,rv,p,hz⟩:=I.tuple hq;obtain⟨f0,f1,f2,f3,f4,f5⟩:=hf it ∅;have hl:=rv.length;show wpAny_pyNext_tuple_end (I.ok.hd hc) st (show s.heap.IsTuple a its.toArray from p) (by simp;lia) λh' eb=>{rfl,I.turned (t':=s.toks) (λb o hb e=>eb b o hb e) f0 f1 f3 f4 f5}
 self:=λ_ _ _ _ _ st h=>wpAny_pyIter_tupleiter st h
def Tp {P:aV}{w:bC}{K:aF}{tg:MC}(it:MA)(lo:Int)(n:Nat):yy P w K tg (Itr lo n) [it] it (λi h=>rE h it (lo+(i:Nat) * 1) ((n:Int) - (i:Nat)) 1) where
 mem:=by simp
 obj:=λi h st b hb=>by
  have e:b=it:=(by simpa using hb);subst e;show⟨_,st,λv z=>by
    have z':rF _=pJ v:=z;cases z'⟩
 keep:=λi h h' st k=>k it ∅ _ st
 item:=by
  intro X hP hw hK hc i uS s σ H E I hf st hg;subst hP hw hK;obtain⟨f0,f1,f2,f3,f4,f5⟩:=hf it ∅;have W:=Walks.range (prog:=X.prog) (w:=X.w) (I.ok.hd hc) it lo 1 n;show W.item i s _ _ hg st λv h' tk hv zA kk=>?_;obtain⟨t,rfl⟩:=hv;have I1:Inv X uS σ H { s with heap:=h',toks:=tk }:=I.turned (λb o hb e=>kk b o (by simpa using hb) e) f0 f1 f3 f4 f5;show⟨_,rfl,B3 (s:={ s with heap:=h',toks:=tk }) (n:="range_iterator") zA rfl rfl (by decide) {.int (lo+i),H,I1,{t,?_},#v[rfl,rfl],zA,λb hb=>(hf b hb).1}⟩;rw[Int.mul_one]
 done:=by
  intro X hP hw hK hc i uS s σ H E I hf st hg;subst hP hw hK;obtain⟨f0,f1,f2,f3,f4,f5⟩:=hf it ∅;show wpAny_pyNext_range_end (I.ok.hd hc) st (by have:n<=i:=hg;lia) λh' eb=>{rfl,I.turned (t':=s.toks) (λb o hb e=>eb b o hb e) f0 f1 f3 f4 f5}
 self:=λ_ _ _ _ _ st h=>wpAny_pyIter_rangeiter st h
section
variable {X:Cx}{tg:MC}
def iList (K:aF)(c:TE):TI:=λd H R=>c d H λx b=>∃a,x=.ref a/\(∃xs,SqL K b a xs)/\R (Itl K a) b
def iTup (K:aF)(c:TE):TI:=λd H R=>c d H λx b=>∃a,x=.ref a/\(∃xs,SqT K b a xs)/\R (Itt K a) b
def aff {l:MC}{d:TE}(f:PE X l d):PI X tg l (iList X.K d):=by
 intro g s i H R I h;show thn (f g s i H _ I h) λv s1 j=>?_;obtain⟨x,m,c,n,r⟩:=j;obtain⟨a,e,⟨xs,u⟩,q⟩:=r;subst e;cases n;obtain⟨its,y,p,hz⟩:=c.list u;show eA p.isList ?_;show{‹s1›,[‹s1›],_,_,m,rfl,c.kept (t':=s1.toks) λb o e=>aG _ e,Wm a _,{_,aW _ rfl,rfl,rfl},λb w=>?_,q};have e:b=‹s1›:=(by simpa using w);subst e;show c.fpOk (aJ _) (c.hok.fresh (aJ _))
def aje {l:MC}{d:TE}(f:PE X l d):PI X tg l (iTup X.K d):=by
 intro g s i H R I h;show thn (f g s i H _ I h) λv s1 j=>?_;obtain⟨x,m,c,n,r⟩:=j;obtain⟨a,e,⟨xs,u⟩,q⟩:=r;subst e;cases n;obtain⟨its,y,p,hz⟩:=c.tuple u;show fR (show s1.heap.IsTuple a its.toArray from p) ?_;show{‹s1›,[‹s1›],_,_,m,rfl,c.kept (t':=s1.toks) λb o e=>aG _ e,To a _,{_,aW _ rfl,rfl,rfl},λb w=>?_,q};have e:b=‹s1›:=(by simpa using w);subst e;show c.fpOk (aJ _) (c.hok.fresh (aJ _))
def Zz {a:List (MA×Obj)}{s:aK}{R:It->Hp->Prop}{E:aE->aK->Prop}{lo hi:Int}{c:Nat}(I:Inv X a f H s)(g:-(2 ^ 62)<=lo)(h:lo < 2 ^ 62)(i:-(2 ^ 62)<=hi)(j:hi < 2 ^ 62)
  (q:R (Itr lo (hi - lo).toNat) H):aM (aY X.prog X.w) X.A (sN (.ref ‹s›)) (PIE X a f tg R) E { s with heap:=s.heap.push { cls:=.type "range",data:=.fields #[.int lo t,.int hi u,.int 1 v] },toks:=c }:=by
 show wpAny_pyIter_range (IsRange.new ..) (small_one g h i j) ?_;have d:Inv X a f H { s with heap:=s.heap.push { cls:=.type "range",data:=.fields #[.int lo t,.int hi u,.int 1 v] },toks:=c }:=I.kept λb o e=>aG _ e;show{(s.heap.push { cls:=.type "range",data:=.fields #[.int lo t,.int hi u,.int 1 v] }).objs.size,[(s.heap.push { cls:=.type "range",data:=.fields #[.int lo t,.int hi u,.int 1 v] }).objs.size],_,_,H,rfl,d.kept (t':=c) λb o e=>aG _ e,Tp _ lo (hi - lo).toNat,?_,λb l=>?_,q}
 ·have m:lo+((0:Nat):Int) * 1=lo:=∅;have n:(((hi - lo).toNat:Nat):Int) - ((0:Nat):Int)=jX lo hi 1:=(by rw[rangeSize_one];split<;>lia);change rE _ _ (lo+((0:Nat):Int) * 1) ((((hi - lo).toNat:Nat):Int) - ((0:Nat):Int)) 1;rw[m,n];show aW _ rfl
 ·have e:b=(s.heap.push { cls:=.type "range",data:=.fields #[.int lo t,.int hi u,.int 1 v] }).objs.size:=(by simpa using l);subst e;show d.fpOk (aJ _) (d.hok.fresh (aJ _))
def aed (a:TA):TI:=λb H R=>a b H λvs c=>∃j:Int,vs=[.int j]/\-(2 ^ 62)<=j/\j < 2 ^ 62/\R (Itr 0 j.toNat) c
def Ie {a:MC}{d:TA}{p b:Pos}(f:Gl X "range")(g:X.mg "range"=LX)(i:PA X [a] d)(hs:aP [a] X.env=[(LZ,eval a X.env)]:=by rfl):PI X tg (.Call (.Name "range" p) [a] [] b) (aed d):=by
 intro l s m H R I h;show Call_ (lg I f g boot_range (eY (thn (i b l s m H _ I h) λus s1 n=>?_) hs rfl));obtain⟨vs,y,o,u,c⟩:=n;obtain⟨j,e,c,w,q⟩:=c;subst e;cases u with
 |cons r x=>
  cases x;obtain⟨t,rfl⟩:=r;show call_range_1 (Zz o () () c w (by simpa using q))
def Z0 (e:TI)(g:TG)(tb:TS):TS:=λD a H=>e a H λJ f=>∃W:Nat->Nat->St->Hp->Prop,(∃m,W 0 m a f)/\∀i m a H,W i m a H->
 (J.stop i H/\D.nx a H)\/(J.go i H/\∃N:St->Hp->Prop,(∀b H',N b H'->∃d,d < m/\W (i+1) d b H')/\∀x H',J.yld i H x H'->g x a H' λc h=>tb { D with nx:=N,ct:=N,bk:=D.nx } c h)
def x4 (a:List MA)(h:MB):List (MA×Obj):=a.filterMap λb=>(h.get? b).map λo=>(b,o)
def mq (a:b∈c)(e:h.get? b=KE o):(b,o)∈x4 c h:=List.mem_filterMap.mpr {b,a,by rw[e];rfl}
def Wn (a:p∈x4 c h):p.1∈c/\h.get? p.1=KE p.2:=by
 obtain⟨b,d,e⟩:=List.mem_filterMap.mp a;cases q:h.get? b with
 |none=>rw[q]at e;cases e
 |some o=>
  rw[q]at e;have f:(b,o)=p:=bX e;subst f;show#v[d,q]
def Inv.pinned (I:Inv X a h H s)(i:∀b∈c,lh X a H b)(j:∀b∈c,∃o,s.heap.get? b=KE o/\∀v,o.data≠.cell v):Inv X (a++x4 c s.heap) h H s:=
 I.pins_of λp l=>(cS.mp l).elim (λz=>I.pin p (bQ _ z)) λz=>by
  obtain⟨f,e⟩:=Wn z;obtain⟨m,n,q,_⟩:=i p.1 f;obtain⟨o,g,d⟩:=j p.1 f;rw[e]at g;cases g;show#v[e,m,n,q,d]
def Inv.unpinned (I:Inv X (a++pl) b H s):Inv X a b H s:=I.pins_of λp c=>I.pin p (bQ _ (dS _ c))
def Lb (E:sM (aY X.prog X.w) X.A X.env X.xe)(hc:X.calm=LY)(hi:PI X tg iter wi)(hg:PG X tg g)(c:PSs X body tb)
  (hs:∀x,iK iter X.env x=pure x:=by intro _;rfl):PS X (.For tg iter body [] pos) (Z0 wi g tb):=by
 intro z s σ H D I h;show wpAny_For (thn (hi z s σ H _ I h) λv s1 h1=>thn h1 λHF s2 h2=>?_) hs;obtain⟨it,G,tn,J,H2,e,I2,T,AK,f2,W,⟨m0,w0⟩,zF⟩:=h2;subst e;have O:∀{H'},(∀b∈G,H' b=LX)->∀b∈G,lh X z H' b:=λhn b c=>{hn b c,(f2 b c).2};show codeAny_forLoop_any (λn s'=>∃i j H',Inv X z j H' s'/\tn i s'.heap/\(∀b∈G,H' b=LX)/\W i n j H') ?_ m0 {0,σ,H2,I2,AK,λb c=>(f2 b c).1,w0};intro n s3 uY;obtain⟨i,l,H3,I3,DM,FB,w3⟩:=uY;rcases zF i n l H3 w3 with⟨stop,qn⟩ | ⟨go,N,hN,step⟩
 ·show iZ E (thn (T.done X rfl rfl rfl hc i z s3 l H3 X.xe I3 (O FB) DM stop) λr s4 C=>?_);obtain⟨Q,I4⟩:=C;subst Q;show nY #v[l,H3,I4,qn]
 ·show iZ E (thn (T.item X rfl rfl rfl hc i z s3 l H3 X.xe I3 (O FB) DM go) λr s4 C=>?_);obtain⟨u,Q,h4⟩:=C;subst Q;show iZ E (thn h4 λ_ s5 C=>?_);obtain⟨x,H5,I5,r5,y5,U,EB⟩:=C;have Y:=I5.pinned (O EB) (T.obj _ _ U);show iZ E (thn (hg _ s5 l H5 x u _ Y r5 (step x H5 y5)) λ_ s6 C=>?_);obtain⟨σ6,H6,I6,q6⟩:=C;show iZ E (thn (c _ s6 σ6 H6 _ I6 q6) λf s7 y=>?_);have again:∀{a p},Inv X (z++x4 G s5.heap) a p s7->N a p->∃m,m < n/\∃i j H',Inv X z j H' s7/\tn i s7.heap/\(∀b∈G,H' b=LX)/\W i m j H':=λ{a p} q L=>by
   obtain⟨m',hm,w7⟩:=hN a p L;show{m',hm,i+1,a,p,q.unpinned,T.keep _ _ _ U λb c o e=>(q.pin (b,o) (bQ _ (bQ _ (mq c e)))).1,λb c=>?_,w7};obtain⟨o,e,d⟩:=T.obj _ _ U b c;show(q.pin (b,o) (bQ _ (bQ _ (mq c e)))).2.1
  cases f with
  |next=>obtain⟨a,p,q,L⟩:=y;show again q L
  |cont=>obtain⟨a,p,q,L⟩:=y;show again q L
  |brk=>obtain⟨a,p,q,y⟩:=y;show#v[a,p,q.unpinned,y]
  |ret v=>obtain⟨x7,a,p,q,r7,y⟩:=y;show#v[x7,a,p,q.unpinned,r7,y]
end
abbrev R2:=V->V->Hp->VK->Prop
def OpR (X:Cx)(f:aE->aE->Sem aE)(r:R2):Prop:=
 ∀a s b H x y v u Q,Inv X a b H s->RelV x v->RelV y u->r x y H Q->
  aM (aY X.prog X.w) X.A (f v u) (EP X a b Q) X.xe s
def UnR (X:Cx)(f:aE->Sem aE)(r:V->Hp->VK->Prop):Prop:=
 ∀a s b H x v Q,Inv X a b H s->RelV x v->r x H Q->
  aM (aY X.prog X.w) X.A (f v) (EP X a b Q) X.xe s
def kz (X:Cx)(f:aE)(r:List V->Hp->VK->Prop):Prop:=
 ∀a s b H xs us Q,Inv X a b H s->Vals xs us->r xs H Q->
  aM (aY X.prog X.w) X.A (call f us) (EP X a b Q) X.xe s
def TruR (X:Cx)(r:V->Hp->(Bool->Hp->Prop)->Prop):Prop:=
 ∀a s b H x v Q,Inv X a b H s->RelV x v->r x H Q->
  aM (aY X.prog X.w) X.A (truthy v) (TP X a b Q) X.xe s
def tOp (r:R2)(b tb:TE):TE:=λa H Q=>b a H λx c=>tb a c λy d=>r x y d Q
def tUn (r:V->Hp->VK->Prop)(a:TE):TE:=λb H Q=>a b H λx c=>r x c Q
def rI (C:Int->Int->Prop)(g:Int->Int->V):R2:=λx y H Q=>∃i j,x=.int i/\y=.int j/\C i j/\Q (g i j) H
def rI0 (g:Int->Int->V):R2:=λx y H Q=>∃i j,x=.int i/\y=.int j/\Q (g i j) H
def rU (g:Int->V):V->Hp->VK->Prop:=λx H Q=>∃i,x=.int i/\Q (g i) H
section
variable {X:Cx}{a b c:MC}{ta tb tc:TE}{pos:Pos}
def Z3 (o:PE X a ta)(p:PE X b tb){j:List (MA×Obj)}{s:aK}{d:St}{H:Hp}{R:V->V->Hp->Prop}(I:Inv X j d H s)
  (h:ta d H λx m=>tb d m λy e=>R x y e) {Q:aE->aK->Prop}{f:aE->aE->Sem aE}
  (q:∀v u l x y e,Inv X j d e l->RelV x v->RelV y u->R x y e->aM (aY X.prog X.w) X.A (f v u) Q X.xe l) :
  aM (aY X.prog X.w) X.A (eval a X.env) (λv g=>aM (aY X.prog X.w) X.A (eval b X.env) (λu i=>aM (aY X.prog X.w) X.A (f v u) Q X.xe i) X.xe g) X.xe s:=by
 show thn (o j s d H _ I h) λv s1 n=>?_;obtain⟨x,m,r,z,C⟩:=n;show thn (p j s1 d m _ r C) λu l n=>?_;obtain⟨y,e,I2,D,E⟩:=n;show q v u l x y e I2 z D E
def pe_op {op:Operator}{r:R2}(d:OpR X (eC op) r)(e:PE X a ta)(f:PE X b tb):PE X (.BinOp a op b pos) (tOp r ta tb):=by
 intro g s i H Q I h;show wpAny_BinOp (Z3 e f I h λv u j x y l I2 m n q=>d g j i l x y v u Q I2 m n q)
def pe_un (f:UnR X (unaryOp op) r)(g:PE X a ta):PE X (.UnaryOp op a pos) (tUn r ta):=by
 intro d s e H Q I h;show UnaryOp_ (thn (g d s e H _ I h) λv s1 i=>by obtain⟨x,j,l,m,n⟩:=i;show f d s1 e j x v Q l m n)
def opI {f:aE->aE->Sem aE}{C:Int->Int->Prop}{g:Int->Int->Int}
  (rule:∀(i j:Int)(t u:Tok) (s:aK) (Q:aE->aK->Prop) (E:aE->aK->Prop),C i j->Q (.int (g i j) s.toks) { s with toks:=s.toks+1 }->aM (aY X.prog X.w) X.A (f (.int i t) (.int j u)) Q E s) :
  OpR X f (rI C λi j=>.int (g i j)):=by
 intro m s n H x y v u Q I d e h;obtain⟨i,j,rfl,rfl,l,q⟩:=h;obtain⟨t,rfl⟩:=d;obtain⟨t',rfl⟩:=e;show rule i j t t' s _ _ l {.int (g i j),H,I.tok _,{_,rfl},q}
def Tq {f:aE->aE->Sem aE}{g:Int->Int->Int}
  (rule:∀(i j:Int)(t u:Tok) (s:aK) (Q:aE->aK->Prop) (E:aE->aK->Prop),Q (.int (g i j) s.toks) { s with toks:=s.toks+1 }->aM (aY X.prog X.w) X.A (f (.int i t) (.int j u)) Q E s) :
  OpR X f (rI0 λi j=>.int (g i j)):=by
 intro l s m H x y v u Q I d e h;obtain⟨i,j,rfl,rfl,q⟩:=h;obtain⟨t,rfl⟩:=d;obtain⟨t',rfl⟩:=e;show rule i j t t' s _ _ {.int (g i j),H,I.tok _,{_,rfl},q}
def Z4 {f:aE->aE->Sem aE}{g:Int->Int->Bool}
  (rule:∀(i j:Int)(t u:Tok) (s:aK) (Q:aE->aK->Prop) (E:aE->aK->Prop),Q (.bool (g i j)) s->aM (aY X.prog X.w) X.A (f (.int i t) (.int j u)) Q E s) :
  OpR X f (rI0 λi j=>.bl (g i j)):=by
 intro l s m H x y v u Q I d e h;obtain⟨i,j,rfl,rfl,q⟩:=h;obtain⟨t,rfl⟩:=d;obtain⟨t',rfl⟩:=e;show rule i j t t' s _ _ {.bl (g i j),H,I,rfl,q}
def Lc (i j:Int):Prop:=0 < j/\j < 1073741824
def Gh (i j:Int):Prop:=0<=j/\j<=1000000/\i.natAbs < 2 ^ 64
def CMul (i j:Int):Prop:=(-(2 ^ 64) < i/\i < 2 ^ 64)\/(-(2 ^ 64) < j/\j < 2 ^ 64)
def CMul.ok {i j:Int}(h:CMul i j):IntMulOk i j:=by
 rcases h with⟨d,e⟩ | ⟨d,e⟩
 ·show .of_left (intBits_le_64 d e)
 ·show .of_right (intBits_le_64 d e)
def Tt (k:Nat):(0:Int)<=2 ^ k:=by
 rw[two_pow_cast];show lS _
def ajf:OpR X (eC .Add) (rI0 λi j=>.int (i+j)):=Tq λ_ _ _ _ _ _ _ q=>add_int q
def ajg:OpR X (eC .Sub) (rI0 λi j=>.int (i - j)):=Tq λ_ _ _ _ _ _ _ q=>sub_int q
def ajh:OpR X (eC .Mult) (rI CMul λi j=>.int (i * j)):=opI λ_ _ _ _ _ _ _ d q=>mul_int q d.ok
def afg:OpR X (eC .FloorDiv) (rI Lc λi j=>.int (i / j)):=opI λi j _ _ _ _ _ d q=>by
 have e:(0:Int) < j:=d.1;have f:j < 1073741824:=d.2;show floordiv_int () (by rw[Int.fdiv_eq_ediv_of_nonneg i ()];show q) (.inl (PyProof.noPylong_small ()))
def aji:OpR X (eC .Mod) (rI (λ_ j=>0 < j) λi j=>.int (i % j)):=opI λi j _ _ _ _ _ d q=>by
 have e:(0:Int) < j:=d;show mod_int' () (by rw[Int.fmod_eq_emod_of_nonneg i ()];show q)
def ajj:OpR X (eC .LShift) (rI Gh λi j=>.int (i * 2 ^ j.toNat)):=opI λ_ _ _ _ _ _ _ d q=>lshift_int_small d.1 d.2.1 d.2.2 q
def ajk:OpR X (eC .RShift) (rI (λ_ j=>0<=j) λi j=>.int (i / 2 ^ j.toNat)):=opI λi j _ _ _ _ _ d q=>
 rshift_int d (by rw[Int.fdiv_eq_ediv_of_nonneg i (Tt _)];show q)
def ajl:OpR X (eC .BitAnd) (rI0 λi j=>.int (eG i j)):=Tq λ_ _ _ _ _ _ _ q=>and_int q
def op_or:OpR X (eC .BitOr) (rI0 λi j=>.int (dW i j)):=Tq λ_ _ _ _ _ _ _ q=>or_int q
def unI {f:aE->Sem aE}{g:Int->Int}
  (rule:∀(i:Int)(t:Tok) (s:aK) (Q:aE->aK->Prop) (E:aE->aK->Prop),Q (.int (g i) s.toks) { s with toks:=s.toks+1 }->aM (aY X.prog X.w) X.A (f (.int i t)) Q E s) :
  UnR X f (rU λi=>.int (g i)):=by
 intro e s j H x v Q I d h;obtain⟨i,rfl,q⟩:=h;obtain⟨t,rfl⟩:=d;show rule i t s _ _ {.int (g i),H,I.tok _,{_,rfl},q}
def ajm:UnR X (unaryOp .USub) (rU λi=>.int (-i)):=unI λ_ _ _ _ _ q=>neg_int q
end
def Z5:V->V->Bool
 | .non,.non=>LY | .non,.int _=>LY | .int _,.non=>LY | .non,.bl _=>LY | .bl _,.non=>LY | .non,.str _=>LY | .str _,.non=>LY
 | .int _,.int _=>LY | .bl _,.bl _=>LY | .str _,.str _=>LY | .byt _,.byt _=>LY
 | .int _,.str _=>LY | .str _,.int _=>LY | .bl _,.str _=>LY | .str _,.bl _=>LY
 |_,_=>LZ
def rEq:R2:=λx y H Q=>Z5 x y=LY/\Q (.bl (decide (x=y))) H
def rNe:R2:=λx y H Q=>Z5 x y=LY/\Q (.bl (!decide (x=y))) H
def R1:decide (V.int i=V.int j)=(i == j):=by
 rw[kB];simp
def Wo:decide (V.bl i=V.bl j)=(i == j):=by
 rw[kB];simp
def R3:decide (V.str i=V.str j)=(i == j):=by
 rw[kB];simp
def R4:decide (V.byt i=V.byt j)=(i.toList == j.toList):=by
 rw[kB];cases i;cases j;simp
section
variable {X:Cx}{a b c:MC}{ta tb tc:TE}{pos:Pos}
def cy (I:Inv X d f H s)(q:Q (.bl k) H)(e:k=g):EP X d f Q (.bool g) s:=by
 subst e;show{.bl k,H,I,rfl,q}
def op_eq:OpR X (eP .Eq) rEq:=by
 intro f s g H x y v u Q I e d h;obtain⟨hs,q⟩:=h;cases x with
 |non=>
  cases e;cases y with
  |non=>cases d;show PySem.EqNone.eq_none_none (cy I q ∅)
  |bl j=>cases d;show PySem.EqNone.eq_none_bool (cy I q ∅)
  |int j=>obtain⟨t',rfl⟩:=d;show PySem.EqNone.eq_none_int (cy I q ∅)
  |str j=>obtain⟨t',rfl⟩:=d;show PySem.EqNone.eq_none_str (cy I q ∅)
  |_=>show MI (show LZ=LY from hs) aQ
 |bl i=>
  cases e;cases y with
  |non=>cases d;show PySem.EqNone.eq_bool_none (cy I q ∅)
  |bl j=>cases d;show eq_bool (cy I q Wo)
  |str j=>obtain⟨t',rfl⟩:=d;show PySem.EqMixed.eq_bool_str (cy I q ∅)
  |_=>show MI (show LZ=LY from hs) aQ
 |int i=>
  obtain⟨t,rfl⟩:=e;cases y with
  |non=>cases d;show PySem.EqNone.eq_int_none (cy I q ∅)
  |int j=>obtain⟨t',rfl⟩:=d;show eq_int (cy I q R1)
  |str j=>obtain⟨t',rfl⟩:=d;show PySem.EqMixed.eq_int_str (cy I q ∅)
  |_=>show MI (show LZ=LY from hs) aQ
 |str i=>
  obtain⟨t,rfl⟩:=e;cases y with
  |non=>cases d;show PySem.EqNone.eq_str_none (cy I q ∅)
  |bl j=>cases d;show PySem.EqMixed.eq_str_bool (cy I q ∅)
  |int j=>obtain⟨t',rfl⟩:=d;show PySem.EqMixed.eq_str_int (cy I q ∅)
  |str j=>obtain⟨t',rfl⟩:=d;show eq_str (cy I q R3)
  |_=>show MI (show LZ=LY from hs) aQ
 |byt i=>
  obtain⟨t,rfl⟩:=e;cases y with
  |byt j=>obtain⟨t',rfl⟩:=d;show PySem.W.eq_bytes (cy I q R4)
  |_=>show MI (show LZ=LY from hs) aQ
 |_=>cases y<;>show MI (show LZ=LY from hs) aQ
def op_ne:OpR X (eP .NotEq) rNe:=by
 intro f s g H x y v u Q I e d h;obtain⟨hs,q⟩:=h;cases x with
 |non=>
  cases e;cases y with
  |non=>cases d;show PySem.EqNone.ne_none_none (cy I q ∅)
  |bl j=>cases d;show PySem.EqNone.ne_none_bool (cy I q ∅)
  |int j=>obtain⟨t',rfl⟩:=d;show PySem.EqNone.ne_none_int (cy I q ∅)
  |str j=>obtain⟨t',rfl⟩:=d;show PySem.EqNone.ne_none_str (cy I q ∅)
  |_=>show MI (show LZ=LY from hs) aQ
 |bl i=>
  cases e;cases y with
  |non=>cases d;show PySem.EqNone.ne_bool_none (cy I q ∅)
  |bl j=>cases d;show ne_bool (cy I q (MK not Wo))
  |str j=>obtain⟨t',rfl⟩:=d;show PySem.EqMixed.ne_bool_str (cy I q ∅)
  |_=>show MI (show LZ=LY from hs) aQ
 |int i=>
  obtain⟨t,rfl⟩:=e;cases y with
  |non=>cases d;show PySem.EqNone.ne_int_none (cy I q ∅)
  |int j=>obtain⟨t',rfl⟩:=d;show ne_int (cy I q (MK not R1))
  |str j=>obtain⟨t',rfl⟩:=d;show PySem.EqMixed.ne_int_str (cy I q ∅)
  |_=>show MI (show LZ=LY from hs) aQ
 |str i=>
  obtain⟨t,rfl⟩:=e;cases y with
  |non=>cases d;show PySem.EqNone.ne_str_none (cy I q ∅)
  |bl j=>cases d;show PySem.EqMixed.ne_str_bool (cy I q ∅)
  |int j=>obtain⟨t',rfl⟩:=d;show PySem.EqMixed.ne_str_int (cy I q ∅)
  |str j=>obtain⟨t',rfl⟩:=d;show ne_str (cy I q (MK not R3))
  |_=>show MI (show LZ=LY from hs) aQ
 |byt i=>
  obtain⟨t,rfl⟩:=e;cases y with
  |byt j=>obtain⟨t',rfl⟩:=d;show PySem.W.ne_bytes (cy I q (MK not R4))
  |_=>show MI (show LZ=LY from hs) aQ
 |_=>cases y<;>show MI (show LZ=LY from hs) aQ
def op_lt:OpR X (eP .Lt) (rI0 λi j=>.bl (decide (i < j))):=Z4 λ_ _ _ _ _ _ _ q=>lt_int q
def op_gt:OpR X (eP .Gt) (rI0 λi j=>.bl (decide (j < i))):=Z4 λ_ _ _ _ _ _ _ q=>gt_int q
def op_ge:OpR X (eP .GtE) (rI0 λi j=>.bl (decide (j<=i))):=Z4 λ_ _ _ _ _ _ _ q=>ge_int q
def Ld:OpR X (eP .Is) (λx y H Q=>y=.non/\Q (.bl (decide (x=.non))) H):=by
 intro f s g H x y v u Q I d e h;obtain⟨rfl,q⟩:=h;cases e;show is_none_gen (cy I q ?_);cases x<;>first
  | (cases d;rfl)
  | (obtain⟨t,rfl⟩:=d;rfl)
def Gi:OpR X (eP .IsNot) (λx y H Q=>y=.non/\Q (.bl (!decide (x=.non))) H):=by
 intro f s g H x y v u Q I d e h;obtain⟨rfl,q⟩:=h;cases e;show isnot_none_gen (cy I q ?_);cases x<;>first
  | (cases d;rfl)
  | (obtain⟨t,rfl⟩:=d;rfl)
def OpR.or (h:OpR X f r)(h':OpR X f j):OpR X f (λx y H Q=>r x y H Q\/j x y H Q):=by
 intro d s e H x y v u Q I g i q;rcases q with q | q
 ·show h d s e H x y v u Q I g i q
 ·show h' d s e H x y v u Q I g i q
def afh {op:CmpOp}{r:R2}(d:OpR X (eP op) r)(e:PE X a ta)(f:PE X b tb)(g:pR op b=LZ):PE X (.Compare a [op] [b] pos) (tOp r ta tb):=by
 intro i s j H Q I h;show wpAny_Compare1 (Z3 e f I h λv u l x y m I2 n o q=>d i l j m x y v u Q I2 n o q) g
def tTest (t:TE):TT:=λd H Q=>t d H λx H'=>∃k,x=.bl k/\Q k H'
def afi (g:OpR X (eP op) r)(i:PE X a ta)(j:PE X b tb)(l:pR op b=LZ):PT X (.Compare a [op] [b] pos) (tTest (tOp r ta tb)):=by
 intro d s f H Q I h;show wpAny_isTrue_Compare1 (thn (i d s f H _ I h) λv s1 ⟨x,m,n,o,p⟩=>thn (j d s1 f m _ n p) λu q ⟨y,w,I2,A,C⟩=>
   thn (g d q f w x y v u _ I2 o A C) λc s3 ⟨z,H3,D,E,k,e,G⟩=>?_) l
 subst e;cases E;show kR #v[H3,D,G]
def Z6 (K:aF)(x:V)(H:Hp)(k:Bool):Prop:=
 match x with
 | .non=>k=LZ
 | .bl b=>k=b
 | .int i=>k=(i != 0)
 | .str y=>y.length<=sizeLine/\k=((y.length:Int) != 0)
 | .byt y=>y.size<=sizeLine/\k=((y.size:Int) != 0)
 | .ref p=>(∃xs,SqL K H p xs/\k=!xs.isEmpty)\/(∃xs,SqT K H p xs/\k=!xs.isEmpty)\/∃kvs,H p=KE (.dK kvs)/\k=!kvs.isEmpty
 |_=>False
def Tu {d:Type}{kvs:List (d×V)}{vs:List (d×aE)}(r:KV kvs vs):(!vs.isEmpty)=!kvs.isEmpty:=by
 cases r<;>rfl
def Ep {xs:List V}{its:List aE}(r:Vals xs its):(!its.toArray.isEmpty)=!xs.isEmpty:=by
 cases r<;>simp
def nv:(sizeLine:Nat) < 2 ^ 63:=by rw[iG];decide
def ajn:TruR X (λx H Q=>∃k,Z6 X.K x H k/\Q k H):=by
 intro o s u H x v Q I f h;obtain⟨k,e,q⟩:=h;have z:=nv;have hs:sizeLine=16777216:=iG;cases x with
 |non=>
  cases f;have d:k=LZ:=e;subst d;show truthy_none #v[H,I,q]
 |bl b=>
  cases f;have d:k=b:=e;subst d;show kR #v[H,I,q]
 |int i=>
  obtain⟨t,rfl⟩:=f;have d:k=(i != 0):=e;subst d;show PySem.P.truthy_int #v[H,I,q]
 |str y=>
  obtain⟨t,rfl⟩:=f;obtain⟨l,d⟩:y.length<=sizeLine/\k=((y.length:Int) != 0):=e;subst d;show PySem.P.truthy_str () {H,I.tok _,q}
 |byt y=>
  obtain⟨t,rfl⟩:=f;obtain⟨l,d⟩:y.size<=sizeLine/\k=((y.size:Int) != 0):=e;subst d;show PySem.W.truthy_bytes () {H,I.tok _,q}
 |ref p=>
  cases f;have d:(∃xs,SqL X.K H p xs/\k=!xs.isEmpty)\/(∃xs,SqT X.K H p xs/\k=!xs.isEmpty)\/∃kvs,H p=KE (.dK kvs)/\k=!kvs.isEmpty:=e;rcases d with⟨xs,g,d⟩ | ⟨xs,g,d⟩ | ⟨kvs,g,d⟩
  ·subst d;obtain⟨its,r,pl,hz⟩:=I.list g;have j:=r.length;show wpAny_truthy_list pl.isList (by simp only[aO];lia) {H,I.tok _,by rw[Ep r];show q}
  ·subst d;obtain⟨its,r,pl,hz⟩:=I.tuple g;have j:=r.length;show truthy_tuple pl (by simp only[aO];lia) {H,I.tok _,by rw[Ep r];show q}
  ·subst d;obtain⟨hz,n,vs,r,m⟩:kvs.length<=sizeLine/\(p == gD)=LZ/\∃vs,KV kvs vs/\s.heap.DictOf (ie X.prog X.w) p vs:=I.hok p _ g;have j:kvs.length=vs.length:=Paired.length r;show wpAny_truthy_dict n m () {H,I.tok _,by rw[Tu r];show q}
 |_=>show(show False from e).elim
def Z7 (g:PE X a ta)(i:∀e,sL a X.env e=(do let v <-e;oX a.pos;jZ [v] (truthy v))) :
  PT X a (λd H Q=>ta d H λx H'=>∃k,Z6 X.K x H' k/\Q k H'):=by
 intro f s d H Q I h;show isTrue_plain (thn (g f s d H _ I h) λv s1 j=>by obtain⟨x,l,m,n,o⟩:=j;show ajn f s1 d l x v Q m n o) (i _)
def Tv:OpR X (eC .Add) (λx y H Q=>∃i j,x=.str i/\y=.str j/\i.length+j.length<=sizeLine/\Q (.str (i++j)) H):=by
 intro f s g H x y v u Q I d e h;obtain⟨i,j,rfl,rfl,hz,q⟩:=h;obtain⟨t,rfl⟩:=d;obtain⟨t',rfl⟩:=e;show add_str (λt' l=>{.str (i++j),H,I.tok _,{_,rfl},q}) hz
def mr (r:Vals [x] us):∃u,us=[u]/\RelV x u:=by
 cases r with
 |cons d e=>cases e;show{_,rfl,d}
def Ku (r:Vals [x,y] us):∃u d,us=[u,d]/\RelV x u/\RelV y d:=by
 cases r with
 |cons e f=>
  cases f with
  |cons g h=>cases h;show{_,_,rfl,e,g}
def Z8:kz X (.builtin "abs") (λxs H Q=>∃i,xs=[.int i]/\Q (.int (if i < 0 then -i else i)) H):=by
 intro d s e H xs us Q I r h;obtain⟨i,rfl,q⟩:=h;obtain⟨u,rfl,t,rfl⟩:=mr r;show call_abs_int λu f=>{.int (if i < 0 then -i else i),H,I.tok _,{_,rfl},q}
def Wp (e:X.calm=LY):kz X (.builtin "max") (λxs H Q=>∃i j,xs=[.int i,.int j]/\Q (.int (if j > i then j else i)) H):=by
 intro f s g H xs us Q I r h;obtain⟨i,j,rfl,q⟩:=h;obtain⟨u,l,rfl,⟨t,rfl⟩,⟨t',rfl⟩⟩:=Ku r;show max_two_ints (I.ok.hd e) λh' m k=>{_,H,I.kept k,?_,q};by_cases d:j > i
 ·rw[ME d,ME d];show{_,rfl}
 ·rw[MF d,MF d];show{_,rfl}
def Wq (e:X.calm=LY):kz X (.builtin "min") (λxs H Q=>∃i j,xs=[.int i,.int j]/\Q (.int (if j < i then j else i)) H):=by
 intro f s g H xs us Q I r h;obtain⟨i,j,rfl,q⟩:=h;obtain⟨u,l,rfl,⟨t,rfl⟩,⟨t',rfl⟩⟩:=Ku r;show min_two_ints (I.ok.hd e) λh' m k=>{_,H,I.kept k,?_,q};by_cases d:j < i
 ·rw[ME d,ME d];show{_,rfl}
 ·rw[MF d,MF d];show{_,rfl}
def Ig:kz X (.type "int") (λxs H Q=>(∃i,xs=[.int i]/\Q (.int i) H)\/∃k,xs=[.bl k]/\Q (.int (if k then 1 else 0)) H):=by
 intro e s f H xs us Q I r h;rcases h with⟨i,rfl,q⟩ | ⟨k,rfl,q⟩
 ·obtain⟨u,rfl,t,rfl⟩:=mr r;show call_int_int {.int i,H,I,{_,rfl},q}
 ·obtain⟨u,rfl,d⟩:=mr r;cases d;show call_int_bool {.int (if k then 1 else 0),H,I.tok _,{_,rfl},q}
end
structure ObjM (h:MB)(x dx C:MA)(mA:Str->Option aE):Prop where
 obj:h.get? x=KE (iH C dx)
 ns:h.Ns1 dx mA
 ne:dx≠x
def Ws {h:MB}(n:h.Ns1 f g):∃c,h.get? f=KE c/\∀name,oY name c=KE (g name):=by
 obtain⟨o,d,ep,i,hd,hk,_,j⟩:=n;show{o,i,λname=>?_};have e:=j name;unfold nsFind findBy at e;rw[<-Array.find?_toList]at e;unfold oY;rw[hd];dsimp only
 split
 ·rename_i y q
  rw[q]at e;show MK KE e
 ·rename_i q
  rw[q]at e;have a:d.toList.any (·.refKey)=LZ:=by
   rw[List.any_eq_false];intro y l;obtain⟨z,t,b⟩:=hk y (Array.mem_toList_iff.mp l);simp[DictEntry.refKey,b]
  have m:¬d.toList.any (·.refKey)=LY:=(by rw[a];show aQ);rw[MF m];show MK KE e
def ObjM.look (I:ObjM h x b C c):∃a,PySem.W.InstAt h x (iH C b) C (KE a)/\∀name,oY name a=KE (c name):=
 let ⟨a,d,e⟩:=Ws I.ns
 {a,#v[I.obj,rfl,rfl,d],e}
section
variable {prog:aV}{w:bC}{A:cG}{E:aE->aK->Prop}{s:aK}{K:aF}{x dx C f:MA}{mA:Str->Option aE}{name:Str}{v:aE}
def afj (X:K.In s.heap)(I:ObjM s.heap x dx C mA)(b:kZ K C name=LY)(c:mV K C=LY)
  (d:dE K (.ref C) name=KE LX) (e:mA name=KE v) (a:PySem.W.handedIn v=LY) (h:Q v { s with toks:=s.toks+1 }) :
  aM (aY prog w) A (getAttr (.ref x) name expr) Q E s:=by
 obtain⟨i,J,g⟩:=I.look;show PySem.W.get_value X J (oT b).1 (PySem.W.findObj_own c d rfl (by rw[g,e])) a h
def Z9 (X:K.In s.heap)(I:ObjM s.heap x dx C mA)(a:kZ K C name=LY)
  (b:dE K (.ref C) name=KE (KE (.ref f))) (c:iV K (.ref f)=LY) (d:mA name=LX) (h:Q (.ref f,[.ref x]) s) :
  aM (aY prog w) A (pK (.ref x) name pl) Q E s:=by
 obtain⟨e,J,g⟩:=I.look;show PySem.W.method_fn X J (oT a).1 (oT a).2 b (beq_iff_eq.mp c) (by change(oY name e).map (·.isSome)=KE LZ;rw[g,d];rfl) h
def afk (X:K.In s.heap)(I:ObjM s.heap x dx C mA)
  (hs:dE K (.ref C) "__setattr__"=KE (KE (.builtin "object.__setattr__"))) (j:pX K C=LY) (l:qV K C name=KE LX) (m:mV K C=LY)
  (hw:sJ mA ns) (hsz:ns.length<=sizeLine)
  (h:∀h',ObjM h' x dx C (λy=>if y=name then KE v else mA y)->eB dx s.heap h'->Q Unit.unit { s with heap:=h',toks:=s.toks+2 }) :
  aM (aY prog w) A (setAttr (.ref x) name v) Q E s:=by
 obtain⟨z,J,D⟩:=I.look;show PySem.W.set_plain X J hs (PySem.W.osa_open (s:={ s with toks:=s.toks+1 }) (r:=LX) X J j l λb=>?_);obtain⟨cd,n,o⟩:=PySem.W.any_some m;have p:s.heap.get? x=KE ⟨.ref C,KE dx,.plain,#[]⟩:=I.obj;show aA (wpAny_pure (aA (aA (wpAny_loadPart p (aA (PySem.W.Looks.here (s:={ s with toks:=s.toks+1 }) (PySem.W.looks_clsIn X n) ?_))))));rw[o];show wpAny_pure (a:=KE dx) (aA (wpAny_pure (aA ?_)));show wpAny_nsSet1 (s:={ s with toks:=s.toks+1 }) I.ns λh' g i=>?_;obtain⟨G,q,u,c,d,e⟩:=g.count (PySem.Within.cons name v hw);show aA (wpAny_lookBehind c (by rw[d];show pastItsLine_dict (bL e (by rw[bA];lia))) ?_);show wpAny_pure (h _ {(i.2 _ (Ne.symm I.ne)).trans I.obj,g,I.ne} i)
def aaa (X:K.In s.heap)(b:oA K C=LY)
  (hi:dE K (.ref C) "__init__"=KE (KE (.ref f))) (c:PySem.W.typeIn K (.ref f)=KE (.type "function"))
  (h:lM (aY prog w) (A.under (.builtin "type.__call__" {.ref C::vs,a})) (.call (.ref f) {.ref (‹s›+1)::vs,a}) (PySem.W.InitBack (‹s›+1) R) { s with heap:=(s.heap.push fX).push (iH C ‹s›) }) :
  lM (aY prog w) A (.call (.ref C) #v[vs,a]) R s:=by
 obtain⟨e,g,d,t,os⟩:=s;show PySem.W.make_core (PySem.W.makes_of X b) (PySem.W.looks_findIn X hi) (λself=>PySem.W.bind_fn X self c) (.inl rfl) h
end
def kq (f:Str)(v:V):List (Str×V)->List (Str×V)
 | []=>[(f,v)]
 | (g,x)::r=>if g=f then (g,v)::r else (g,x)::kq f v r
theorem C4 (f g:Str)(v:V):∀fs:List (Str×V),(kq f v fs).lookup g=if g=f then KE v else fs.lookup g
 | []=>by
  change kM g [(f,v)]=_;by_cases h:g=f
  ·have a:(g == f)=LY:=beq_iff_eq.mpr h;simp only[kM,a,ME h]
  ·have a:(g == f)=LZ:=beq_eq_false_iff_ne.mpr h;simp only[kM,a,MF h]
 | (k,x)::r=>by
  have b:=C4 f g v r;rw[show kq f v ((k,x)::r)=(if k=f then (k,v)::r else (k,x)::kq f v r)from rfl]
  by_cases hk:k=f
  ·rw[ME hk];by_cases h:g=k
   ·have a:(g == k)=LY:=beq_iff_eq.mpr h;simp only[kM,a,ME (h.trans hk)]
   ·have a:(g == k)=LZ:=beq_eq_false_iff_ne.mpr h;simp only[kM,a,MF (λe:g=f=>h (e.trans hk.symm))]
  ·rw[MF hk];by_cases h:g=k
   ·have a:(g == k)=LY:=beq_iff_eq.mpr h;simp only[kM,a,MF (λe:g=f=>hk (h.symm.trans e))]
   ·have a:(g == k)=LZ:=beq_eq_false_iff_ne.mpr h;simp only[kM,a];show b
theorem Av (f:Str)(v:V):∀fs:List (Str×V),f∈(kq f v fs).map (·.1)/\∀g,g∈fs.map (·.1)->g∈(kq f v fs).map (·.1)
 | []=>{by simp[kq],λg h=>by simp at h}
 | (k,x)::r=>by
  obtain⟨a,b⟩:=Av f v r;rw[show kq f v ((k,x)::r)=(if k=f then (k,v)::r else (k,x)::kq f v r)from rfl]
  by_cases hk:k=f
  ·rw[ME hk];subst hk;show{by simp,λg h=>by simpa using h}
  ·rw[MF hk];show{?_,λg h=>?_}
   ·rw[bB];show aI _ a
   ·rw[bB]at h ⊢;rcases aU.mp h with e | e
    ·show List.mem_cons.mpr (.inl e)
    ·show aI _ (b g e)
theorem C5 (f:Str)(v:V):∀fs:List (Str×V),(kq f v fs).length<=fs.length+1
 | []=>by simp[kq]
 | (k,x)::r=>by
  have a:=C5 f v r;rw[show kq f v ((k,x)::r)=(if k=f then (k,v)::r else (k,x)::kq f v r)from rfl]
  by_cases hk:k=f
  ·rw[ME hk,bA,bA];lia
  ·rw[MF hk,bA,bA];lia
def RelO.some_of (r:RelO (KE v) o):∃u,o=KE u/\RelV v u:=by
 cases o with
 |none=>show(show False from r).elim
 |some u=>show#v[u,rfl,r]
def RelO.none_of (r:RelO LX o):o=LX:=by
 cases o with
 |none=>rfl
 |some u=>show(show False from r).elim
def Wu (r:RelV v u):PySem.W.handedIn u=LY:=by
 cases v with
 |non=>cases(show u=eF from r);rfl
 |bl b=>cases(show u=qI b from r);rfl
 |int i=>obtain⟨t,e⟩:=(show ∃t,u=jN i t from r);cases e;rfl
 |str x=>obtain⟨t,e⟩:=(show ∃t,u=qT x t from r);cases e;rfl
 |byt b=>obtain⟨t,e⟩:=(show ∃t,u=Value.bytes b t from r);cases e;rfl
 |flt b=>obtain⟨t,e⟩:=(show ∃t,u=tR b t from r);cases e;rfl
 |ref a=>cases(show u=bZ a from r);rfl
 |ty n=>cases(show u=mG n from r);rfl
section
variable {P:aV}{w:bC}{H H':Hp}{h h':MB}{a C dx:MA}{fs BL:List (Str×V)}
def B4 (hok:HOk P w H h)(e:H a=KE (.ins C dx fs)):∃b,ObjM h a dx C b/\(∀f,RelO (fs.lookup f) (b f))/\sJ b (fs.map (·.1))/\fs.length<=1000/\H dx=KE (.own a):=by
 obtain⟨d,z,ne,c,b,n,r,q⟩:=(show ObjOk P w H h a (.ins C dx fs)from hok a _ e);show{b,#v[c,n,ne],r,q,z,d}
end
structure Cls (K:aF)(C:MA):Prop where
 pg:kZ K C Str.empty=LY
 hd:mV K C=LY
 po:pX K C=LY
 sa:dE K (.ref C) "__setattr__"=KE (KE (.builtin "object.__setattr__"))
def Cls.get {K:aF}{C:MA}(c:Cls K C)(f:Str):kZ K C f=LY:=c.pg
def NoAttr (K:aF)(C:MA)(f:Str):Prop:=dE K (.ref C) f=KE LX
def NoAttr.taker {K:aF}{C:MA}{f:Str}(n:NoAttr K C f):qV K C f=KE LX:=by
 unfold qV;rw[show dE K (.ref C) f=KE LX from n];rfl
structure Tw (K:aF)(C:MA)(m:Str)(f:MA):Prop where
 at_:dE K (.ref C) m=KE (KE (.ref f))
 fn:iV K (.ref f)=LY
 kp:fM K (.ref f)=LY
section
variable {X:Cx}{uS:List (MA×Obj)}{σ:St}{H:Hp}{s:aK}{a C dx:MA}{fs:List (Str×V)}{f:Str}{v:V}{A:cG}{E:aE->aK->Prop}
def Tx (I:Inv X uS σ H s)(e:H a=KE (.ins C dx fs))(c:Cls X.K C)(n:NoAttr X.K C f)(l:fs.lookup f=KE v)
  (h:∀u s',Inv X uS σ H s'->RelV v u->Q u s'):aM (aY X.prog X.w) A (getAttr (.ref a) f b) Q E s:=by
 obtain⟨g,O,r,_,_,_⟩:=B4 I.hok e;obtain⟨u,i,d⟩:=RelO.some_of (v:=v) (o:=g f) (by rw[<-l];show r f);show afj I.kIn O (c.get f) c.hd n i (Wu d) (h u _ (I.tok _) d)
def Tz (I:Inv X uS σ H s)(e:H a=KE (.ins C dx fs))(c:Cls X.K C)(k:Tw X.K C m g)(l:fs.lookup m=LX)
  (h:Q (.ref g,[.ref a]) s):aM (aY X.prog X.w) A (pK (.ref a) m pl) Q E s:=by
 obtain⟨b,O,r,_,_,_⟩:=B4 I.hok e;have d:b m=LX:=RelO.none_of (by rw[<-l];show r m);show Z9 I.kIn O (c.get m) k.at_ k.fn d h
def T1 (I:Inv X uS σ H s)(e:H a=KE (.ins C dx fs))(c:Cls X.K C)(n:NoAttr X.K C f)(L:fs.length < 1000)(m:RelV y u)
  (h:∀s',Inv X uS σ (upd H a (.ins C dx (kq f y fs))) s'->Q Unit.unit s'):aM (aY X.prog X.w) A (setAttr (.ref a) f u) Q E s:=by
 obtain⟨i,O,r,j,_,l⟩:=B4 I.hok e;have hz:(fs.map (·.1)).length<=sizeLine:=(by rw[aB,iG];lia);show afk I.kIn O c.sa c.po n.taker c.hd j hz λh' d p=>h _ ?_;have hd:∃o,h'.get? dx=KE o:=let ⟨o,_,_,D,_⟩:=d.ns;#v[o,D];show I.write (x:=a) (e:=dx) (by rw[e];show hV) (.inr l) (λb q G z=>(p.2 b G).trans z) hd ?_;show{by rw[ay O.ne];show l,?_,O.ne,d.obj,_,d.ns,λg=>?_,λg J=>?_}
 ·have:=C5 f y fs;lia
 ·change RelO ((kq f y fs).lookup g) (if g=f then KE u else i g)
  rw[C4];by_cases q:g=f
  ·rw[ME q,ME q];show m
  ·rw[MF q,MF q];show r g
 ·by_cases q:g=f
  ·rw[q];show(Av f y fs).1
  ·show(Av f y fs).2 g (j g λz=>J ?_);change(if g=f then KE u else i g)=LX
   rw[MF q];show z
def Inv.made (I:Inv X uS σ H s):Inv X uS σ (upd (upd H ‹s› (.own (‹s›+1))) (‹s›+1) (.ins C ‹s› []))
  { s with heap:=(s.heap.push fX).push (iH C ‹s›) }:=by
 have c:(s.heap.push fX).get? ‹s›=KE fX:=aW s.heap rfl;have d:((s.heap.push fX).push (iH C ‹s›)).get? (‹s›+1)=KE (iH C ‹s›):=by
  have:=aW (s.heap.push fX) (o:=iH C ‹s›) rfl
  rwa [eU]at this
 have g:(s.heap.push fX).Ns ‹s› (λ_=>LX):={fX,#[],_,c,rfl,(λe h=>MI h ∅),λ_=>rfl};have i:=I.laid (a:=‹s›) (o:=.own (‹s›+1)) (h':=s.heap.push fX) (t':=s.toks) (λb u q=>aG _ q) (aJ _) {_,c};show i.laid (a:=‹s›+1) (o:=.ins C ‹s› []) (t':=s.toks) (λb u q=>aG _ q) (Nat.le_of_eq (eU _ _)) ?_;have ne:‹s›≠‹s›+1:=bK (fJ _);show{by rw[ay ne,bo],cT _,ne,d,λ_=>LX,(Heap.Ns1.of_empty g).at λo q=>aG _ q,λ_=>hV,λy j=>MI rfl j}
def afl (c:hX e f env (eval e env)=eval e env)
  (h:aM (aY prog w) A (eval e env) (λo b=>aM (aY prog w) A (getAttr o f LY) Q E b) E s):aM (aY prog w) A (eval (.Attribute e f d) env) Q E s:=
 Attribute_any_ h (by rw[arm_eval_Attribute,c])
end
def tFld (K:aF)(c:TE)(f:Str):TE:=λd H Q=>c d H λx b=>∃a C e fs v,x=.ref a/\b a=KE (.ins C e fs)/\Cls K C/\NoAttr K C f/\fs.lookup f=KE v/\Q v b
def sFld (K:aF)(e g:TE)(f:Str):TS:=λD b H=>g b H λy h=>e b h λx c=>∃a C d fs,x=.ref a/\c a=KE (.ins C d fs)/\Cls K C/\NoAttr K C f/\fs.length < 1000/\
 D.nx b (upd c a (.ins C d (kq f y fs)))
section
variable {X:Cx}{o e value:MC}{f:Str}{pos wX zN:Pos}{ta tv:TE}
def ajo (b:PE X e ta)(d:hX e f X.env (eval e X.env)=eval e X.env):PE X (.Attribute e f pos) (tFld X.K ta f):=by
 intro g s i H Q I h;show afl d (thn (b g s i H _ I h) λu s1 j=>?_);obtain⟨x,m,p,r,a,C,z,fs,v,ex,w,c,n,l,q⟩:=j;subst ex;obtain rfl:u=bZ a:=r;show Tx p w c n l λA D I2 y=>#v[v,m,I2,y,q]
def ajp (i:PE X o ta)(j:PE X value tv)(hs:kA value (KE (.Attribute o f wX)) pos.line X.env=pure LZ):PS X (.Assign [.Attribute o f wX] value pos) (sFld X.K ta tv f):=by
 intro g s b H D I h;show plainObj_wpAny_Assign_Attribute (thn (j g s b H _ I h) λu s1 d=>?_) hs;obtain⟨y,m,p,r,q⟩:=d;show thn (i g s1 b m _ p q) λw J d=>?_;obtain⟨x,L,I2,z,a,C,N,fs,ex,A,c,n,l,E⟩:=d;subst ex;obtain rfl:w=bZ a:=z;show T1 I2 A c n l r λs3 G=>{b,_,G,E}
end
section
variable {X:Cx}{uS:List (MA×Obj)}{σ:St}{H:Hp}{s:aK}{A:cG}{E:aE->aK->Prop}{Q:aE->aK->Prop}{c:aE}{b:Bool}
inductive qp (K:aF)(H:Hp):V->aE->Prop where
 |non:qp K H .non (.type "NoneType")
 |bl (x:Bool):qp K H (.bl x) (.type "bool")
 |int (i:Int):qp K H (.int i) (.type "int")
 |str (x:Str):qp K H (.str x) (.type "str")
 |flt (x:UInt64):qp K H (.flt x) (.type "float")
 |lst {a:MA}{xs:List V}(e:H a=KE (.lst xs)):qp K H (.ref a) (.type "list")
 |frz {a:MA}{o:Obj}{xs:List V}(e:H a=KE (.frz o (.lst xs))):qp K H (.ref a) (.type "list")
 |tup {a:MA}{xs:List V}(e:H a=KE (.tup xs)):qp K H (.ref a) (.type "tuple")
 |dK {a:MA}{kvs:List (Key×V)}(e:H a=KE (.dK kvs)):qp K H (.ref a) (.type "dict")
 |dT {a:MA}{kvs:List (List Key×V)}(e:H a=KE (.dT kvs)):qp K H (.ref a) (.type "dict")
 |ins {a C dx:MA}{fs:List (Str×V)}(e:H a=KE (.ins C dx fs)) (cl:Cls K C) (ha:dE K (.ref C) "__class__"=KE (KE (.builtin "object.__class__")))
   (hn:mW K (.builtin "object.__class__") "__get__"=KE (KE (.builtin "getset_descriptor.__get__"))) (JW:PySem.W.takesIn K (.builtin "object.__class__")=KE LY)
   (hm:PySem.W.mroIn K C (.type "object")=KE LY):qp K H (.ref a) (.ref C)
def Wv (I:Inv X uS σ H s)(d:RelV x u)(ty:qp X.K H x t)(e:eI X.K t c=KE b)(h:∀l,Q (.bool b) { s with toks:=l }) :
  aM (aY X.prog X.w) A (call (.builtin "isinstance") [u,c]) Q E s:=by
 cases ty with
 |non=>cases(show u=eF from d);show eV PySem.W.kitx_none I.kIn hV e (λz=>nomatch z) h
 |bl y=>cases(show u=qI y from d);show eV PySem.W.kitx_bool I.kIn hV e (λz=>nomatch z) h
 |int i=>obtain⟨t,q⟩:=(show ∃t,u=jN i t from d);cases q;show eV PySem.W.kitx_int I.kIn hV e (λz=>nomatch z) h
 |str y=>obtain⟨t,q⟩:=(show ∃t,u=qT y t from d);cases q;show eV PySem.W.kitx_str I.kIn hV e (λz=>nomatch z) h
 |flt y=>obtain⟨t,q⟩:=(show ∃t,u=tR y t from d);cases q;show eV PySem.W.kitx_float I.kIn hV e (λz=>nomatch z) h
 |@lst a xs f=>
  cases(show u=bZ a from d);obtain⟨_,_,n,_,g⟩:=(show ObjOk X.prog X.w H s.heap a (.lst xs)from I.hok a _ f);show eV pY I.kIn {_,g,rfl} e (λz=>nomatch z) h
 |@frz a m xs f=>
  cases(show u=bZ a from d);obtain⟨_,_,_,n,_,g⟩:=(show ObjOk X.prog X.w H s.heap a (.frz m (.lst xs))from I.hok a _ f);show eV pY I.kIn {_,g,rfl} e (λz=>nomatch z) h
 |@tup a xs f=>
  cases(show u=bZ a from d);obtain⟨_,_,_,p⟩:=(show ObjOk X.prog X.w H s.heap a (.tup xs)from I.hok a _ f);obtain⟨o,g,j,_⟩:=p;show eV PySem.W.kitx_tuple I.kIn #v[o,g,j] e (λz=>nomatch z) h
 |@dK a kvs f=>
  cases(show u=bZ a from d);obtain⟨_,_,vs,_,p⟩:=(show ObjOk X.prog X.w H s.heap a (.dK kvs)from I.hok a _ f);obtain⟨o,r,ep,g,j,_⟩:=p;show eV PySem.W.kitx_dict I.kIn #v[o,g,j.1] e (λz=>nomatch z) h
 |@dT a kvs f=>
  cases(show u=bZ a from d);obtain⟨_,_,xs,_,o,r,ep,g,j,_⟩:=(show ObjOk X.prog X.w H s.heap a (.dT kvs)from I.hok a _ f);show eV PySem.W.kitx_dict I.kIn #v[o,g,j.1] e (λz=>nomatch z) h
 |@ins a C T fs f cl D G L N=>
  cases(show u=bZ a from d);obtain⟨U,O,_⟩:=B4 I.hok f;obtain⟨Y,J,_⟩:=O.look;show eV (PySem.W.kitx_own (cl.get _) cl.hd D G L N) I.kIn J e (λz=>nomatch z) h
end
structure Room (k:Nat)(A:cG):Prop where
 hd:A.handled=LX
 dp:A.depth+3 * k+5 < recursionLimit
 un:A.units+16 * k+200 < dP
def Room.mono (r:Room k A)(h:j<=k):Room j A:=⟨r.hd,by have:=r.dp;lia,by have:=r.un;lia⟩
theorem Room.deeper (r:Room (k+1) A)(env:Env):Room k (A.deeper env):=
 ⟨r.hd,by have:=r.dp;change A.depth+1+3 * k+5 < _;lia,by have:=r.un;change A.units+3+16 * k+200 < _;lia⟩
def T3 {A:cG}:(A.under (.builtin "type.__call__" {.ref C::us,a})).depth=A.depth+1:=by
 first | rfl | simp[sO,Code.weight,Code.isCreation,Code.isGuard,Code.isCaller,Code.frames,sP,guardIds]
def T8 {A:cG}:(A.under (.builtin "type.__call__" {.ref C::us,a})).units=A.units+1:=by
 first | rfl | simp[sO,Code.cUnits,Code.frames,sP]
def Room.make (r:Room (k+1) A)(C:MA)(us:List aE)(a:List (Str×aE)):Room k (A.under (.builtin "type.__call__" {.ref C::us,a})):=
 ⟨r.hd,by have:=r.dp;rw[T3];lia,by have:=r.un;rw[T8];lia⟩
theorem Room.depth (r:Room k A):A.depth < recursionLimit:=by have:=r.dp;lia
theorem Room.units (r:Room k A):A.units+64 < dP:=by have:=r.un;lia
def T9:TA:=λ_ H Q=>Q [] H
def Kv (b:TE)(tr:TA):TA:=λa H Q=>b a H λx c=>tr a c λxs d=>Q (x::xs) d
section
variable {X:Cx}{e:MC}{es:List MC}{te:TE}{t:TA}{pos:Pos}
def x5:PA X [] T9:=λ_ _ _ _ H Q I h=>mX {[],H,I,.nil,h}
def o3 (d:PE X e te)(f:PA X es t)(hs:aP (e::es) X.env=(LZ,eval e X.env)::aP es X.env:=by rfl):PA X (e::es) (Kv te t):=by
 intro pos b s c H Q I h;rw[hs];change aM _ _ (tM ((LZ,eval e X.env)::dU pos (aP es X.env))) _ _ s;show lT (thn (d b s c H _ I h) λu s1 a=>?_);obtain⟨x,g,i,j,l⟩:=a;show thn (f pos b s1 c g _ i l) λus p a=>by obtain⟨xs,m,I2,n,o⟩:=a;show{x::xs,m,I2,.cons j n,o}
def tTup (t:TA):TE:=λb H Q=>t b H λxs a=>xs.length<=sizeLine/\∀p,a p=LX->Q (.ref p) (upd a p (.tup xs))
def tLst (t:TA):TE:=λb H Q=>t b H λxs a=>xs.length<=sizeLine/\∀p,a p=LX->Q (.ref p) (upd a p (.lst xs))
def ajq (h:PA X es t):PE X (.Tuple es j pos) (tTup t):=by
 intro d s f H Q I g;show wpAny_Tuple_spliced (thn (h pos d s f H _ I g) λus s1 ⟨xs,a,c,r,z,q⟩=>{by rw[<-r.length];show z,?_});have i:a ‹s1›=LX:=c.hok.fresh (aJ _);show{.ref ‹s1›,upd a ‹s1› (.tup xs),c.laid (t':=s1.toks) (λb u e=>aG _ e) (aJ _) ?_,rfl,q _ i};show{z,us,r,{_,aW _ rfl,rfl,_,rfl}}
def ajr (h:PA X es t):PE X (.List es pos) (tLst t):=by
 intro d s f H Q I g;show wpAny_List_spliced (thn (h pos d s f H _ I g) λus s1 ⟨xs,a,c,r,z,q⟩=>{by rw[<-r.length];show z,?_});have i:a ‹s1›=LX:=c.hok.fresh (aJ _);show{.ref ‹s1›,upd a ‹s1› (.lst xs),c.laid (t':=s1.toks) (λb u e=>aG _ e) (aJ _) ?_,rfl,q _ i};show{z,us,0,r,aW _ rfl}
end
abbrev Sp:=List V->Hp->VK->XK->Prop
abbrev CXT:=List Env->Hp->aK->XK->aE->aK->Prop
structure Env0 (P:aV)(w:bC)(K:aF)(mg:Str->Option aE)(base:MB)(A:cG)(outer:List Env)(s:aK)(H:Hp):Prop where
 frames:A.frames=KE outer
 mod:Mod K mg base
 bs:∀b o,base.get? b=KE o->s.heap.get? b=KE o/\H b=LX
 bsz:base.objs.size<=‹s›
 funs:s.heap.FunFrames base outer
 frf:∀b∈frs outer,H b=LX
 hok:HOk P w H s.heap
 bare:nQ s.gens
def CE (outer:List Env)(P:aV)(w:bC)(H:Hp)(s:aK)(Q:VK)(u:aE)(s':aK):Prop:=
 ∃v H',s'.os=s.os/\nQ s'.gens/\Un (frs outer) [] H H' s.heap s'.heap/\HOk P w H' s'.heap/\RelV v u/\Q v H'
def CR (CX:CXT)(outer:List Env)(P:aV)(w:bC)(H:Hp)(s:aK)(Q:VK)(E:XK)(r:Result)(s':aK):Prop:=
 match r with
 | .ok (.ret u)=>CE outer P w H s Q u s'
 | .ok _=>False
 | .error e=>CX outer H s E e s'
structure FnOk (P:aV)(w:bC)(K:aF)(mg:Str->Option aE)(base:MB)(CX:CXT)(k:Nat)(f:MA)(fd:gB)(ps:List Str)(sp:Sp):Prop where
 len:∀vs H Q E,sp vs H Q E->vs.length=ps.length
 run:∀A outer s H args us vs Q E,Room k A->Env0 P w K mg base A outer s H->qJ s fd args (ps.zip us)->Vals vs us->sp vs H Q E->
  lM (aY P w) A (.call (.ref f) args) (CR CX outer P w H s Q E) s
def FnOk.imp {P:aV}{w:bC}{K:aF}{mg:Str->Option aE}{base:MB}{CX:CXT}{k:Nat}{f:MA}{fd:gB}{ps:List Str}{sp a:Sp}(F:FnOk P w K mg base CX k f fd ps sp)
  (h:∀vs H Q E,a vs H Q E->sp vs H Q E):FnOk P w K mg base CX k f fd ps a:=
 {λvs H Q E q=>F.len vs H Q E (h _ _ _ _ q),λA outer s H args us vs Q E b c d e hs=>F.run A outer s H args us vs Q E b c d e (h _ _ _ _ hs)}
def Env0.make {P:aV}{w:bC}{K:aF}{mg:Str->Option aE}{base:MB}{A:cG}{outer:List Env}{s:aK}{H:Hp}(e:Env0 P w K mg base A outer s H)(C:MA)(us:List aE)(a:List (Str×aE)) :
  Env0 P w K mg base (A.under (.builtin "type.__call__" {.ref C::us,a})) outer s H:=⟨by first | show e.frames | (simpa[sO,Code.envs,sP,pushEnvs]using e.frames),e.mod,e.bs,e.bsz,e.funs,e.frf,e.hok,e.bare⟩
section
variable {X:Cx}{uS:List (MA×Obj)}{σ:St}{H:Hp}{s s':aK}
def Inv.env0 (I:Inv X uS σ H s):Env0 X.prog X.w X.K X.mg X.base X.A X.stack s H:=
 {I.ok.frames,I.ok.mod,I.bs,bL I.ok.bsz I.sz,I.stack,I.stkFree,I.hok,I.bare}
def Inv.after (I:Inv X uS σ H s)(h:CE X.stack X.prog X.w H s Q u s'):EP X uS σ Q u s':=by
 obtain⟨v,H',os,bare,un,hok,r,q⟩:=h;obtain⟨a,g,d,t,c⟩:=s';obtain rfl:c=s.os:=os;show{v,H',I.call (h':=a) (g':=g) (d':=d) (t':=t) (ch:=[]) un hok bare (λb z=>MI z ∅),r,q}
end
def Ua (sp:Sp)(a:List V)(E:XK)(t:TA):TE:=λb H Q=>t b H λvs c=>sp (vs++a) c Q E
def tMeth (C:MA)(m:Str)(sp:Sp)(d:List V)(E:XK)(e:TE)(t:TA):TE:=λb H Q=>e b H λx c=>∃a f fs,x=.ref a/\c a=KE (.ins C f fs)/\fs.lookup m=LX/\
 t b c λvs g=>sp (x::(vs++d)) g Q E
def tMake (C:MA)(sp:Sp)(c:List V)(E:XK)(t:TA):TE:=λd H Q=>t d H λvs b=>∀x a,b x=LX->b a=LX->a≠x->
 sp (.ref x::(vs++c)) (upd (upd b a (.own x)) x (.ins C a [])) (λv e=>v=.non/\Q (.ref x) e) E
def Binds (K:aF)(fd:gB)(ps:List Str)(ds:List aE):Prop:=
 ∀s us,K.In s.heap->(us++ds).length=ps.length->qJ s fd {us,[]} (ps.zip (us++ds))
def Binds.all {K:aF}{fd:gB}{ps:List Str}(h:∀us:List aE,us.length=ps.length->oZ fd {us,[]}=pure (ps.zip us)):Binds K fd ps []:=λs us _ a=>by
 rw[bY]at a ⊢;show .of_eq (h us a)
def ve (CX:CXT)(X:Cx)(E:XK):Prop:=∀a b H s e s',Inv X a b H s->CX X.stack H s E e s'->X.xe e s'
section
variable {X:Cx}{CX:CXT}{k:Nat}{f C:MA}{fd:gB}{ps:List Str}{sp:Sp}{zL:List V}{ds:List aE}{E:XK}{x m:Str}{p pos wB:Pos}{e o:MC}{es:List MC}{ta:TE}{t:TA}
def Lf (F:FnOk X.prog X.w X.K X.mg X.base CX k f fd ps sp)(g:Room k X.A)(i:Binds X.K fd ps ds)(hd:Vals zL ds)(j:ve CX X E)
  (I:Inv X b c H s) (r:Vals vs us) (h:sp (vs++zL) H Q E):aM (aY X.prog X.w) X.A (call (.ref f) us) (EP X b c Q) X.xe s:=by
 have d:Vals (vs++zL) (us++ds):=r.append hd;have l:(us++ds).length=ps.length:=(by rw[<-d.length];show F.len _ _ _ _ h);show uE (lU (F.run X.A X.stack s H {us,[]} (us++ds) (vs++zL) Q E g I.env0 (i s us I.kIn l) d h) λr s' a=>?_);cases r with
 |error e=>show j b c H s e s' I a
 |ok n=>
  cases n with
  |ret u=>show I.after a
  |next=>show gZ a
  |brk=>show gZ a
  |cont=>show gZ a
def B5 (F:FnOk X.prog X.w X.K X.mg X.base CX k f fd ps sp)(b:Room k X.A)(c:Gl X x)(d:X.mg x=KE (.ref f))(hk:fM X.K (.ref f)=LY)(g:Binds X.K fd ps ds)(hd:Vals zL ds)(i:ve CX X E)
  (j:PA X (e::es) t) (l:(x == ("__debug__":Str))=LZ:=by decide) (n:aP (e::es) X.env=(LZ,eval e X.env)::aP es X.env:=by rfl) (u:(dU pos (aP es X.env)).any (·.1)=LZ:=by rfl) :
  PE X (.Call (.Name x p) (e::es) [] pos) (Ua sp zL E t):=by
 intro y s z H Q I h;show iC (B2 I c d ?_ l);show lV (h₀:=X.base) I.ok.mod.kin hk (thn (j pos y s z H _ I h) λus s1 D=>?_) n u;obtain⟨vs,G,a,r,q⟩:=D;show{a.kIn,?_};show Lf F b g hd i a r q
def afm (y:PE X o ta)(c:Cls X.K C)(d:Tw X.K C m f)(F:FnOk X.prog X.w X.K X.mg X.base CX k f fd ps sp)(z:Room k X.A)(D:Binds X.K fd ps ds)(hd:Vals zL ds)(G:ve CX X E)(J:PA X (e::es) t)
  (L:aP (e::es) X.env=(LZ,eval e X.env)::aP es X.env:=by rfl) (N:(dU pos (aP es X.env)).any (·.1)=LZ:=by rfl)
  (O:eval (.Call (.Attribute o m wB) (e::es) [] pos) X.env=(do
    let g <-eval o X.env
    oX wB.atName
    let (f,first) <-jZ [g] (pK g m pl)
    tY pos f first (dU pos (aP (e::es) X.env)) (nL pos (kN [] X.env))):=by rfl) :
  PE X (.Call (.Attribute o m wB) (e::es) [] pos) (tMeth C m sp zL E ta t):=by
 intro i s j H Q I h;show PySem.W.methodCall_KW (pl:=pl) (thn (y i s j H _ I h) λu s1 b=>?_) O;obtain⟨x,T,n,U,a,dx,fs,ex,Y,l,q⟩:=b;subst ex;obtain rfl:u=bZ a:=U;show Tz n Y c d l ?_;show lV (first:=[.ref a]) (h₀:=X.base) I.ok.mod.kin d.kp (thn (J pos i s1 j T _ n q) λus s2 b=>?_) L N
 obtain⟨vs,H2,I2,r,q2⟩:=b;show{I2.kIn,?_};show Lf (us:=.ref a::us) (vs:=.ref a::vs) F z D hd G I2 (.cons rfl r) q2
structure Mk (K:aF)(C f:MA):Prop where
 makes:oA K C=LY
 init:dE K (.ref C) "__init__"=KE (KE (.ref f))
 fn:iV K (.ref f)=LY
 kp:fM K (.ref C)=LY
def aab (M:Mk X.K C f)(F:FnOk X.prog X.w X.K X.mg X.base CX k f fd ps sp)(j:Room (k+1) X.A)(l:Binds X.K fd ps ds)(hd:Vals zL ds)
  (n:ve CX X E) (I:Inv X c d H s) (r:Vals vs us)
  (h:∀x b,H x=LX->H b=LX->b≠x->sp (.ref x::(vs++zL)) (upd (upd H b (.own x)) x (.ins C b [])) (λv q=>v=.non/\Q (.ref x) q) E) :
  aM (aY X.prog X.w) X.A (call (.ref C) us) (EP X c d Q) X.xe s:=by
 have g:=h (‹s›+1) ‹s› (I.hok.fresh (rH _)) (I.hok.fresh (aJ _)) (bK (fJ _));have I2:=Inv.made (C:=C) I;have i:Vals (V.ref (‹s›+1)::(vs++zL)) (bZ (‹s›+1)::(us++ds)):=.cons rfl (r.append hd);have y:(bZ (‹s›+1)::us++ds).length=ps.length:=by
  have e:=i.length;rw[F.len _ _ _ _ g]at e;show e.symm
 show uE (aaa (f:=f) I.kIn M.makes M.init (beq_iff_eq.mp M.fn) (lU (F.run _ X.stack _ _ {bZ (‹s›+1)::us,[]} (bZ (‹s›+1)::(us++ds)) _ _ E (j.make C us []) (I2.env0.make C us []) (l _ (bZ (‹s›+1)::us) I2.kIn y) i g) λr s' a=>?_));cases r with
 |error e=>show n c d _ _ e s' I2 a
 |ok z=>
  cases z with
  |ret u=>
   obtain⟨v,H',D,G,J,L⟩:=I2.after a;subst J;show{G,{V.ref (‹s›+1),H',D,rfl,L}}
  |next=>show gZ a
  |brk=>show gZ a
  |cont=>show gZ a
def afn (M:Mk X.K C f)(F:FnOk X.prog X.w X.K X.mg X.base CX k f fd ps sp)(b:Room (k+1) X.A)(c:Gl X x)(d:X.mg x=KE (.ref C))(g:Binds X.K fd ps ds)(hd:Vals zL ds)(i:ve CX X E)
  (j:PA X (e::es) t) (l:(x == ("__debug__":Str))=LZ:=by decide) (n:aP (e::es) X.env=(LZ,eval e X.env)::aP es X.env:=by rfl) (u:(dU pos (aP es X.env)).any (·.1)=LZ:=by rfl) :
  PE X (.Call (.Name x p) (e::es) [] pos) (tMake C sp zL E t):=by
 intro y s z H Q I h;show iC (B2 I c d ?_ l);show lV (h₀:=X.base) I.ok.mod.kin M.kp (thn (j pos y s z H _ I h) λus s1 D=>?_) n u;obtain⟨vs,G,a,r,q⟩:=D;show{a.kIn,?_};show aab M F b g hd i a r q
end
structure fq (N P:List Str)(sc:mH):Prop where
 kind:sc.kind=.function
 co:sc.isCoroutine=LZ
 gen:sc.isGenerator=LZ
 nd:N.Nodup
 pre:N.take P.length=P
 par:∀x∈P,sc.names.lookup x=KE .local\/sc.names.lookup x=KE .cell
 nofree:∀y∈sc.names,y.2≠.free
theorem Ih {kindOf:Str->Option qL}:∀{binds:List (Str×aE)}{m:Str->Option aE},(∀v,(x,v) ∉ binds)->rS kindOf binds m x=m x
 | [],_,_=>rfl
 | (n,v)::r,m,h=>by
  unfold rS;rw[Ih λw hw=>h w (aI _ hw)]
  split
  ·have:x≠n:=(by rintro rfl;show h v aN);simp[this]
  ·rfl
theorem Ii {kindOf:Str->Option qL}:∀{binds:List (Str×aE)}{m:Str->Option aE},(∀v,(x,v) ∉ binds)->rT kindOf binds m x=m x
 | [],_,_=>rfl
 | (n,v)::r,m,h=>by
  unfold rT;rw[Ii λw hw=>h w (aI _ hw)]
  split
  ·rfl
  ·have:x≠n:=(by rintro rfl;show h v aN);simp[this]
theorem Ij {kindOf:Str->Option qL}:∀{P:List Str}{vs:List aE}{i:Nat}{m:Str->Option aE},P.Nodup->P[i]?=KE x->vs[i]?=KE v->kindOf x=KE .local->
  rS kindOf (P.zip vs) m x=KE v
 | [],_,_,_,_,h,_,_=>by simp at h
 |_::_,[],_,_,_,_,h,_=>by simp at h
 |p::P,w::vs,0,m,nd,a,b,hk=>by
  simp at a b;subst a;subst b;change rS kindOf ((p,w)::P.zip vs) m p=_;unfold rS;rw[Ih λv c=>(eJ.mp nd).1 (qW c).1,ME hk];simp
 |p::P,w::vs,i+1,m,nd,a,b,hk=>by
  change rS kindOf ((p,w)::P.zip vs) m x=_;unfold rS;show Ij (i:=i) (eJ.mp nd).2 (by simpa using a) (by simpa using b) hk
theorem Ik {kindOf:Str->Option qL}:∀{P:List Str}{vs:List aE}{i:Nat}{m:Str->Option aE},P.Nodup->P[i]?=KE x->vs[i]?=KE v->kindOf x≠KE .local->
  rT kindOf (P.zip vs) m x=KE v
 | [],_,_,_,_,h,_,_=>by simp at h
 |_::_,[],_,_,_,_,h,_=>by simp at h
 |p::P,w::vs,0,m,nd,a,b,hk=>by
  simp at a b;subst a;subst b;change rT kindOf ((p,w)::P.zip vs) m p=_;unfold rT;rw[Ii λv c=>(eJ.mp nd).1 (qW c).1,MF hk];simp
 |p::P,w::vs,i+1,m,nd,a,b,hk=>by
  change rT kindOf ((p,w)::P.zip vs) m x=_;unfold rT;show Ik (i:=i) (eJ.mp nd).2 (by simpa using a) (by simpa using b) hk
def start (N:List Str)(vs:List V):St:=vs.map KE++aT (N.length - vs.length) LX
def xb (CX:CXT)(P:aV)(w:bC)(K:aF)(mg:Str->Option aE)(base:MB)(N:List Str)(vC:Str)(scope:mH)(f:MA)(cd:aE)(A:cG)(outer:List Env)(s:aK)(H:Hp)(E:XK):Cx where
 prog:=P
 w:=w
 K:=K
 mg:=mg
 base:=base
 A:=A.deeper (lW vC scope ‹s› f cd)
 N:=N
 s₀:=s
 H₀:=H
 env:=lW vC scope ‹s› f cd
 outer:=outer
 stack:=lW vC scope ‹s› f cd::outer
 ex:=[]
 calm:=LY
 fn:=λ_=>LY
 pn:=[]
 xe:=λe s'=>aM (aY P w) (A.deeper (lW vC scope ‹s› f cd)) (leaving (lW vC scope ‹s› f cd) e) (λ_ FM=>CX outer H s E e FM) (λe' FM=>CX outer H s E e' FM) s'
def Lg {a:mH}(h:a.names.lookup x=KE .cell):∃c,(cellsFrom n a.names []).lookup x=KE c:=by
 have q:=PySem.W.cellsFrom_some a.names n [] (.inl h);show lX.mp q
def Ww {CX:CXT}{P:aV}{w:bC}{K:aF}{mg:Str->Option aE}{base:MB}{N ps:List Str}{l:Str}{d:mH}{f:MA}{cd:aE}{A:cG}{outer:List Env}{s s1:aK}{H:Hp}{E:XK}{us:List aE}{vs:List V}
  (S:fq N ps d) (hd:A.handled=LX) (e0:Env0 P w K mg base A outer s H) (J:vs.length=ps.length) (r:Vals vs us)
  (x:InCallC s ‹s› (rS (lW l d ‹s› f cd).kindOf (ps.zip us) λ_=>LX) (cellsFrom (‹s›+1) d.names []) (rT (lW l d ‹s› f cd).kindOf (ps.zip us) λ_=>LX) s1) :
  Inv (xb CX P w K mg base N l d f cd A outer s H E) [] (start N vs) H s1:=by
 have L:ps.length<=N.length:=(by have:=MK tT S.pre;rw[bN]at this;lia);obtain⟨m,O,rfl,hk⟩:=x.done;have o:∀b:MA,b ∉ (xb CX P w K mg base N l d f cd A outer s H E).ex:=λb z=>MI (show b∈([]:List MA)from z) ∅;show⟨{e0.mod,S.kind,rfl,rfl,aJ _,λy z c m g=>?_,λy hy=>?_,λy c _ h=>?_,λ_=>hd,Around.frames_deeper e0.frames,.inr #v[rfl,rfl],λb z=>MI z (o b),e0.bs,e0.bsz,λb _ _=>o b,λb z=>MI z (o b),e0.funs,e0.frf},
   rfl,e0.bare,Un.kept hk,{_,x.toInCall.ns,λi y v m g Q=>?_},λy c h=>{_,x.cell y c h},e0.hok.fresh (aJ _),λy c h=>?_,λp j=>MI (show p∈([]:List (MA×Obj))from j) ∅,e0.hok.kept hk,?_⟩
 ·show name_of_addr x.apart (jV m) (jV g)
 ·have hy:d.names.lookup y=KE .cell\/d.names.lookup y=KE .free:=hy;rcases hy with hy | hy
  ·show Lg hy
  ·show MI rfl (S.nofree _ (jV hy))
 ·show gR (x.above y c (jV h))
 ·have hi:i < vs.length:=by
   unfold start at g;by_cases hi:i < vs.length
   ·show hi
   ·rw[cH (by simpa using hi)]at g;rw[dJ]at g
    split at g<;>cases g
  have G:vs[i]?=KE v:=by
   unfold start at g;rw[bT (by simpa using hi),aL]at g;cases e:vs[i]? with
   |none=>rw[e]at g;cases g
   |some a=>rw[e]at g;cases g;rfl
  obtain⟨u,C,I⟩:=r.get G;have j:ps[i]?=KE y:=by
   rw[<-S.pre,lY ()];show m
  have D:ps.Nodup:=(by rw[<-S.pre];show S.nd.sublist (List.take_sublist _ _));show{u,I,?_};rcases S.par y (aR j)with k | k
  ·show .inl {k,Ij D j C k}
  ·obtain⟨c,e⟩:=Lg (n:=‹s›+1) k;show .inr {.inl k,c,e,?_};have q:=x.cell y c e;rw[Ik D j C (by change d.names.lookup y≠_;rw[k];decide)]at q;show q
 ·show e0.hok.fresh (gR (x.above y c (jV h)))
 ·unfold start;change _=N.length;rw[aH,aB,cA];lia
def fn_of {CX:CXT}{P:aV}{w:bC}{K:aF}{mg:Str->Option aE}{base:MB}{k:Nat}{f:MA}{name g:Str}{c:Arguments}{body:List MD}{a:mH}{p kV z C h ct L:aE}{D O:Option MA}
  {T:Array (Option aE)}{N ps:List Str}{sp:Sp}(lk:K.lookup f=KE {L,O,.func (fU name g c body a p kV z C D h ct),T}) (U:mI K h g=LY) (S:fq N ps a)
  (len:∀vs H Q E,sp vs H Q E->vs.length=ps.length)
  (Y:∀(A:cG)(outer:List Env) (s:aK) (H:Hp) (vs:List V) (Q:VK) (E:XK),Room k (A.deeper (lW g a ‹s› f h))->sp vs H Q E->∃t,PSs (xb CX P w K mg base N g a f h A outer s H E) body t/\t { nx:=λ_ H'=>Q .non H',rt:=Q } (start N vs) H) :
  FnOk P w K mg base CX (k+1) f (fU name g c body a p kV z C D h ct) ps sp:=by
 show{len,λA outer s H args us vs Q E j e0 hb r G=>?_};have hl:=len _ _ _ _ G;have KX:K.In s.heap:=e0.mod.kin.keeps λb o e=>(e0.bs b o e).1;have l:s.heap.NoLimit:=e0.mod.nolimit.keeps λb o e=>(e0.bs b o e).1;have i:∀y∈ps.zip us,a.names.lookup y.1=KE .local\/(a.names.lookup y.1=KE .cell/\((cellsFrom (‹s›+1) a.names []).lookup y.1).isSome=LY):=λ⟨n,v⟩ hy=>by
  rcases S.par n (qW hy).1 with q | q
  ·show .inl q
  ·show .inr {q,PySem.W.cellsFrom_some _ _ _ (.inl q)}
 show codeAny_call_function j.depth (KX _ _ lk) rfl S.co S.gen rfl (PySem.W.codeRec_of KX U) (hb _ _ _ _ ?_);show wpAny_newFunctionEnv_cells S.kind i λenv he s1 x=>?_;subst he;show{l.keeps x.toInCall.keep,codeAny_func ?_};obtain⟨t,ht,hq⟩:=Y A outer s H vs Q E (j.deeper _) G;have I:Inv (xb CX P w K mg base N g a f h A outer s H E) [] (start N vs) H s1:=Ww S j.hd e0 hl r x;show iR (ht [] s1 (start N vs) H _ I hq) (λfl s' hs=>?_) λe s' hs=>hs;have fin:∀{d:St}{H':Hp}{v:V}{u:aE},Inv (xb CX P w K mg base N g a f h A outer s H E) [] d H' s'->RelV v u->Q v H'->CE outer P w H s Q u s':=
  λ{d H' v u} J m q=>#v[v,H',J.os,J.bare,J.base,J.hok,m,q]
 cases fl with
 |ret u=>
  obtain⟨v,d,H',J,m,q⟩:=hs;show fin J m q
 |next=>
  obtain⟨d,H',J,q⟩:=hs;show fin (v:=V.non) (u:=eF) J rfl q
 |brk=>
  obtain⟨_,_,_,q⟩:=hs;show gZ q
 |cont=>
  obtain⟨_,_,_,q⟩:=hs;show gZ q
section
variable {X:Cx}{x:Str}{p pos:Pos}{e:MC}{es:List MC}{t:TA}{id T:String}{r:List V->Hp->VK->Prop}
def tCB (r:List V->Hp->VK->Prop)(t:TA):TE:=λa H Q=>t a H λvs b=>r vs b Q
def Dj (c:kz X (.builtin id) r)(d:Gl X x)(f:X.mg x=LX)(g:dX x=KE (.builtin id))(i:PA X (e::es) t)(j:x≠"__name__":=by decide)(l:(x == ("__debug__":Str))=LZ:=by decide)
  (m:aP (e::es) X.env=(LZ,eval e X.env)::aP es X.env:=by rfl) (n:(dU pos (aP es X.env)).any (·.1)=LZ:=by rfl):PE X (.Call (.Name x p) (e::es) [] pos) (tCB r t):=by
 intro a s b H Q I h;show iC (lg I d f g ?_ j l);show kC (thn (i pos a s b H _ I h) λus s1 o=>by obtain⟨vs,q,u,w,y⟩:=o;show c a s1 b q vs us Q u w y) m n
def Wx (c:kz X (.type T) r)(d:Gl X x)(f:X.mg x=LX)(g:dX x=KE (.type T))(i:PA X (e::es) t)(j:x≠"__name__":=by decide)(l:(x == ("__debug__":Str))=LZ:=by decide)
  (m:aP (e::es) X.env=(LZ,eval e X.env)::aP es X.env:=by rfl) (n:(dU pos (aP es X.env)).any (·.1)=LZ:=by rfl):PE X (.Call (.Name x p) (e::es) [] pos) (tCB r t):=by
 intro a s b H Q I h;show iC (lg I d f g ?_ j l);show eY (thn (i pos a s b H _ I h) λus s1 o=>by obtain⟨vs,q,u,w,y⟩:=o;show c a s1 b q vs us Q u w y) m n
end
end L2
namespace HT
open PySem PyProof.Rows
def lexLt:List Int->List Int->Bool
 | [],[]=>LZ
 | [],_::_=>LY
 |_::_,[]=>LZ
 |x::xs,y::ys=>if x=y then lexLt xs ys else decide (x < y)
def lexLt_cons (x y:Int)(xs ys:List Int):lexLt (x::xs) (y::ys)=if x=y then lexLt xs ys else decide (x < y):=rfl
section
variable {prog:aV}{w:bC}{A:cG}{E:aE->aK->Prop}{s:aK}
def cat_tup (q:tK s.heap t vs.toArray)(r:tK s.heap b a.toArray)(f:vs≠[])
  (u:a=[]->Q (.ref t) s) (x:a≠[]->Q (.ref ‹s›) { s with heap:=s.heap.push { cls:=.type "tuple",data:=.seq (vs++a).toArray } })
  (hsz:vs.length+a.length<=sizeLine):aM (aY prog w) A (eC .Add (.ref t) (.ref b)) Q E s:=by
 obtain⟨⟨cls,dd,data,g⟩,c,h,n,hd⟩:=id q;obtain⟨⟨i,j,data2,l⟩,d,m,o,p⟩:=id r;simp only at h hd m p;subst h hd m p;have e:vs.toArray++a.toArray=(vs++a).toArray:=∅;by_cases hw:a=[]
 ·show sQ {_,c,rfl} {_,d,rfl} qM rZ nB mR (lZ _ _)
   (tuple_addW1 t b vs.toArray a.toArray n o dd j g l (by simpa using f) (by simp[hw])) {c,d,u hw}
 ·show sQ {_,c,rfl} {_,d,rfl} qM rZ nB mR (lZ _ _)
   (tuple_addW2 t b vs.toArray a.toArray n o dd j g l (by simpa using f) (by simpa using hw) (by rw[aO,aO];show hsz)) {c,d,?_}
  rw[e];show x hw
def sIx (n d:Nat):Option Int->Nat
 |none=>d
 |some v=>if v < 0 then (v+(n:Int)).toNat else min v.toNat n
def sIx_none (n d:Nat):sIx n d LX=d:=rfl
def sIx_nat (n d k:Nat):sIx n d (KE (k:Int))=min k n:=by
 change(if (k:Int) < 0 then ((k:Int)+(n:Int)).toNat else min (k:Int).toNat n)=min k n
 rw[MF (),bV]
def ajs (n d:Nat)(hd:d<=n)(o:Option Int):sIx n d o<=n:=by
 cases o with
 |none=>show hd
 |some v=>
  change(if v < 0 then (v+(n:Int)).toNat else min v.toNat n)<=n
  by_cases a:v < 0
  ·rw[ME a];lia
  ·rw[MF a];show qN _ _
def R5 (v:Int)(n d:Nat):(if v < 0 then max (v+(n:Int)) 0 else min v (n:Int))=((sIx n d (KE v):Nat):Int):=by
 change(if v < 0 then max (v+(n:Int)) 0 else min v (n:Int))=(((if v < 0 then (v+(n:Int)).toNat else min v.toNat n):Nat):Int)
 by_cases a:v < 0
 ·simp only[ME a];lia
 ·simp only[MF a];lia
def Ub (lo hi:Option Int)(n:Nat):gE lo hi 1 (n:Int)=(((sIx n 0 lo:Nat):Int),((sIx n n hi:Nat):Int)):=by
 have a:¬((1:Int) < 0):=();unfold gE;simp only[a,if_false];show Prod.ext ?_ ?_
 ·cases lo with
  |none=>rfl
  |some v=>show R5 v n 0
 ·cases hi with
  |none=>rfl
  |some v=>show R5 v n n
def Uc (i j:Nat):eQ (i:Int) (j:Int) 1=j - i:=by
 unfold eQ;have a:(1:Int) > 0:=();simp only[a,if_true,sR]
 split<;>lia
def Er (p:oB v o)(h:Q o s):aM (aY prog w) A (Builtin.Slice.slicePartIndex v) Q E s:=by
 cases p with
 |none=>show pA h
 |int i t=>show slicePart_int h
def vg {lo hi:Option Int}{n:Nat}{Q:Int×Int×Nat->aK->Prop}(hs:s.heap.IsSliceOf e c d .none)(pl:oB c lo)(f:oB d hi)
  (h:Q (((sIx n 0 lo:Nat):Int),1,sIx n n hi - sIx n 0 lo) s):aM (aY prog w) A (jE (.ref e) (pure (n:Int))) Q E s:=by
 obtain⟨os,a,g,b⟩:=id hs;unfold jE Builtin.Slice.sliceFields;show aA (aA (dF a b (x:=c) rfl (aA (dF a b (x:=d) rfl (aA (dF a b (x:=.none) rfl (wpAny_pure ?_)))))));show aA (pA ?_);change aM _ _ (if ((1:Int) == 0)=LY then _ else _) _ _ s
 rw[MF (by decide)];show aA (Er pl (aA (Er f (aA (wpAny_pure ?_)))));change aM _ _ (match gE lo hi 1 (n:Int)with | (lo,hi)=>pure (lo,(1:Int),eQ lo hi 1)) _ _ s
 rw[Ub lo hi n];change aM _ _ (pure (((sIx n 0 lo:Nat):Int),(1:Int),eQ ((sIx n 0 lo:Nat):Int) ((sIx n n hi:Nat):Int) 1)) _ _ s;rw[Uc];show wpAny_pure h
def aac (xs:Array aE)(i k:Nat):((bG k).filterMap λ(m:Nat)=>xs[((i:Int)+(m:Int) * 1).toNat]?).toArray=((xs.toList.drop i).take k).toArray:=by
 have e:(λ(m:Nat)=>xs[((i:Int)+(m:Int) * 1).toNat]?)=λm=>xs[i+m]?:=by
  funext m
  have:((i:Int)+(m:Int) * 1).toNat=i+m:=();rw[this]
 rw[e];have:=pick_run xs i k;rw[List.filterMap_map]at this;have a:((λx=>xs[x]?)∘λx=>i+x)=λm=>xs[i+m]?:=rfl;rw[a]at this;rw[this]
def getItem_tuple_cut {items:Array aE}{lo hi:Option Int}{Q:aE->aK->Prop}(a:tK s.heap t items)(hs:s.heap.IsSliceOf c d e .none)(pl:oB d lo)(f:oB e hi)
  (hw:¬(sIx items.size 0 lo=0/\sIx items.size items.size hi=items.size))
  (h:Q (.ref ‹s›) { s with heap:=s.heap.push { cls:=.type "tuple",data:=.seq ((items.toList.drop (sIx items.size 0 lo)).take (sIx items.size items.size hi - sIx items.size 0 lo)).toArray } })
  (hsz:items.size<=sizeLine):aM (aY prog w) A (mJ (.ref t) (.ref c)) Q E s:=by
 have b:sizeOk (.seq ((items.toList.drop (sIx items.size 0 lo)).take (sIx items.size items.size hi - sIx items.size 0 lo)).toArray):=by
  change((items.toList.drop (sIx items.size 0 lo)).take (sIx items.size items.size hi - sIx items.size 0 lo)).toArray.size<=sizeLine;rw[aO,bN,dC,cV];lia
 have n:sIx items.size items.size hi<=items.size:=ajs _ _ (aJ _) hi;obtain⟨os,g,i,o⟩:=id hs;have j:s.TypeIs (.ref c) "slice":=#v[os,g,i];unfold mJ
 try with_reducible show dB ?_
 first | show aA (wpAny_pure ?_) | skip
 show aA (pZ a.typeIs (by decide) ?_);show aA (cX (name:=cZ "__getitem__") a.typeIs dA (cP dA a.typeIs oU ?_ (pL _ _)));change aM _ _ (jF (.ref t) >>= _) _ _ s;show aA (tupleItemsOf_ a ?_);show aA (mB j ?_);rw[ME (by decide)];show aA (vg hs pl f ?_);have l:¬((((sIx items.size 0 lo:Nat):Int) == 0 && (1:Int) == 1 && (sIx items.size items.size hi - sIx items.size 0 lo) == items.size)=LY):=by
  intro q;rw[cQ,cQ]at q;have p:((sIx items.size 0 lo:Nat):Int)=0:=eq_of_beq q.1.1;have r:sIx items.size items.size hi - sIx items.size 0 lo=items.size:=eq_of_beq q.2;show hw {(),()}
 change aM _ _ (if (((sIx items.size 0 lo:Nat):Int) == 0 && (1:Int) == 1 && (sIx items.size items.size hi - sIx items.size 0 lo) == items.size)=LY then _ else _) _ _ s
 rw[MF l,aac]
 first
  |show aA (m:=fN _) (cY (wpAny_pure {_,rfl,wpAny_pure h}) b)
  |show aA (m:=fN _) (cY (aA (wpAny_pure (wpAny_pure {_,rfl,wpAny_pure h}))) b)
  |show aA (aA (m:=fN _) (cY (wpAny_pure (wpAny_pure {_,rfl,wpAny_pure h})) b))
  |show aA (aA (m:=fN _) (cY (wpAny_pure {_,rfl,wpAny_pure h}) b))
end
end HT
namespace L2
open PySem PySem.Spec PyProof.Rows
abbrev TO:=St->Hp->(Option Int->Hp->Prop)->Prop
def PO (X:Cx)(e:Option MC)(t:TO):Prop:=
 ∀b s a H Q,Inv X b a H s->t a H Q->
  aM (aY X.prog X.w) X.A (evalPart e X.env) (λu s'=>∃o H',Inv X b a H' s'/\oB u o/\Q o H') X.xe s
def afo:TO:=λ_ H Q=>Q LX H
def tPart (t:TE):TO:=λa H Q=>t a H λx b=>∃i,x=.int i/\Q (KE i) b
section
variable {X:Cx}{e:MC}{te:TE}{lo hi:Option MC}{tl th:TO}{pos p2:Pos}
def afp:PO X LX afo:=by
 intro a s b H Q I h;rw[sA];show wpAny_pure {LX,H,I,.none,h}
def afq (h:PE X e te):PO X (KE e) (tPart te):=by
 intro a s b H Q I hw;rw[evalPart_some];show thn (h a s b H _ I hw) λu s1 c=>?_;obtain⟨x,d,f,g,j⟩:=c;obtain⟨i,rfl,q⟩:=j;obtain⟨t,rfl⟩:=g;show{KE i,d,f,.int i t,q}
def SlR (X:Cx)(r:V->Option Int->Option Int->Hp->VK->Prop):Prop:=
 ∀a s b H x v c d lo hi f Q,Inv X a b H s->RelV x v->s.heap.IsSliceOf f c d .none->oB c lo->oB d hi->r x lo hi H Q->
  ∃T id,typeLookup (.type T) "__getitem__"=pure (KE (.builtin id))/\s.TypeIs v T/\aM (aY X.prog X.w) X.A (mJ v (.ref f)) (EP X a b Q) X.xe s
def tSl (r:V->Option Int->Option Int->Hp->VK->Prop)(te:TE)(tl th:TO):TE:=λa H Q=>te a H λx b=>tl a b λl c=>th a c λu H3=>r x l u H3 Q
def aad (i:SlR X r)(j:PE X e te)(m:PO X lo tl)(n:PO X hi th):PE X (.Subscript e (.Slice lo hi LX p2) pos) (tSl r te tl th):=by
 intro a s c H Q I h;show Subscript_ (thn (j a s c H _ I h) λv s1 d=>?_);obtain⟨x,o,p,y,z⟩:=d;show wpAny_Slice (thn (m a s1 c o _ p z) λf C d=>?_);obtain⟨l,D,I2,pl,E⟩:=d;show thn (n a C c D _ I2 E) λg s3 d=>?_;obtain⟨u,H3,G,J,L⟩:=d;rw[sA];show wpAny_pure ?_;have N:Inv X a c H3 { s3 with heap:=s3.heap.push { cls:=.type "slice",data:=.fields #[f,g,.none] } }:=G.kept (t':=s3.toks) λb ob q=>aG _ q;obtain⟨T,id,O,U,Y⟩:=i a { s3 with heap:=s3.heap.push { cls:=.type "slice",data:=.fields #[f,g,.none] } } c H3 x v f g l u ‹s3› Q N y (Heap.IsSliceOf.new ..) pl J L;change aM (aY X.prog X.w) X.A (sC e (.Slice lo hi LX p2) v (.ref ‹s3›)) (EP X a c Q) X.xe { s3 with heap:=s3.heap.push { cls:=.type "slice",data:=.fields #[f,g,.none] } };show tail_any (ops:=[.ref ‹s3›,v]) U O Y (by with_unfolding_all rfl)
def xc (xs:List V)(lo hi:Option Int):List V:=(xs.drop (HT.sIx xs.length 0 lo)).take (HT.sIx xs.length xs.length hi - HT.sIx xs.length 0 lo)
def C6 (xs:List V)(lo hi:Option Int):(xc xs lo hi).length<=xs.length:=by
 unfold xc;rw[bN,dC];lia
def rSlT (K:aF):V->Option Int->Option Int->Hp->VK->Prop:=λx lo hi H Q=>∃a xs,x=.ref a/\SqT K H a xs/\
 ¬(HT.sIx xs.length 0 lo=0/\HT.sIx xs.length xs.length hi=xs.length)/\∀p,H p=LX->Q (.ref p) (upd H p (.tup (xc xs lo hi)))
def ajt:SlR X (rSlT X.K):=by
 intro j s l H x v m n lo hi p Q I f hs pl g h;obtain⟨a,xs,rfl,i,hw,q⟩:=h;cases f;obtain⟨its,r,d,hz⟩:=I.tuple i;have c:its.toArray.size=xs.length:=(by rw[aO];show r.length.symm);show{"tuple",_,dA.lookup,d.typeIs,?_};show HT.getItem_tuple_cut d hs pl g (by rw[c];show hw) ?_ (by rw[c];show hz);rw[c];show⟨.ref ‹s›,_,I.laid (t':=s.toks) (o:=.tup (xc xs lo hi)) (λb u q=>aG _ q) (aJ _) ?_,rfl,q _ (I.hok.fresh (aJ _))⟩;show{bL (C6 xs lo hi) hz,_,(r.drop (HT.sIx xs.length 0 lo)).take (HT.sIx xs.length xs.length hi - HT.sIx xs.length 0 lo),sS _ _}
def aee (K:aF):R2:=λx y H Q=>∃a b xs ys,x=.ref a/\y=.ref b/\SqT K H a xs/\SqT K H b ys/\xs≠[]/\xs.length+ys.length<=sizeLine/\
 (ys=[]->Q (.ref a) H)/\(ys≠[]->∀p,H p=LX->Q (.ref p) (upd H p (.tup (xs++ys))))
def Vals.nil_iff (r:Vals xs us):us=[]↔xs=[]:=by
 cases r with
 |nil=>simp
 |cons _ _=>simp
def afr:OpR X (eC .Add) (aee X.K):=by
 intro r s A H x y v u Q I f g h;obtain⟨a,b,xs,ys,rfl,rfl,i,j,l,hz,m,n⟩:=h;cases f;cases g;obtain⟨its,d,p,_⟩:=I.tuple i;obtain⟨C,c,p2,_⟩:=I.tuple j;show HT.cat_tup p p2 (λz=>l (d.nil_iff.mp z)) (λz=>{.ref a,H,I,rfl,m (c.nil_iff.mp z)}) (λz=>?_) (by rw[<-d.length,<-c.length];show hz);show⟨.ref ‹s›,_,I.laid (t':=s.toks) (o:=.tup (xs++ys)) (λb D q=>aG _ q) (aJ _) ?_,rfl,n (λw=>z (c.nil_iff.mpr w)) _ (I.hok.fresh (aJ _))⟩;show{by rw[aH];show hz,_,d.append c,sS _ _}
end
def ixN (n:Nat)(i:Int):Option Nat:=if 0<=i then (if i < n then KE i.toNat else LX)else if -(n:Int)<=i then KE (i+n).toNat else LX
def atI {a:Type}(xs:List a)(i:Int):Option a:=(ixN xs.length i).bind λj=>xs[j]?
def Gj (h:ixN n i=KE j):seqIndex? i n=KE j/\j < n/\-(n:Int)<=i/\i < n:=by
 unfold ixN at h;by_cases h0:0<=i
 ·rw[ME h0]at h;by_cases a:i < n
  ·rw[ME a]at h;have e:i.toNat=j:=bX h;show{by rw[tU h0 a,e],(),(),a}
  ·rw[MF a]at h;cases h
 ·rw[MF h0]at h;by_cases a:-(n:Int)<=i
  ·rw[ME a]at h;have e:(i+n).toNat=j:=bX h;show{by rw[seqIndex_neg () a,e],(),a,()}
  ·rw[MF a]at h;cases h
def Gk {a:Type}{xs:List a}{i:Int}{v:a}(h:atI xs i=KE v):∃j,seqIndex? i xs.length=KE j/\xs[j]?=KE v/\j < xs.length/\-(xs.length:Int)<=i/\i < xs.length:=by
 unfold atI at h;cases e:ixN xs.length i with
 |none=>rw[e]at h;cases h
 |some j=>
  rw[e]at h;obtain⟨b,c,d,f⟩:=Gj e;show#v[j,b,h,c,d,f]
def Gm (b:MC):Prop:=∀o i,subscripted b LZ o i=operate [o,i] (mJ o i)
def IxR (X:Cx)(r:R2):Prop:=
 ∀value slice a s b H x y v u Q,Inv X a b H s->RelV x v->RelV y u->r x y H Q->
  subscripted slice LZ v u=operate [v,u] (mJ v u)->aM (aY X.prog X.w) X.A (sC value slice v u) (EP X a b Q) X.xe s
def MtR (X:Cx)(id:String)(r:V->List V->Hp->VK->Prop):Prop:=
 ∀a s b H x xs v us Q,Inv X a b H s->RelV x v->Vals xs us->r x xs H Q->
  aM (aY X.prog X.w) X.A (call (.builtin id) (v::us)) (EP X a b Q) X.xe s
section
variable {X:Cx}{a b:MC}{ta tb:TE}{pos:Pos}
def Kw {r:R2}(c:IxR X r)(d:PE X a ta)(e:PE X b tb)(hs:Gm b):PE X (.Subscript a b pos) (tOp r ta tb):=by
 intro f s g H Q I h;show Subscript_ (Z3 d e I h λv u i x y j I2 l m q=>c a b f i g j x y v u Q I2 l m q (hs _ _))
def rIxL (K:aF):R2:=λx y H Q=>∃p xs i v,x=.ref p/\y=.int i/\SqL K H p xs/\atI xs i=KE v/\Q v H
def rIxT (K:aF):R2:=λx y H Q=>∃p xs i v,x=.ref p/\y=.int i/\SqT K H p xs/\atI xs i=KE v/\Q v H
def rIxS:R2:=λx y H Q=>∃z i c,x=.str z/\y=.int i/\z.length<=sizeLine/\atI z.cps.toList i=KE c/\Q (.str #v[#[c]]) H
def B6:IxR X (rIxL X.K):=by
 intro value slice e s f H x y v u Q I l m h hs;obtain⟨p,xs,i,z,rfl,rfl,n,o,q⟩:=h;cases l;obtain⟨t,rfl⟩:=m;obtain⟨its,r,pl,hz⟩:=I.list n;obtain⟨j,c,A,G,C,h5⟩:=Gk o;obtain⟨w,g,D⟩:=r.get A;have E:=r.length;have J:=nv;have fin:EP X e f Q w s:=#v[z,H,I,D,q];by_cases h0:0<=i
 ·have d:i.toNat=j:=by
   rw[tU h0 h5]at c;show bX c
  show item_listR pl.isList h0 () (by rw[d];simpa using g) fin hs
 ·have d:(i+(its.toArray.size:Int)).toNat=j:=by
   rw[seqIndex_neg () C]at c;rw[aO,<-E];show bX c
  show nD (x:=w) pl.isList.typeIs slot_list_getitem.lookup
   (wpAny_getItem_list_neg (Q:=λr s'=>r=w/\EP X e f Q r s') pl.isList () (by rw[aO]<;>lia) () (by rw[d];simpa using g) #v[rfl,fin]) hs
def aju:IxR X (rIxT X.K):=by
 intro value slice c s d H x y v u Q I e f h hs;obtain⟨p,xs,i,z,rfl,rfl,g,l,q⟩:=h;cases e;obtain⟨t,rfl⟩:=f;obtain⟨its,r,pl,hz⟩:=I.tuple g;obtain⟨j,m,n,D,E,h5⟩:=Gk l;obtain⟨w,o,A⟩:=r.get n;have C:=r.length;have G:=nv;have fin:EP X c d Q w s:=#v[z,H,I,A,q];show nD (x:=w) pl.typeIs slot_tuple_getitem.lookup
  (getItem_tuple (j:=j) (Q:=λr s'=>r=w/\EP X c d Q r s') pl () () (by rw[aO,<-C];show m) (by simpa using o) #v[rfl,fin]) hs
def ajv:IxR X rIxS:=by
 intro value slice r s w H x y v u Q I e f h hs;obtain⟨z,i,c,rfl,rfl,hz,g,q⟩:=h;obtain⟨t,rfl⟩:=e;obtain⟨t',rfl⟩:=f;obtain⟨j,d,l,A,m,h5⟩:=Gk g;have n:z.cps.toList.length=z.length:=(by simp[Str.length]);rw[n]at d m h5;have C:=nv;show tail_any (uF s z t) slot_str_getitem.lookup (getItem_str (c:=c) (by
   have o:decide (i < -(2 ^ 63:Int))=LZ:=MG ();have p:decide (i>=2 ^ 63)=LZ:=MG ();rw[o,p,Bool.or_false]) (by rw[d];simpa using l) {.str #v[#[c]],H,I.tok _,{_,rfl},q}) hs
def Ud (its:List aE)(n j:Nat)(u:aE):fF (·.setIfInBounds j u) { cls:=.type "list",data:=.seq its.toArray n }={ cls:=.type "list",data:=.seq (its.set j u).toArray n }:=by
 simp[fF]
theorem Inv.lst {c:List (MA×Obj)}{d:St}{H:Hp}{s:aK}{p:MA}{xs:List V}(I:Inv X c d H s)(h:H p=KE (.lst xs)) :
  ∃its n,Vals xs its/\s.heap.get? p=KE { cls:=.type "list",data:=.seq its.toArray n }/\xs.length<=sizeLine:=by
 obtain⟨z,its,n,r,e⟩:=I.hok p _ h;show#v[its,n,r,e,z]
def Inv.lstUpd {s:aK}{xs ys:List V}{its its':List aE}(I:Inv X g i H s)(h:H p=KE (.lst xs))
  (j:s.heap.get? p=KE { cls:=.type "list",data:=.seq its.toArray n }) (c:f { cls:=.type "list",data:=.seq its.toArray n }={ cls:=.type "list",data:=.seq its'.toArray d }) (r:Vals ys its') (hz:ys.length<=sizeLine) (t:Nat) :
  Inv X g i (upd H p (.lst ys)) { s with heap:=s.heap.update p f,toks:=t }:=by
 have e:(s.heap.update p f).get? p=KE { cls:=.type "list",data:=.seq its'.toArray d }:=by
  rw[gG f j (by rw[c]<;>rfl),c]
 show I.write (x:=p) (e:=p) (by rw[h];trivial) (.inl rfl) (λb u l q=>(Heap.get?_update_other _ _ (Ne.symm l)).trans q) {_,e} ?_;show#v[hz,its',d,r,e]
def aef:V->V->V->Hp->(Hp->Prop)->Prop:=λo i v H Q=>∃p xs k j,o=.ref p/\i=.int k/\H p=KE (.lst xs)/\ixN xs.length k=KE j/\Q (upd H p (.lst (xs.set j v)))
def Lh:Tn X aef:=by
 intro w s x H o i v D iv u Q I y z A h;obtain⟨p,xs,k,j,rfl,rfl,f,C,q⟩:=h;cases y;obtain⟨t,rfl⟩:=z;obtain⟨its,n,r,d,hz⟩:=I.lst f;obtain⟨c,E,g,l⟩:=Gj C;have e:=r.length;have G:=nv;have m:Inv X w x (upd H p (.lst (xs.set j v))) { s with heap:=s.heap.update p (fF (·.setIfInBounds j u)) }:=
  I.lstUpd f d (Ud its n j u) (r.set A j) (by rw[dY];show hz) s.toks
 by_cases h0:0<=k
 ·have hk:k.toNat=j:=by
   rw[tU h0 l]at c;show bX c
  show PySem.W.ki_setAt d h0 () (by rw[aO,<-e];show l) (by rw[hk];show{_,m,q})
 ·have hk:(k+(its.toArray.size:Int)).toNat=j:=by
   rw[seqIndex_neg () g]at c;rw[aO,<-e];show bX c
  show PySem.W.ki_setBack d () (by rw[aO,<-e];show g) () (by rw[hk];show{_,m,q})
def Li (lo hi:Option Int)(n:Nat):(lN lo hi LX n).1=((HT.sIx n 0 lo:Nat):Int)/\(lN lo hi LX n).2.1=((HT.sIx n n hi:Nat):Int)/\(lN lo hi LX n).2.2=1:=by
 show{?_,?_,rfl}
 ·cases lo with
  |none=>simp[lN,HT.sIx]
  |some i=>
   simp only[lN,HT.sIx,Option.getD_none,show(1:Int) > 0 by decide,if_true];by_cases h:i < 0
   ·simp only[h,if_true]<;>lia
   ·simp only[h,if_false]<;>lia
 ·cases hi with
  |none=>simp[lN,HT.sIx]
  |some i=>
   simp only[lN,HT.sIx,Option.getD_none,show(1:Int) > 0 by decide,if_true];by_cases h:i < 0
   ·simp only[h,if_true]<;>lia
   ·simp only[h,if_false]<;>lia
def Ju (its:List aE)(lo hi:Option Int):slicePick its.toArray lo hi LX=((its.drop (HT.sIx its.length 0 lo)).take (HT.sIx its.length its.length hi - HT.sIx its.length 0 lo)).toArray:=by
 obtain⟨c,d,e⟩:=Li lo hi its.toArray.size;unfold slicePick;rw[c,d,e];simp only[sliceRange_one,pick_run,aO]<;>rfl
def rSlL (K:aF):V->Option Int->Option Int->Hp->VK->Prop:=λx lo hi H Q=>∃a xs,x=.ref a/\SqL K H a xs/\∀p,H p=LX->Q (.ref p) (upd H p (.lst (xc xs lo hi)))
def R6:SlR X (rSlL X.K):=by
 intro i s j H x v l m lo hi n Q I d hs pl e h;obtain⟨a,xs,rfl,f,q⟩:=h;cases d;obtain⟨its,r,c,hz⟩:=I.list f;have g:=r.length;show{"list",_,slot_list_getitem.lookup,c.isList.typeIs,?_};show wpAny_getItem_list_slice c.isList hs pl e .none ∅ ?_ (by rw[aO]<;>lia);rw[Ju,<-g];show⟨.ref ‹s›,_,I.laid (t':=s.toks) (o:=.lst (xc xs lo hi)) (λb p q=>aG _ q) (aJ _) ?_,rfl,q _ (I.hok.fresh (aJ _))⟩;show{bL (C6 xs lo hi) hz,_,0,(r.drop (HT.sIx xs.length 0 lo)).take (HT.sIx xs.length xs.length hi - HT.sIx xs.length 0 lo),aW _ rfl}
def pd:V->Bool
 | .non=>LY
 | .bl _=>LY
 | .int _=>LY
 | .str _=>LY
 |_=>LZ
def eqV:V->V->Bool
 | .non,.non=>LY
 | .bl a,.bl b=>a == b
 | .bl a,.int b=>(if a then 1 else 0) == b
 | .int a,.bl b=>a == (if b then 1 else 0)
 | .int a,.int b=>a == b
 | .str a,.str b=>a == b
 |_,_=>LZ
def Wy (d:RelV y u)(c:RelV x v)(f:pd y=LY)(e:pd x=LY):uG A s u v (eqV y x):=by
 cases y with
 |non=>
  cases d;cases x with
  |non=>cases c;show SeqAt.EqAt.same _
  |bl b=>cases c;show SeqAt.EqAt.none_bool b
  |int b=>obtain⟨t,rfl⟩:=c;show SeqAt.EqAt.none_int b t
  |str b=>obtain⟨t,rfl⟩:=c;show SeqAt.EqAt.none_str b t
  |_=>show MI (show LZ=LY from e) aQ
 |bl a=>
  cases d;cases x with
  |non=>cases c;show SeqAt.EqAt.bool_none a
  |bl b=>cases c;show SeqAt.EqAt.bool_bool a b
  |int b=>obtain⟨t,rfl⟩:=c;show SeqAt.EqAt.bool_int a b t
  |str b=>obtain⟨t,rfl⟩:=c;show SeqAt.EqAt.bool_str a b t
  |_=>show MI (show LZ=LY from e) aQ
 |int a=>
  obtain⟨t',rfl⟩:=d;cases x with
  |non=>cases c;show SeqAt.EqAt.int_none a t'
  |bl b=>cases c;show SeqAt.EqAt.int_bool a t' b
  |int b=>obtain⟨t,rfl⟩:=c;show SeqAt.EqAt.int_int a t' b t
  |str b=>obtain⟨t,rfl⟩:=c;show SeqAt.EqAt.int_str a t' b t
  |_=>show MI (show LZ=LY from e) aQ
 |str a=>
  obtain⟨t',rfl⟩:=d;cases x with
  |non=>cases c;show SeqAt.EqAt.str_none a t'
  |bl b=>cases c;show SeqAt.EqAt.str_bool a t' b
  |int b=>obtain⟨t,rfl⟩:=c;show SeqAt.EqAt.str_int a t' b t
  |str b=>obtain⟨t,rfl⟩:=c;show SeqAt.EqAt.str_str a t' b t
  |_=>show MI (show LZ=LY from e) aQ
 |_=>show MI (show LZ=LY from f) aQ
def eqU (x:V)(u:aE):Bool:=match u with
 | .none=>eqV .non x
 | .bool b=>eqV (.bl b) x
 | .int i _=>eqV (.int i) x
 | .str z _=>eqV (.str z) x
 |_=>LZ
def Wz (r:RelV y u)(f:pd y=LY):eqU x u=eqV y x:=by
 cases y with
 |non=>cases r;rfl
 |bl b=>cases r;rfl
 |int i=>obtain⟨t,rfl⟩:=r;rfl
 |str z=>obtain⟨t,rfl⟩:=r;rfl
 |_=>show MI (show LZ=LY from f) aQ
theorem Lj (c:RelV x v)(d:pd x=LY):∀{xs us},Vals xs us->xs.all pd=LY->∀u∈us,uG A s u v (eqU x u)
 |_,_,.nil,_=>λu hu=>by cases hu
 |y::xs,u::us,.cons r t,f=>λe hu=>by
  rw[sD,cQ]at f;rcases aU.mp hu with rfl | hu
  ·rw[Wz r f.1];show Wy r c f.1 d
  ·show Lj c d t f.2 e hu
def pf:kz X (.builtin "len") (λxs H Q=>∃p ys,xs=[.ref p]/\(SqL X.K H p ys\/SqT X.K H p ys)/\Q (.int ys.length) H):=by
 intro f s g H xs us Q I r h;obtain⟨p,ys,rfl,hq,q⟩:=h;obtain⟨u,rfl,e⟩:=mr r;cases e;have i:=nv;rcases hq with hq | hq
 ·obtain⟨its,c,pl,hz⟩:=I.list hq;have d:=c.length;show Calls.call_len_list pl.isList (by simp only[aO]<;>lia) {.int ys.length,H,I.tok _,{s.toks+1,by rw[aO,d]},q}
 ·obtain⟨its,c,pl,hz⟩:=I.tuple hq;have d:=c.length;show len_tuple pl (by simp only[aO]<;>lia) {.int ys.length,H,I.tok _,{s.toks+1,by rw[aO,d]},q}
def Lk:kz X (.builtin "len") (λxs H Q=>∃z,xs=[.str z]/\z.length<=sizeLine/\Q (.int z.length) H):=by
 intro c s d H xs us Q I r h;obtain⟨z,rfl,hz,q⟩:=h;obtain⟨u,rfl,t,rfl⟩:=mr r;have e:=nv;show len_str () {.int z.length,H,I.tok _,{_,rfl},q}
def Aw:kz X (.type "list") (λxs H Q=>∃p ys,xs=[.ref p]/\(SqL X.K H p ys\/SqT X.K H p ys)/\∀l,H l=LX->Q (.ref l) (upd H l (.lst ys))):=by
 intro j s m H xs us Q I r h;obtain⟨p,ys,rfl,hq,q⟩:=h;obtain⟨u,rfl,x⟩:=mr r;cases x;have fin:∀its,Vals ys its->ys.length<=sizeLine->∀h' c,(∀b i,s.heap.get? b=KE i->h'.get? b=KE i)->
   h'.get? ‹s›=KE { cls:=.type "list",dict:=LX,data:=.seq its.toArray c,slots:=#[] }->EP X j m Q (.ref ‹s›) { s with heap:=h' }:=λits d hz h' c kp e=>
  {.ref ‹s›,_,I.laid (t':=s.toks) kp (aJ _) (show ObjOk X.prog X.w _ h' _ (.lst ys)from#v[hz,its,c,d,e]),rfl,q _ (I.hok.fresh (aJ _))}
 rcases hq with hq | hq
 ·obtain⟨its,d,pl,hz⟩:=I.list hq;have y:=d.length;obtain⟨o,f,g,n,hd⟩:=pl.isList;show call_list_seq p (.inl rfl) f g hd (λh' c kp e=>fin its d hz h' c kp e) (by simp only[aO]<;>lia)
 ·obtain⟨its,d,pl,hz⟩:=I.tuple hq;have y:=d.length;obtain⟨o,f,g,n,hd⟩:=pl;show call_list_seq p (.inr rfl) f g hd (λh' c kp e=>fin its d hz h' c kp e) (by simp only[aO]<;>lia)
def Ak:kz X (.type "tuple") (λxs H Q=>∃p ys,xs=[.ref p]/\((SqL X.K H p ys/\∀l,H l=LX->Q (.ref l) (upd H l (.tup ys)))\/(SqT X.K H p ys/\Q (.ref p) H))):=by
 intro f s g H xs us Q I r h;obtain⟨p,ys,rfl,h⟩:=h;obtain⟨u,rfl,j⟩:=mr r;cases j;rcases h with⟨c,q⟩ | ⟨c,q⟩
 ·obtain⟨its,d,pl,hz⟩:=I.list c;have m:=d.length;show call_tuple_list pl.isList (λh' kp=>?_) (by simp only[aO]<;>lia);have i:Inv X f g H { s with heap:=h' }:=I.kept (t':=s.toks) kp;have I2:Inv X f g (upd H h'.objs.size (.tup ys)) { s with heap:=h'.push { cls:=.type "tuple",data:=.seq its.toArray } }:=
   i.laid (t':=s.toks) (λb o e=>aG _ e) (aJ _) (show ObjOk X.prog X.w _ _ _ (.tup ys)from{hz,its,d,sS _ _})
  show{.ref h'.objs.size,_,I2,rfl,q _ (i.hok.fresh (aJ _))}
 ·obtain⟨its,d,pl,hz⟩:=I.tuple c;show call_tuple_same pl {.ref p,H,I,rfl,q}
def tyV (K:aF)(T:String)(x:V)(H:Hp):Prop:=match x with
 | .str _=>T="str"
 | .int _=>T="int"
 | .ref p=>(T="list"/\∃xs,SqL K H p xs)\/(T="tuple"/\∃o,K.lookup p=KE o/\o.cls=.type "tuple"/\o.dict=LX)\/
   (T="dict"/\((∃kvs,H p=KE (.dK kvs))\/∃kvs,H p=KE (.dT kvs)))\/(T="set"/\∃S n,H p=KE (.set S n))
 |_=>False
def Xa (I:Inv X j l H s)(r:RelV x v)(ty:tyV X.K T x H) :
  s.TypeIs v T/\∀a,v=.ref a->∃f,s.heap.get? a=KE f/\f.dict=LX:=by
 cases x with
 |str z=>
  obtain⟨t,rfl⟩:=r;cases(show T="str" from ty);show{uF s z t,λ_ e=>nomatch e}
 |int i=>
  obtain⟨t,rfl⟩:=r;cases(show T="int" from ty);show{rV s i t,λ_ e=>nomatch e}
 |ref p=>
  cases r;rcases ty with⟨rfl,xs,g⟩ | ⟨rfl,o,hk,h,hd⟩ | ⟨rfl,hk⟩ | ⟨rfl,S,n,hk⟩
  ·obtain⟨its,_,pl,_⟩:=I.list g;show{pl.isList.typeIs,λa e=>?_};cases e;obtain⟨o,n,e,c,hd,_⟩:=pl;show#v[o,e,hd]
  ·show{{o,I.kIn p o hk,h},λa e=>?_};cases e;show{o,I.kIn _ o hk,hd}
  ·have z:∃o,s.heap.get? p=KE o/\o.ExactDict:=by
    rcases hk with⟨kvs,hk⟩ | ⟨kvs,hk⟩
    ·obtain⟨_,_,_,_,o,_,_,e,ex,_⟩:=I.hok p _ hk;show#v[o,e,ex]
    ·obtain⟨_,_,_,_,o,_,_,e,ex,_⟩:=I.hok p _ hk;show#v[o,e,ex]
   obtain⟨o,e,ex⟩:=z;show{#v[o,e,ex.1],λa d=>?_};cases d;show#v[o,e,ex.2.1]
  ·obtain⟨o,_,_,_,e,ex,_⟩:=I.hok p _ hk;show{#v[o,e,ex.1],λa d=>?_};cases d;show#v[o,e,ex.2.1]
 |_=>show gZ ty
def tBM0 (K:aF)(T:String)(r:V->List V->Hp->VK->Prop)(to:TE):TE:=λd H Q=>to d H λx c=>tyV K T x c/\r x [] c Q
def tBM (K:aF)(T:String)(r:V->List V->Hp->VK->Prop)(to:TE)(t:TA):TE:=λc H Q=>to c H λx d=>tyV K T x d/\t c d λxs e=>r x xs e Q
variable {o e:MC}{es:List MC}{to:TE}{t:TA}{name:Str}{wB vU:Pos}{T id:String}{r:V->List V->Hp->VK->Prop}
def Es (i:oC T)(slot:Slot T name id)(j:sT (.builtin id)=pure (.type "method_descriptor"))(l:MtR X id r)(m:PE X o to)
  (n:hX o name X.env (eval o X.env)=eval o X.env:=by rfl) (p:(wB.endLine == vU.line)=LY:=by rfl):PE X (.Call (.Attribute o name wB) [] [] vU) (tBM0 X.K T r to):=by
 intro c s d H Q I h;show wpAny_Call_method0_late n p (thn (m c s d H _ I h) λv s1 q=>?_);obtain⟨x,u,f,g,ty,w⟩:=q;obtain⟨y,z⟩:=Xa f g ty;show{T,id,i,slot,j,y,z,Calls.callWith_builtin rfl (PySem.evalArgs_none (l c s1 d u x [] v [] Q f g .nil w))}
def Ue (l:oC T)(slot:Slot T name id)(m:sT (.builtin id)=pure (.type "method_descriptor"))(n:MtR X id r)(p:PE X o to)(q:PA X (e::es) t)
  (u:hX o name X.env (eval o X.env)=eval o X.env:=by rfl)
  (w:((dU vU (aP (e::es) X.env)).all (λx=>!x.1) && (nL vU (kN [] X.env)).all (λx=>x.1.isSome) && decide ((e::es).length+([]:List nR).length+(if ([]:List nR).isEmpty then 0 else 1) < 30))=LY:=by rfl)
  (y:(wB.endLine == vU.line)=LY:=by rfl) (hs:aP (e::es) X.env=(LZ,eval e X.env)::aP es X.env:=by rfl) (z:(dU vU (aP es X.env)).any (·.1)=LZ:=by rfl) :
  PE X (.Call (.Attribute o name wB) (e::es) [] vU) (tBM X.K T r to t):=by
 intro c s d H Q I h;show wpAny_Call_method_late u w y rfl (thn (p c s d H _ I h) λv s1 f=>?_);obtain⟨x,A,g,i,ty,C⟩:=f;obtain⟨D,E⟩:=Xa g i ty;show{T,id,l,slot,m,D,E,?_};have j:=q vU c s1 d A _ g C;rw[hs]at j ⊢;show Calls.callWith_builtin (by change(LZ || (dU vU (aP es X.env)).any (·.1))=LZ;rw[z]<;>rfl) (Calls.evalArgs_plain ?_);show thn j λus G f=>by obtain⟨vs,J,I2,L,N⟩:=f;show n c G d J x vs v us Q I2 i L N
end
def MtM (X:Cx)(id:String)(r:V->List V->Hp->VK->Prop):Prop:=
 ∀a s b H x xs v us Q,Inv X a b H s->RelV x v->Vals xs us->r x xs H Q->
  aM (aY X.prog X.w) X.A (call (.builtin id) (v::us)) (EP X a b Q) X.xe s
theorem Vals.one:∀{x:V}{us:List aE},Vals [x] us->∃u,us=[u]/\RelV x u
 |_,_,.cons r .nil=>{_,rfl,r}
theorem Vals.zero:∀{us:List aE},Vals [] us->us=[]
 |_,.nil=>rfl
theorem Vals.dropLast {xs:List V}{us:List aE}(h:Vals xs us):Vals xs.dropLast us.dropLast:=by
 induction h with
 |nil=>show .nil
 |cons r t a=>
  cases t with
  |nil=>show .nil
  |cons q t'=>show .cons r a
theorem Vals.eraseIdx:∀{xs:List V}{us:List aE}(i:Nat),Vals xs us->Vals (xs.eraseIdx i) (us.eraseIdx i)
 |_,_,_,.nil=>.nil
 |_,_,0,.cons _ t=>t
 |_,_,i+1,.cons r t=>.cons r (Vals.eraseIdx i t)
theorem Vals.reverse {xs:List V}{us:List aE}(h:Vals xs us):Vals xs.reverse us.reverse:=by
 induction h with
 |nil=>show .nil
 |cons r t a=>rw[jI,jI];show Vals.append a (.cons r .nil)
theorem Vals.rep (h:Vals xs us):∀k:Nat,Vals (aT k xs).flatten (aT k us).flatten
 |0=>.nil
 |k+1=>by
  rw[fK,fK,iM,iM];show Vals.append h (Vals.rep h k)
def Ug {c:Type}(l:List c):l.eraseIdx (l.length - 1)=l.dropLast:=by
 induction l with
 |nil=>rfl
 |cons a r d=>
  cases r with
  |nil=>rfl
  |cons b r=>
   have e:(a::b::r).length - 1=((b::r).length - 1)+1:=by
    have f:(a::b::r).length=r.length+2:=rfl;have g:(b::r).length=r.length+1:=rfl;lia
   rw[e,gN,d]
   all_goals rfl
theorem Il {a:Type}:∀(l:List a)(i:Nat),(l.eraseIdx i).length<=l.length
 | [],_=>aJ _
 |_::_,0=>rH _
 |_::r,i+1=>Nat.succ_le_succ (Il r i)
theorem Im (its:List aE):∀k a,
  uH (λb c=>b++c) a.toArray (aT k its.toArray)=(a++(aT k its).flatten).toArray
 |0,a=>by simp
 |k+1,a=>by
  have e:a.toArray++its.toArray=(a++its).toArray:=∅;have d:(a++its)++(aT k its).flatten=a++(aT (k+1) its).flatten:=by
   rw[fK,iM,dD]
  rw[<-d,<-Im its k (a++its),<-e,fK,oE]
section
variable {X:Cx}{uS:List (MA×Obj)}{σ:St}{H:Hp}{s:aK}{l b:MA}{xs ys zs:List V}
def Inv.lset {its its':List aE}{n:Nat}{f:Array aE->Array aE}{t':Nat}(I:Inv X uS σ H s)(a:H l=KE (.lst xs))
  (e:s.heap.get? l=KE { cls:=.type "list",data:=.seq its.toArray n }) (c:f its.toArray=its'.toArray) (d:Vals ys its') (hz:ys.length<=sizeLine) :
  Inv X uS σ (upd H l (.lst ys)) { s with heap:=s.heap.update l (fF f),toks:=t' }:=by
 have q:=PySem.IsL.update e f;rw[c]at q;show I.write (x:=l) (e:=l) (by rw[a];show trivial) (.inl rfl) (λi u g h=>(Heap.get?_update_other s.heap (fF f) (Ne.symm g)).trans h) {_,q} ?_;show{hz,its',_,d,q}
def Inv.lnew (I:Inv X uS σ H s)(a:Vals ys its)(hz:ys.length<=sizeLine) :
  Inv X uS σ (upd H ‹s› (.lst ys)) { s with heap:=s.heap.push { cls:=.type "list",data:=.seq its.toArray },toks:=t' }:=
 I.laid (λ_ _ q=>aG _ q) (aJ _) {hz,its,0,a,aW _ rfl}
theorem Inv.fresh (I:Inv X uS σ H s):H ‹s›=LX:=I.hok.fresh (aJ _)
def Inv.lstM (I:Inv X uS σ H s)(a:H l=KE (.lst xs)):xs.length<=sizeLine/\∃(its:List aE)(n:Nat),Vals xs its/\xs.length=its.length/\s.heap.get? l=KE { cls:=.type "list",data:=.seq its.toArray n }:=by
 obtain⟨z,its,n,r,e⟩:=I.hok l _ a;show#v[z,its,n,r,r.length,e]
def Dk {n:Nat}(h:n<=sizeLine):gH n=LZ:=by
 unfold gH;show MG ()
end
section
variable {X:Cx}
def afs:V->List V->Hp->VK->Prop:=λx vs H Q=>∃l xs y,x=.ref l/\vs=[y]/\H l=KE (.lst xs)/\xs.length < sizeLine/\Q .non (upd H l (.lst (xs++[y])))
def Ax:MtM X "list.append" afs:=by
 intro f s g H x vs v us Q I b c h;obtain⟨l,xs,y,rfl,rfl,a,hz,q⟩:=h;cases b;obtain⟨u,rfl,d⟩:=c.one;obtain⟨z,its,n,r,i,e⟩:=I.lstM a;show jL F.slot_list_append {_,e,rfl} F.entry_list_append (F.args_list_append_2 _ _) (PySem.list_append l its.toArray n u (by rw[aO];lia)) {e,?_};show{.non,_,I.lset (its':=its++[u]) a e ∅ (r.append (.cons d .nil)) ?_,rfl,q};rw[aH,cK];lia
def aft:V->List V->Hp->VK->Prop:=λx vs H Q=>∃l b xs a,x=.ref l/\vs=[.ref b]/\H l=KE (.lst xs)/\H b=KE (.lst a)/\xs.length+a.length<=sizeLine/\Q .non (upd H l (.lst (xs++a)))
def Xb:MtM X "list.extend" aft:=by
 intro w s y H x vs v us Q I d f h;obtain⟨l,b,xs,A,rfl,rfl,c,g,hz,q⟩:=h;cases d;obtain⟨u,rfl,i⟩:=f.one;cases i;obtain⟨z,its,n,r,C,e⟩:=I.lstM c;obtain⟨D,a,j,m,E,o⟩:=I.lstM g;have hsz:its.toArray.size+a.toArray.size<=sizeLine:=(by rw[aO,aO];lia);have p:¬(!its.toArray.isEmpty && gH (its.toArray.size+a.toArray.size))=LY:=by
  rw[Dk hsz,mK];show aQ
 show jL F.slot_list_extend {_,e,rfl} F.entry_list_extend (F.args_list_extend_2 _ _)
  (AutoSeq1.list_extend_list_list_0 l its.toArray n b a.toArray j p (by rw[aO];lia) ()) {e,o,?_}
 show{.non,_,I.lset (its':=its++a) c e ∅ (r.append m) ?_,rfl,q};rw[aH];lia
def rPop:V->List V->Hp->VK->Prop:=λx vs H Q=>∃l xs y,x=.ref l/\vs=[]/\H l=KE (.lst xs)/\xs[xs.length - 1]?=KE y/\Q y (upd H l (.lst xs.dropLast))
def ajw:MtM X "list.pop" rPop:=by
 intro o s p H x vs v us Q I b c h;obtain⟨l,xs,y,rfl,rfl,a,d,q⟩:=h;cases b;have f:=c.zero;subst f;obtain⟨z,its,n,r,g,e⟩:=I.lstM a;obtain⟨u,i,j⟩:=r.get d;have m:its.toArray[its.toArray.size - 1]?=KE u:=by
  change its.toArray[its.length - 1]?=KE u;rw[<-bR,<-g];show i
 show jL F.slot_list_pop {_,e,rfl} F.entry_list_pop (F.args_list_pop_1 _) (MeetsSeq.list_pop_last l its.toArray n u m (by rw[aO];lia)) {e,?_};show{y,_,I.lset (its':=its.dropLast) a e ?_ r.dropLast ?_,j,q}
 ·change its.toArray.eraseIdxIfInBounds (its.toArray.size - 1)=its.dropLast.toArray;rw[aO,List.eraseIdxIfInBounds_toArray,Ug]
 ·rw[List.length_dropLast];lia
def ajx:V->List V->Hp->VK->Prop:=λx vs H Q=>∃l xs i k y,x=.ref l/\vs=[.int i]/\H l=KE (.lst xs)/\-(2 ^ 63)<=i/\i < 2 ^ 63/\seqIndex? i xs.length=KE k/\xs[k]?=KE y/\Q y (upd H l (.lst (xs.eraseIdx k)))
def aag:MtM X "list.pop" ajx:=by
 intro p s A H x vs v us Q I b c h;obtain⟨l,xs,i,k,y,rfl,rfl,a,d,f,hk,g,q⟩:=h;cases b;obtain⟨u,rfl,j⟩:=c.one;obtain⟨t,rfl⟩:=j;obtain⟨z,its,n,r,m,e⟩:=I.lstM a;obtain⟨w,hw,o⟩:=r.get g;show jL F.slot_list_pop {_,e,rfl} F.entry_list_pop (F.args_list_pop_2 _ _)
  (MeetsSeq.list_pop_at l its.toArray n i t k w (fitsIndex_both d f) (by rw[aO,<-m];show hk) (by rw[<-bR];show hw) (by rw[aO];lia)) {e,?_}
 show{y,_,I.lset (its':=its.eraseIdx k) a e ?_ (r.eraseIdx k) ?_,o,q}
 ·change its.toArray.eraseIdxIfInBounds k=(its.eraseIdx k).toArray;rw[List.eraseIdxIfInBounds_toArray]
 ·have:=Il xs k;lia
def Ll:V->List V->Hp->VK->Prop:=λx vs H Q=>∃l xs,x=.ref l/\vs=[]/\H l=KE (.lst xs)/\Q .non (upd H l (.lst []))
def Lm:MtM X "list.clear" Ll:=by
 intro f s g H x vs v us Q I b c h;obtain⟨l,xs,rfl,rfl,a,q⟩:=h;cases b;have d:=c.zero;subst d;obtain⟨z,its,n,r,i,e⟩:=I.lstM a;show jL F.slot_list_clear {_,e,rfl} F.entry_list_clear (F.args_list_clear_1 _) (AutoSeq1.list_clear_list_0 l its.toArray n (by rw[aO];lia)) {e,?_};show{.non,_,I.lset (its':=[]) (ys:=[]) a e rfl .nil (cT _),rfl,q}
def rCat:R2:=λx y H Q=>∃l b xs a,x=.ref l/\y=.ref b/\H l=KE (.lst xs)/\H b=KE (.lst a)/\xs.length+a.length<=sizeLine/\∀p,H p=LX->Q (.ref p) (upd H p (.lst (xs++a)))
def ajy:OpR X (eC .Add) rCat:=by
 intro o s p H x y v u Q I c d h;obtain⟨l,b,xs,w,rfl,rfl,f,g,hz,q⟩:=h;cases c;cases d;obtain⟨z,its,n,r,A,e⟩:=I.lstM f;obtain⟨C,a,D,i,E,j⟩:=I.lstM g;show PySem.P.add_list e j ?_ (by rw[aO,aO];lia);have m:its.toArray++a.toArray=(its++a).toArray:=∅;rw[m];show{.ref _,_,I.lnew (t':=s.toks) (r.append i) (by rw[aH];lia),rfl,q _ I.fresh}
def rRep:R2:=λx y H Q=>∃l k xs,x=.ref l/\y=.int k/\H l=KE (.lst xs)/\-(2 ^ 63)<=k/\k < 2 ^ 63/\xs.length * k.toNat<=sizeLine/\
 ∀p,H p=LX->Q (.ref p) (upd H p (.lst (aT k.toNat xs).flatten))
def afu (xs:List b)(k:Nat):(aT k xs).flatten.length=k * xs.length:=by
 induction k with
 |zero=>simp
 |succ k a=>rw[fK,iM,aH,a,Nat.succ_mul,oF]
def ajz:OpR X (eC .Mult) rRep:=by
 intro G s J H x y v u Q I g i h;obtain⟨l,k,xs,rfl,rfl,j,o,p,hz,q⟩:=h;cases g;obtain⟨t,rfl⟩:=i;obtain⟨z,its,n,r,w,e⟩:=I.lstM j;have A:its.toArray.size * k.toNat<=sizeLine:=(by rw[aO,<-w];show hz);have b:¬its.toArray.size * k.toNat > (2 ^ 63 - 1) / 8:=by
  have:(sizeLine:Nat)<=(2 ^ 63 - 1) / 8:=(by decide);lia
 have C:¬(!Builtin.List.listFitsIndex k)=LY:=by
  rw[fitsIndex_both o p];show aQ
 have D:¬gH (its.toArray.size * k.toNat)=LY:=by
  rw[Dk A];show aQ
 have c:uH (λd f=>d++f) #[] (aT (if its.toArray.isEmpty=LY then 0 else k.toNat) its.toArray)=(aT k.toNat its).flatten.toArray:=by
  have E:∀m:Nat,uH (λd f=>d++f) #[] (aT m its.toArray)=(aT m its).flatten.toArray:=λm=>by
   have:=Im its m [];rw[bH]at this;show this
  rw[E];cases its with
  |nil=>simp
  |cons a L=>rw[MF ∅]
 show wpAny_binaryOp_repeat_ref (T:="list") (U:="int") (by decide) {_,e,rfl} (λs'=>rV s' k t) noFill_list_mul F.fills_int_mul F.slot_int_rmul repeat_list F.slot_int_index.lookup
  (jL F.slot_int_rmul (rV s k t) F.entry_int_rmul (F.args_int_rmul_2 _ _) (int___rmul___int_list k t l its.toArray n) {e,rfl,{_,e,rfl},jL F.slot_list_mul {_,e,rfl} F.entry_list_mul (F.args_list_mul_2 _ _) (AutoListH.list___mul___list_int_3 l its.toArray n k t C b D) {e,?_}})
 rw[c];show{.ref _,_,I.lnew (t':=s.toks) (r.rep k.toNat) (by rw[afu,oG];show hz),rfl,q _ I.fresh}
end
end L2
namespace Att
open PySem PySem.W PySem.Calls PyProof.Rows
def Et:∀ns vs,WellAll P h vs (ns.map WData.int)->tQ vs ns:=by
 intro ns
 induction ns with
 |nil=>
  intro vs w;rw[gW]at w;cases w;show .nil
 |cons n ns c=>
  intro vs w;rw[bB]at w;cases w with
  |cons a b=>
   cases a;show .cons _ _ (c _ b)
def Xc {l:nE}(g:l.most=KE n){h:MB}
  (e:l.row.toRowW.claim.pre args=LY) (i:WellAll P h j args) :
  ∃a vs ns,j=[bZ a]/\args=[WData.list (ns.map WData.int)]/\h.get? a=KE { cls:=.type "list",data:=.seq vs.toArray }/\tQ vs ns/\ns.length<=n:=by
 have c:WShape.hasAll [] args [.list .int]=LY:=(pre_splitW e).1;have f:l.pre.holds [] { args:=args }=LY:=(pre_splitW e).2;obtain⟨d,r,rfl,m,o⟩:=hasAllW_cons c;obtain rfl:=hasAllW_nil o;obtain⟨xs,rfl,p⟩:=hasW_list m;obtain⟨ns,rfl⟩:=items_int p;have s:ns.length<=n:=by
  unfold OpenLaw.pre at f;have b:(WTm.not (.lt (.lit (.int (n:Int))) (.len (.arg 0)))).holds [] { args:=[.list (ns.map .int)] }=LY:=by
   have b:=(holds_andW f).1;rw[g]at b;show b
  have h5:=condW_of b (w_not (w_lt w_lit (w_len_list (w_arg rfl))));rw[aB]at h5;show nM λq=>?_;have u:(n:Int) < ((ns.length:Nat):Int):=by lia
  first
   | (rw[MH u]at h5;show MI h5 (by decide))
   | (simp at h5;lia)
 cases i with
 |cons w x=>
  cases x;cases w with
  |list y z=>show{_,_,ns,rfl,rfl,y,Et ns _ z,s}
def Xd (l:nE)(args:List WData):l.row.toRowW.claim.post args (.bool LY) args=LY:=
 postW_of (r:=l.row.toRowW) (X:=(LY == LY))
  (show WShape.has [] (.bool LY) .bool=LY by first | rfl | decide | simp[WShape.has,WShape.arms,WShape.armsAll])
  (show(WTm.eq .res (.lit (.bool LY))).value [] { args:=args,res:=KE (.bool LY),after:=args }=KE (.bool (LY == LY))from w_eq_bool (w_res rfl) w_lit) rfl
def attach_call {l:nE}{d:DefRec}
  (i:l.most=KE n) (j:d.params.defaults=[])
  (call:∀(w:bC)(s₀ b:aK) (mg c:Str->Option aE) (fa:MA) (o:Obj) (e cd g:aE) (a:MA) (vs:List aE) (ns:List Int),Ground q m [] p w s₀ mg c b.heap->s w b.heap->b.heap.get? fa=KE o->o.data=.func (docDef d.name d.params d.body d.scope e cd g)->b.heap.CodeRec cd d.name->mg d.name=KE (.ref fa)->b.heap.get? a=KE { cls:=.type "list",data:=.seq vs.toArray }->tQ vs ns->ns.length<=n->b.gens=#[]->lM (aY l.prog w) pB (.call (.ref fa) {[.ref a],[]}) (λr s'=>r=.ok (.ret (.bool LY))/\OldK b.heap s'.heap/\s'.os=b.os/\nQ s'.gens) b) :
  WalkO q m p s l.row.toRowW d [] (λf vs=>uI f vs):=by
 intro w s₀ b mg c G Y fa o e cd g u kV x hd y hD z A args CQ as C h D E H;obtain rfl:u=.none:=Dflts.none hD j;obtain rfl:kV=.none:=Dflts.noKw hD;obtain⟨a,vs,ns,rfl,rfl,I,J,L⟩:=Xc i C E;show enter_call (lU (call w s₀ b mg c fa o e cd g a vs ns G Y x (fd_plain hd) y z I J L A) λr s' N=>?_);obtain⟨rfl,O,Q,T⟩:=N;show{.inl {.bool LY,.bool LY,[],rfl,λ_=>rfl,.bool LY,Xd l _,λ_=>{jJ,λ_ U=>(nomatch U)}},O,Q,T}
section
variable {prog:aV}{w:bC}{A:cG}{E:aE->aK->Prop}{s:aK}{K:Frag}
def ledger (h:MB)(L d:MA):List (MA×Obj):=(bG h.objs.size).filterMap λa=>if a=L\/a=d then LX else (h.get? a).map λo=>(a,o)
end
end Att
namespace L2
open PySem PySem.Spec PyProof.Rows
theorem Io:∀{vs ns},tQ vs ns->Vals (ns.map V.int) vs
 |_,_,.nil=>.nil
 |_,_,.cons n t h=>.cons #v[t,rfl] (Io h)
def Only (H:Hp):Prop:=∀b,H b=LX\/∃o xs,H b=KE (.frz o (.lst xs))
def aai {P:aV}{w:bC}{K:aF}{mg D:Str->Option aE}{CX:CXT}{k:Nat}{fa a:MA}{fd:gB}{x:Str}{sp:Sp}{c:aK}{vs:List aE}{ns:List Int}
  (KX:K.In c.heap) (I:c.heap.Ns bI mg) (f:c.heap.Ns uC D) (E:∀x:Str,x≠"__name__"->D x=dX x) (i:c.heap.NoLimit) (Y:c.gens=#[])
  (A:c.heap.get? a=KE { cls:=.type "list",data:=.seq vs.toArray }) (hi:tQ vs ns) (J:ns.length<=sizeLine) (hr:Room k pB)
  (F:∀base:MB,K.In base->base.Ns bI mg->FnOk P w K mg base CX k fa fd [x] sp) (g:∀(s:aK)(u:aE),qJ s fd {[u],[]} [(x,u)])
  (DN:∀H:Hp,Only H->SqL K H a (ns.map V.int)->sp [.ref a] H (λv _=>v=.bl LY) λ_ _ _=>False)
  (IC:∀H e s',CX [] H c (λ_ _ _=>False) e s'->False) :
  lM (aY P w) pB (.call (.ref fa) {[.ref a],[]}) (λr s'=>r=.ok (.ret (.bool LY))/\OldK c.heap s'.heap/\s'.os=c.os/\nQ s'.gens) c:=by
 have L:=Io hi;have j:=hi.length;have N:∀H:Hp,Only H->SqL K H a (ns.map V.int)->HOk P w H c.heap->(∀b,H b≠LX->b=a)->(H a≠LX->K.lookup a=LX)->
   lM (aY P w) pB (.call (.ref fa) {[.ref a],[]}) (λr s'=>r=.ok (.ret (.bool LY))/\OldK c.heap s'.heap/\s'.os=c.os/\nQ s'.gens) c:=by
  intro H O hS hok Q hK;have T:∀{b:MA}{o:Obj},c.heap.get? b=KE o->H b=LX->(yu c.heap H).get? b=KE o:=λe n=>Zv e n;have FN:∀{b:MA}{o:Obj}{l:Array DictEntry}{ep:Nat},c.heap.get? b=KE o->o.data=.dict l ep->H b=LX:=λ{b o l ep} e d=>by
   cases q:H b with
   |none=>rfl
   |some u=>
    have G:b=a:=Q b (by rw[q];simp);subst G;rw[A]at e;cases e;have d':uX vs.toArray _=Data.dict l ep:=d;cases d'
  have C:∀{b:MA}{m:Str->Option aE},c.heap.Ns b m->(yu c.heap H).Ns b m:=λ{b m} uW=>(by obtain⟨o,l,ep,e,d,r⟩:=uW;show{o,l,ep,T e (FN e d),d,r});have KB:K.In (yu c.heap H):=λb o e=>T (KX b o e) (by
    cases q:H b with
    |none=>rfl
    |some u=>
      have G:b=a:=Q b (by rw[q];simp);subst G;rw[hK (by rw[q];simp)]at e;cases e)
  have hM:Mod K mg (yu c.heap H):=⟨KB,C I,{D,C f,E},let ⟨mc,h1,h2⟩:=i;{mc,C h1,h2}⟩;have e0:Env0 P w K mg (yu c.heap H) pB [] c H:={rfl,hM,λb o e=>afa e,Nat.le_of_eq (Wi _ _),trivial,λb f=>MI (show b∈([]:List MA)from f) ∅,hok,.of_eq Y};show lU ((F _ KB (C I)).run pB [] c H {[.ref a],[]} [.ref a] [.ref a] _ _ hr e0 (g c (.ref a)) (.cons rfl .nil) (DN H O hS)) λr s' h=>?_;cases r with
  |error e=>show(IC H e s' h).elim
  |ok fl=>
   cases fl with
   |next=>show gZ h
   |brk=>show gZ h
   |cont=>show gZ h
   |ret u=>
    obtain⟨v,H',os,bare,un,p,r',q⟩:=h;have q':v=.bl LY:=q;subst q';obtain rfl:u=qI LY:=r';show{rfl,OldK.of_keep λb o e=>?_,os,bare};cases q:H b with
    |none=>show un.keep b o e q (by intro z;show MI (show b∈([]:List MA)from z) ∅) ∅
    |some u=>
     rcases O b with z | ⟨ob,xs,z⟩
     ·rw[q]at z;cases z
     ·have z2:=un.frzs b ob _ z;obtain⟨U,_⟩:=hok b _ z;obtain⟨e2,_⟩:=p b _ z2;rw[e]at U;cases U;show e2
 cases hk:K.lookup a with
 |some o=>
  have e:=KX a o hk;rw[A]at e;cases e;show N (λ_=>LX) (λ_=>.inl rfl) (.inr {_,vs.toArray,_,hk,rfl,rfl,rfl,by rw[aO,j];show J,by simpa using L}) (λb u z=>by have y:(LX:Option HO)=KE u:=z;cases y) (λb z=>MI rfl z) λz=>MI rfl z
 |none=>
  show N (λb=>if b=a then KE (.frz { cls:=.type "list",data:=.seq vs.toArray } (.lst (ns.map V.int)))else LX) (λb=>?_) (.inl (.inr ⟨{ cls:=.type "list",data:=.seq vs.toArray },ME rfl⟩)) (λb u z=>?_) (λb z=>?_) λ_=>hk
  ·by_cases f:b=a
   ·show .inr {_,_,ME f}
   ·show .inl (MF f)
  ·by_cases f:b=a
   ·have y:=(ME f).symm.trans z;cases y;subst f;show{A,by rw[aB];show J,vs,_,L,A}
   ·have y:=(MF f).symm.trans z;cases y
  ·by_cases f:b=a
   ·show f
   ·show MI (MF f) z
abbrev KOf {K:aF}{h:MB}(_:K.In h):aF:=K
def walk_of {l:nE}{n k:Nat}{m:List Str}{p:(Str->Option aE)->MB->Prop}{i:bC->MB->Prop}{d:DefRec}{K:Params->aF}{CX:bC->CXT}{sp:bC->Sp}
  (r:l.most=KE n) (y:n<=sizeLine) (z:d.params.defaults=[]) (A:Room k pB)
  (C:∀(w:bC)(h:MB),i w h->(K w.params).In h)
  (F:∀(w:bC)(mg:Str->Option aE) (fa:MA) (h:MB),(K w.params).In h->h.Ns bI mg->mg d.name=KE (.ref fa)->∃fd:gB,(∀(s:aK)(u:aE),qJ s fd {[u],[]} [(x,u)])/\∀base:MB,(K w.params).In base->base.Ns bI mg->FnOk l.prog w (K w.params) mg base (CX w) k fa fd [x] (sp w))
  (D:∀(w:bC)(H:Hp) (a:MA) (ns:List Int),ns.length<=n->Only H->SqL (K w.params) H a (ns.map V.int)->sp w [.ref a] H (λv _=>v=.bl LY) λ_ _ _=>False)
  (E:∀(w:bC)(H:Hp) (s:aK) (e:aE) (s':aK),CX w [] H s (λ_ _ _=>False) e s'->False) :
  PySem.W.WalkO q m p i l.row.toRowW d [] (λf vs=>uI f vs):=by
 show Att.attach_call r z λw s₀ c mg mb fa o pm cd yK a vs ns G Y ho hd yX I J L j N=>?_;have KX:=C w _ Y;obtain⟨fd,O,Q⟩:=F w mg fa _ KX G.T.g I;show aai KX G.T.g G.T.b G.T.builtins G.T.nolimit N J L (bL j y) A Q O (λH U hS=>D w H a ns j U hS) λH e s'=>E w H c e s'
end L2
namespace L2
open PySem PySem.Spec PyProof.Rows
def kn (s:MD)(j:Nat):MD:=match s with
 | .ClassDef _ _ _ body _ _ _ _ _ _ _=>body.getD j (.Pass {0,0,0,0})
 |_=>.Pass {0,0,0,0}
def jq (s:MD):Arguments:=match s with
 | .FunctionDef _ a _ _ _ _ _ _ _ _=>a
 |_=>{ posonlyargs:=[],args:=[],vararg:=LX,kwonlyargs:=[],kw_defaults:=[],kwarg:=LX,defaults:=[] }
def g6 (s:MD):List MD:=match s with
 | .FunctionDef _ _ b _ _ _ _ _ _ _=>b
 |_=>[]
def bq (s:MD):mH:=match s with
 | .FunctionDef _ _ _ _ _ _ a _ _ _=>a
 |_=>{ kind:=.function,names:=[],isGenerator:=LZ,isCoroutine:=LZ }
abbrev CX0:CXT:=λ_ _ _ _ _ _=>False
abbrev E0:XK:=λ_ _ _=>False
def yz:ve CX0 X E0:=λ_ _ _ _ _ _ _ h=>h.elim
structure Fun (K:aF)(x vC:Str)(st:MD)(f:MA)(fd:gB):Prop where
 ex:∃oc od kV yK pm an vA ct CO,
  fd=fU x vC (jq st) (g6 st) (bq st) .none kV yK pm an vA ct/\K.lookup f=KE {oc,od,.func fd,CO}/\mI K vA vC=LY
 kp:fM K (.ref f)=LY
section
variable {P:aV}{w:bC}{K:aF}{mg:Str->Option aE}{base:MB}
def Fun.ok {x b:Str}{st:MD}{f:MA}{fd:gB}{N ps:List Str}{k:Nat}{sp:Sp}(F:Fun K x b st f fd)(S:fq N ps (bq st))(len:∀vs H Q E,sp vs H Q E->vs.length=ps.length)
  (c:∀a A outer s H vs Q E,Room k (A.deeper (lW b (bq st) ‹s› f a))->sp vs H Q E->∃t,PSs (xb CX0 P w K mg base N b (bq st) f a A outer s H E).nox (g6 st) t/\t { nx:=λ_ H'=>Q .non H',rt:=Q } (start N vs) H):FnOk P w K mg base CX0 (k+1) f fd ps sp:=by
 obtain⟨i,j,kV,l,m,n,a,ct,o,rfl,lk,d⟩:=F.ex;show fn_of lk d S len λA outer s H vs Q E e g=>?_;obtain⟨t,h,q⟩:=c a A outer s H vs Q E e g;show#v[t,h.nox,q]
def Fun.binds {x e:Str}{st:MD}{f:MA}{fd:gB}{ps:List Str}(F:Fun K x e st f fd)
  (h:∀(kV a b:aE)(c:Option MA) (d ct:aE) (us:List aE),us.length=ps.length->oZ (fU x e (jq st) (g6 st) (bq st) .none kV a b c d ct) {us,[]}=pure (ps.zip us)):Binds K fd ps []:=by
 obtain⟨g,i,kV,a,b,c,d,ct,j,rfl,lk,l⟩:=F.ex;show .all (h kV a b c d ct)
def aka {x a:Str}{st:MD}{f:MA}{h:aE}{i d:Option MA}{j:Array (Option aE)}{kV e g b ct:aE}(l:K.lookup f=KE {h,i,.func (fU x a (jq st) (g6 st) (bq st) .none kV e g d b ct),j})
  (c:mI K b a=LY) (k:fM K (.ref f)=LY):Fun K x a st f (fU x a (jq st) (g6 st) (bq st) .none kV e g d b ct):={#v[h,i,kV,e,g,d,b,ct,j,rfl,l,c],k}
end
section
variable {X:Cx}
def pv (i:Nat)(a:X.N[i]?=KE x:=by rfl)(b:Vis X.env.scope x:=by first | show aS rfl | show fA (aS rfl) | show fA (fA rfl))(hd:(x == ("__debug__":Str))=LZ:=by decide)
  (c:(x == ("__classdict__":Str))=LZ:=by decide):PE X (.Name x d) (yw i):=kf a b hd c
end
def Same (H H':Hp):Prop:=∀b o,H b=KE o->H' b=KE o
end L2
set_option maxHeartbeats 4000000
namespace L2
open PySem PySem.Spec PyProof.Rows
section
variable {prog:aV}{w:bC}{A:cG}{R:Result->aK->Prop}{s:aK}
theorem Xe (J:Nat->aK->Prop)
  (u:∀n s,J n s->aM (aY prog w) A (gU it) (λr s1=>match r with
    |none=>R (.ok .next) s1
    |some v=>aM (aY prog w) A (nZ a it v) (λ_ e=>aM (aY prog w) A (lR a env v) (λ_ s3=>
        aM (aY prog w) A (forIn g LY λc r=>if r=LY then do let ok <-sL c env (eval c env);pure (oH ok)else pure (oH r)) (λok b=>
          if ok=LY then aM (aY prog w) A (eval i env) (λy j=>aM (aY prog w) A (call (.builtin "list.append") [l,y]) (λ_ o=>∃m,m < n/\J m o) (λ_ _=>False) j) (λ_ _=>False) b
          else ∃m,m < n/\J m b) (λ_ _=>False) s3) (λ_ _=>False) e) (λ_ _=>False) s1) (λ_ _=>False) s)
  (n:Nat) (h:J n s):lM (aY prog w) A (.compLoop (.ListComp i [{a,iter,g,0}] z d) 0 it l env) R s:=by
 show codeAny_loop rfl J (λn s C=>?_) n h;change aM _ A ((compTurn (.ListComp i [{a,iter,g,0}] z d) 0 it l env).onRaise (λx=>do noteFrame x env;theTreesLotGoes x)) _ _ s
 show wpAny_noted ?_;rw[compTurn_list];show aA (pQ (aA (iR (u n s C) (λr s1 p=>?_) λ_ _ f=>f.elim)));cases r with
 |none=>show wpAny_pure p
 |some v=>
  show aA (iR p (λ_ e D=>?_) λ_ _ f=>f.elim);show aA (iR D (λ_ s3 E=>aA (iR E (λok b q=>?_) λ_ _ f=>f.elim)) λ_ _ f=>f.elim);cases ok with
  |false=>show wpAny_pure #v[rfl,q]
  |true=>
   show aA (aA (iR q (λy j h5=>aA (iR h5 (λ_ o G=>wpAny_pure (wpAny_pure #v[rfl,G])) λ_ _ f=>f.elim)) λ_ _ f=>f.elim))
end
def cxC (X:Cx)(N:List Str)(sc:mH)(cl:List (Str×MA))(C:MA)(s:aK)(H:Hp)(fp:List MA):Cx where
 prog:=X.prog
 w:=X.w
 K:=X.K
 mg:=X.mg
 base:=X.base
 A:=X.A
 N:=N
 s₀:=s
 H₀:=H
 env:=compEnvC sc cl C X.env
 outer:=X.stack
 stack:=X.stack
 ex:=fp
 fn:=λ_=>LZ
 calm:=X.calm
 pn:=[]
 xe:=λ_ _=>False
def pick (a:St)(fr:List Nat):St:=fr.map λi=>(a[i]?).getD LX
structure pj (X:Cx)(ns ys:List Str)(fr:List Nat)(sc:mH)(cl:List (Str×MA)):Prop where
 clos:uJ sc X.env=pure cl
 kind:sc.kind=.function
 nocell:∀y∈sc.names,y.2≠.cell
 locs:∀y∈sc.names,y.2=.local->sc.names.lookup y.1=KE .local
 sub:∀p∈cl,X.env.cells.lookup p.1=KE p.2
 has:∀y,((lO sc X.env).names.lookup y=KE .cell\/(lO sc X.env).names.lookup y=KE .free)->∃c,cl.lookup y=KE c
 len:fr.length=ys.length
 outs:∀(j:Nat)(y:Str),ys[j]?=KE y->∃i:Nat,fr[j]?=KE i/\X.N[i]?=KE y/\(X.env.kindOf y=KE .cell\/X.env.kindOf y=KE .free)/\
  ((lO sc X.env).names.lookup y=KE .cell\/(lO sc X.env).names.lookup y=KE .free)
theorem g7 {a:Type}:∀{l:List (Str×a)}{x:Str}{c:a},l.lookup x=KE c->(x,c)∈l
 | [],_,_,h=>by cases h
 | (y,d)::r,x,c,h=>by
  rw[qO]at h;cases q:x == y with
  |true=>
   rw[q]at h;have b:x=y:=eq_of_beq q;have e:d=c:=bX h;rw[b,e];show aN
  |false=>
   rw[q]at h;show aI _ (g7 h)
def PTs (X:Cx)(d:List MC)(t:TT):Prop:=
 ∀b s a H Q,Inv X b a H s->t a H Q->
  aM (aY X.prog X.w) X.A (forIn d LY λc r=>if r=LY then do let ok <-sL c X.env (eval c X.env);pure (oH ok)else pure (oH r)) (TP X b a Q) X.xe s
def tYes:TT:=λ_ H Q=>Q LY H
def afv:PTs X [] tYes:=λ_ _ _ H _ I h=>wpAny_tests_nil #v[H,I,h]
def afw (h:PT X c t):PTs X [c] t:=λa s b H Q I q=>wpAny_tests_one (h a s b H Q I q)
def Kx (k:Nat)(fr:List Nat)(g:TG)(tt:TT)(te:TE)(c:St)(D:MA)(ys:List V)(N:List V->Hp->Prop)(x:V)(H:Hp):Prop:=
 g x (aT k LX++pick c fr) H λa h=>(∃d,a=d++pick c fr/\d.length=k)/\tt a h λb e=>if b=LY then te a e λy f=>f D=KE (.lst ys)/\N (ys++[y]) (upd f D (.lst (ys++[y])))else N ys e
def Comps (k:Nat)(fr:List Nat)(g:TG)(tt:TT)(te:TE)(d:St)(Q:VK)(J:It)(H:Hp)(D:MA):Prop:=∃W:Nat->Nat->List V->Hp->Prop,(∃m,W 0 m [] (upd H D (.lst [])))/\
 ∀i m ys a,W i m ys a->a D=KE (.lst ys)/\((J.stop i a/\Q (.ref D) a)\/(J.go i a/\ys.length < sizeLine/\∃N:List V->Hp->Prop,(∀b H',N b H'->∃c,c < m/\W (i+1) c b H')/\∀x H3,J.yld i a x H3->Kx k fr g tt te d D ys N x H3))
def y3 (k:Nat)(fr:List Nat)(c:TI)(g:TG)(tt:TT)(te:TE):TE:=λa H Q=>c a H λJ b=>∀D,b D=LX->Comps k fr g tt te a Q J b D
section
variable {X:Cx}{uS:List (MA×Obj)}{σ:St}{H H':Hp}{s s':aK}{ns ys:List Str}{fr:List Nat}{sc:mH}{cl:List (Str×MA)}{C:MA}{fp:List MA}
def akb (I:Inv X uS σ H s)(S:pj X ns ys fr sc cl)(hf:∀b∈fp,lh X uS H b)(hl:∀b∈fp,b < ‹s›)(hC:‹s›<=C):(cxC X (ns++ys) sc cl C s H fp).Ok where
 mod:=I.ok.mod
 kind:=S.kind
 glob:=I.ok.glob
 blt:=I.ok.blt
 above:=hC
 inj:=λx y c e1 e2=>I.ok.inj x y c (S.sub _ (g7 e1)) (S.sub _ (g7 e2))
 has:=λx h=>S.has x h
 cab:=λx c h=>nomatch h
 hd:=λh=>I.ok.hd h
 frames:=I.ok.frames
 stk:=.inl rfl
 exf:=λb hb=>{bK (bO (hl b hb) hC),λx c e=>(hf b hb).2.2.2.2.1 x c (S.sub _ (g7 e))}
 bs:=I.bs
 bsz:=bL I.ok.bsz I.sz
 noex:=λb o e hb=>by
  rcases(hf b hb).2.2.2.1 with z | z
  ·show I.ok.noex b o e z
  ·show MI (bO (aX e) (bL I.ok.bsz z)) (fS _)
 exfs:=λb hb hs=>by
  rcases aU.mp (I.stkSub b hs)with z | z
  ·show(hf b hb).2.1 z
  ·show(hf b hb).2.2.1 z
 funs:=I.stack
 frf:=I.stkFree
def Ip {h':MB}(I:Inv X uS σ H s)(S:pj X ns ys fr sc cl)(L:∀b∈fp,lh X uS H b)(N:∀b∈fp,b < ‹s›)(h:‹s› < C)
  (k:∀b o,s.heap.get? b=KE o->h'.get? b=KE o) (hD:h'.get? ‹s›=KE { cls:=.type "list",data:=.seq ([]:List aE).toArray n }) (O:h'.Ns C m) :
  Inv (cxC X (ns++ys) sc cl C s H fp) [] (aT ns.length LX++pick σ fr) (upd H ‹s› (.lst [])) { s with heap:=h',toks:=t' }:=by
 have fD:H ‹s›=LX:=I.hok.fresh (aJ _);have Q:H C=LX:=I.hok.fresh (gR h);have j:∀x c,cl.lookup x=KE c->c < ‹s›:=λx c e=>by
  obtain⟨v,q⟩:=I.cell x c (S.sub _ (g7 e));show q.lt
 show{akb I S L N (gR h),rfl,I.bare,Un.laid k (aJ _) fD,{m,O,λi y v d a e3=>?_},λx c e=>?_,?_,λx c e=>?_,λp T=>(nomatch T),?_,?_}
 ·have d:(ns++ys)[i]?=KE y:=d;by_cases hi:i < ns.length
  ·rw[bT (by simpa using hi),dJ,ME hi]at a;cases a
  ·have A:ns.length<=i:=nM hi;rw[cH A]at d;rw[cH (by simpa using A),cA]at a;obtain⟨f,U,Y,D,E⟩:=S.outs _ y d;unfold pick at a;rw[aL,U]at a;have g:(σ[f]?).getD LX=KE v:=bX a;have e4:σ[f]?=KE (KE v):=by
    cases q:σ[f]? with
    |none=>rw[q]at g;cases g
    |some o=>
     rw[q]at g;have e5:o=KE v:=g;rw[e5]
   obtain⟨m0,hn0,l⟩:=I.loc;obtain⟨u,r,lk⟩:=l f y v Y e4 (D.elim (λz=>.inr (.inl z)) λz=>.inr (.inr z));show{u,r,.inr {E,?_}};rcases lk with⟨z,_⟩ | ⟨_,c,ec,hc⟩
   ·rcases D with z' | z'<;>(rw[z]at z';cases z')
   ·obtain⟨c',G⟩:=S.has y E;have J:=S.sub _ (g7 G);rw[ec]at J;have w:c=c':=bX J;subst w;show{c,G,hc.keeps k}
 ·obtain⟨v,q⟩:=I.cell x c (S.sub _ (g7 e));show{v,q.keeps k}
 ·change upd H ‹s› (.lst []) C=LX;rw[ay (fE h)];show Q
 ·rw[ay (bK (j x c e))];show I.freeC x c (S.sub _ (g7 e))
 ·show I.hok.laid k (aJ _) {cT _,[],n,.nil,hD}
 ·change(aT ns.length LX++pick σ fr).length=(ns++ys).length;rw[aH,aH,cA];unfold pick;rw[aB,S.len]
def Ln (I:Inv X uS σ H s)(h:∀b∈fp,lh X uS H b)(i:‹s›<=C)(a:Inv (cxC X (ns++ys) sc cl C s H fp) [] j H' s')(hs:eB C s'.heap h') :
  Inv X uS σ H' { s' with heap:=h' }:=by
 have U:Un (frs X.stack) fp H H' s.heap s'.heap:=a.base;have ne:∀b o,s.heap.get? b=KE o->b≠C:=λb o e=>bK (bO (aX e) i);show I.call' (s':={ s' with heap:=h' }) (ch:=fp) a.os {λb o e n d f=>?_,λb o e n d f=>?_,U.free,λb o e f=>?_,U.tups,U.frzs,U.tbls} (λb u e=>?_) a.bare λb d=>?_
 ·show(hs.2 b (ne b o e)).trans (U.keep b o e n d f)
 ·obtain⟨l,q⟩:=U.slot b o e n d f;show{l,(hs.2 b (ne b o e)).trans q}
 ·obtain⟨m,q⟩:=U.there b o e f;show{m,(hs.2 b (ne b o e)).trans q}
 ·have g:H' C=LX:=a.free;show(a.hok b u e).stay (λc v p q=>(hs.2 c ?_).trans q) (λ_ q=>q) λ_ _ q=>q;intro z;rcases p with z' | z'
  ·rw[<-z',z,g]at e;cases e
  ·rw[z,g]at z';cases z'
 ·obtain⟨A,r,D,w,x,y⟩:=h b d;show#v[w,r,x,y]
end
def R7 (S:pj X ns ys fr D cl)(hc:X.calm=LY)
  (hi:PI X tg iter wi) (hg:∀C s H f,PG (cxC X (ns++ys) D cl C s H f) tg g) (ht:∀C s H f,PTs (cxC X (ns++ys) D cl C s H f) AB tt) (he:∀C s H f,PE (cxC X (ns++ys) D cl C s H f) zS te)
  (hs:∀x,iK iter X.env x=pure x:=by intro _;rfl):PE X (.ListComp zS [{tg,iter,AB,0}] D pos) (y3 ns.length fr wi g tt te):=by
 intro uS s σ H Q I h;rw[eval_ListComp];show wpAny_comprehension_free (use:=LX) rfl hs S.clos S.kind S.locs (thn (hi uS s σ H _ I h) λv s1 h1=>thn h1 λHF a h2=>?_);obtain⟨it,f,tn,J,L,e,I2,T,AK,f2,rest⟩:=h2;subst e;obtain⟨W,⟨m0,w0⟩,zF⟩:=rest ‹a› (I2.hok.fresh (aJ _));show cY (wpAny_newFunctionEnv S.nocell (by intro y hy;simp at hy) (λh3 DO CS=>?_) S.kind);dsimp only at DO CS ⊢;generalize hG:a.heap.push { cls:=.type "list",dict:=LX,data:=.seq ([]:List aE).toArray }=G at DO CS ⊢;have zG:G.objs.size=‹a›+1:=(by rw[<-hG,eU]);have AC:‹a› < G.objs.size:=(by rw[zG];show fJ _);have old:∀b o,a.heap.get? b=KE o->h3.get? b=KE o:=λb o e=>
  CS.extBut b o (bK (gJ (aX e) AC)) (aG _ (hG ▸ aG _ e))
 have hD:=CS.extBut _ _ (bK AC) (aG _ (hG ▸ aW _ rfl));have below:∀b∈f,b < ‹a›:=λb l=>by
  obtain⟨o,eo,_⟩:=T.obj _ _ AK b l;show aX eo
 have I3:=Ip (ns:=ns) (ys:=ys) (fr:=fr) (t':=a.toks+([]:List (Str×aE)).length) I2 S f2 below AC old hD DO;have zH:∀{H':Hp},(∀b∈f,H' b=LX)->∀b∈f,lh (cxC X (ns++ys) D cl G.objs.size a L f) [] H' b:=λhn b l=>
  {hn b l,bK (gJ (below b l) AC),I3.ok.exfs b l,.inl l,λx c e=>(I3.ok.exf b l).2 x c e,λp hp=>nomatch hp}
 have DM:tn 0 h3:=T.keep _ _ _ AK λb _ o e=>old b o e;have FB:∀b∈f,upd L ‹a› (.lst []) b=LX:=λb l=>by
  rw[ay (bK (below b l))];show(f2 b l).1
 have BR:∀s3:aK,s3={ a with heap:=h3,toks:=a.toks+([]:List (Str×aE)).length }->
   lM (aY X.prog X.w) X.A (.compLoop (.ListComp zS [{tg,iter,AB,0}] D pos) 0 (.ref it) (.ref ‹a›) (compEnvC D cl G.objs.size X.env))
    (compPost (aY X.prog X.w) X.A X.xe LX (EP X uS σ Q) (.ref ‹a›) G.objs.size) s3:=by
  intro s3 uY;subst uY;show Xe (λn s'=>∃i O H',Inv (cxC X (ns++ys) D cl G.objs.size a L f) [] (aT ns.length LX++pick σ fr) H' s'/\tn i s'.heap/\(∀b∈f,H' b=LX)/\W i n O H') ?_ m0 {0,[],_,I3,DM,FB,w0};intro n s5 uY;obtain⟨i,O,H5,I5,CN,EB,w5⟩:=uY;obtain⟨d5,ID⟩:=zF i n O H5 w5;rcases ID with⟨stop,q⟩ | ⟨go,hz,N,hN,step⟩
  ·show thn (T.done (cxC X (ns++ys) D cl G.objs.size a L f) rfl rfl rfl hc i [] s5 _ H5 _ I5 (zH EB) CN stop) λr s6 z=>?_;obtain⟨hr,I6⟩:=z;subst hr;obtain⟨m6,IE,_⟩:=I6.loc;show{m6,IE,λh7 hs7=>{.ref ‹a›,H5,Ln I2 f2 (gR AC) I6 hs7,rfl,q}}
  ·show thn (T.item (cxC X (ns++ys) D cl G.objs.size a L f) rfl rfl rfl hc i [] s5 _ H5 _ I5 (zH EB) CN go) λr s6 z=>?_;obtain⟨u,hr,h6⟩:=z;subst hr;show thn h6 λ_ s7 z=>?_;obtain⟨x,H7,I7,r7,y7,EF,IF⟩:=z;have IG:=I7.pinned (zH IF) (T.obj _ _ EF);show thn (hg _ _ _ _ _ s7 _ H7 x u _ IG r7 (step x H7 y7)) λ_ s8 z=>?_;obtain⟨E,H8,I8,⟨ts,eσ,EG⟩,q8⟩:=z;have again:∀{U:Hp}{Y:aK}{EH:List V}{m':Nat},m' < n->Inv (cxC X (ns++ys) D cl G.objs.size a L f) ([]++x4 f s7.heap) E U Y->W (i+1) m' EH U->
     ∃m,m < n/\∃i O H',Inv (cxC X (ns++ys) D cl G.objs.size a L f) [] (aT ns.length LX++pick σ fr) H' Y/\tn i Y.heap/\(∀b∈f,H' b=LX)/\W i m O H':=λ{U Y EH m'} hm I9 w9=>by
    show{m',hm,i+1,EH,U,I9.unpinned.weak ?_ ?_,T.keep _ _ _ EF λb l o e=>(I9.pin (b,o) (bQ _ (bQ _ (mq l e)))).1,λb l=>?_,w9}
    ·rw[eσ,aH,aH,cA,EG]
    ·intro j v e;rw[eσ];by_cases hj:j < ns.length
     ·rw[bT (by simpa using hj),dJ,ME hj]at e;cases e
     ·have BM:ns.length<=j:=nM hj;rw[cH (by simpa using BM),cA]at e;rw[cH (by rw[EG];show BM),EG];show e
    ·obtain⟨o,e,d⟩:=T.obj _ _ EF b l;show(I9.pin (b,o) (bQ _ (bQ _ (mq l e)))).2.1
   show thn (ht _ _ _ _ _ s8 E H8 _ I8 q8) λok Y z=>?_;obtain⟨U,I9,q9⟩:=z;cases ok with
   |false=>
    rw[MF aQ]at q9 ⊢;obtain⟨m',hm,w9⟩:=hN _ _ q9;show again hm I9 w9
   |true=>
    rw[ME rfl]at q9 ⊢;show thn (he _ _ _ _ _ Y E U _ I9 q9) λyv HL z=>?_;obtain⟨y,IH,II,FS,IJ,IK⟩:=z;show thn (Ax _ HL E IH (.ref ‹a›) [y] (.ref ‹a›) [yv] (λ_ FT=>N (O++[y]) FT) II rfl (.cons FS .nil) {_,O,y,rfl,rfl,IJ,hz,IK}) λ_ s11 z=>?_;obtain⟨_,FT,IL,_,IM⟩:=z;obtain⟨m',hm,IP⟩:=hN _ _ IM;show again hm IL IP
 show codeAny_compStart_list (BR _ rfl) (T.self X.A 0 _ _ _ DM (BR _ rfl))
section
variable {X:Cx}{uS:List (MA×Obj)}{σ:St}{H:Hp}{s:aK}{h':MB}
def Inv.track (I:Inv X uS σ H s)(f:lh X uS H a)(h:X.s₀.heap.objs.size<=a)(new:ObjOk X.prog X.w (upd H a o) s.heap a o):Inv X uS σ (upd H a o) s:=by
 obtain⟨i,j,D,E,l,m⟩:=f;have old:∀b u,H b=KE u->upd H a o b=KE u:=λb u e=>by
  rw[ay (cf e i)];show e
 show{I.ok,I.os,I.bare,{I.base.keep,I.base.slot,λb d e n r=>?_,I.base.there,λb xs e=>old _ _ (I.base.tups b xs e),λb d u e=>old _ _ (I.base.frzs b d u e),λb ps e=>?_},I.loc,I.cell,?_,λx c e=>?_,λp g=>?_,λb u e=>?_,I.len}
 ·rw[ay (bK (bO (aX e) h))];show I.base.free b d e n r
 ·obtain⟨more,q⟩:=I.base.tbls b ps e;show{more,old _ _ q}
 ·rw[ay (Ne.symm j)];show I.free
 ·rw[ay (l x c e)];show I.freeC x c e
 ·obtain⟨y,A,C⟩:=I.pin p g;show{y,?_,C};rw[ay (m p g)];show A
 ·by_cases q:b=a
  ·subst q;rw[bo]at e;cases e;show new
  ·rw[ay q]at e;show(I.hok b u e).stay (λ_ _ _ z=>z) (λc z=>old _ _ z) λc xs z=>old _ _ z
def Inv.turnedAll {t':Nat}{ch:List MA}(I:Inv X uS σ H s)(d:∀b∈ch,lh X uS H b)(k:∀b o,b ∉ ch->s.heap.get? b=KE o->h'.get? b=KE o):Inv X uS σ H { s with heap:=h',toks:=t' }:=by
 have nc:∀b u,H b=KE u->b ∉ ch:=λb u e z=>by
  rw[(d b z).1]at e;cases e
 show I.step (g':=s.gens) (d':=s.drawn) (ch:=ch) (λb f=>?_) (λb o _ _ a e _=>k b o a e) (λb o _ _ a e _=>{o.slots,k b o a e}) (λ_ _ _ _ n=>n) (λb o a e=>{o,k b o a e})
  (λ_ _ e=>e) (λ_ _ _ e=>e) (λb ps e=>{#[],by rw[e];simp}) (λm g=>?_) (λb u e=>?_) I.bare
 ·obtain⟨x,h,y,i,j,l⟩:=d b f;show#v[i,h,j,l]
 ·obtain⟨o,p,ep,w,r⟩:=g;show{o,p,ep,k _ o (λz=>(d _ z).2.1 rfl) w,r}
 ·show(I.hok b u e).stay (λc v a q=>k c v ?_ q) (λ_ q=>q) λ_ _ q=>q;rcases a with z | z
  ·rw[z];show nc b u e
  ·show nc c _ z
end
section
variable {X:Cx}
def Xf (K:aF):R2:=λx y H Q=>∃a b ys,x=.ref a/\y=.ref b/\SqT K H a []/\SqT K H b ys/\Q (.ref b) H
def aaj:OpR X (eC .Add) (Xf X.K):=by
 intro A s C H x y v u Q I i j h;obtain⟨a,b,ys,rfl,rfl,l,m,q⟩:=h;cases i;cases j;obtain⟨its,n,o,_⟩:=I.tuple l;obtain⟨p,D,r,_⟩:=I.tuple m;cases n;obtain⟨⟨E,d1,G,l1⟩,g1,c,w,d⟩:=id o;obtain⟨⟨J,d2,L,l2⟩,e,f,z,g⟩:=id r;simp only at c d f g;subst c d f g;show sQ {_,g1,rfl} {_,e,rfl} qM rZ nB mR (lZ _ _)
  (tuple_addW0 a b #[] p.toArray w z d1 d2 l1 l2 rfl) {g1,e,{.ref b,H,I,rfl,q}}
def aak:OpR X (eC .Add) (λx y H Q=>aee X.K x y H Q\/Xf X.K x y H Q):=afr.or aaj
def rSlS:V->Option Int->Option Int->Hp->VK->Prop:=λx lo hi H Q=>∃z,x=.str z/\z.length<=sizeLine/\Q (.str (gP z lo hi)) H
def akc:SlR X rSlS:=by
 intro f s g H x v n p lo hi r Q I m hs pl d h;obtain⟨z,rfl,hz,q⟩:=h;obtain⟨t,rfl⟩:=m;obtain⟨o,a,b,hd⟩:=hs;show{"str",_,F.slot_str_getitem.lookup,uF _ _ _,?_};have fin:∀t' k,EP X f g Q (.str (gP z lo hi) t') { s with toks:=k }:=λt' k=>{.str (gP z lo hi),H,I.tok k,#v[t',rfl],q};cases pl with
 |none=>
  cases d with
  |none=>show jY (l:=LX) (u:=LX) (st:=LX) #v[o,a,b,hd] rfl (oI {bL (qP z _ _) hz,fin})
  |int j c=>show jY (l:=LX) (u:=KE (j,c)) (st:=LX) #v[o,a,b,hd] rfl (oI {bL (qP z _ _) hz,fin})
 |int i e=>
  cases d with
  |none=>show jY (l:=KE (i,e)) (u:=LX) (st:=LX) #v[o,a,b,hd] rfl (oI {bL (qP z _ _) hz,fin})
  |int j c=>show jY (l:=KE (i,e)) (u:=KE (j,c)) (st:=LX) #v[o,a,b,hd] rfl (oI {bL (qP z _ _) hz,fin})
end
end L2
namespace L2
open PySem PySem.Spec PyProof.Rows
inductive Da where
 |flat (v:V)
 |tup (xs:List Da)
 |lst (xs:List Da)
mutual
inductive Uh (K:aF)(H:Hp):V->Da->Prop where
 |flat {v:V}:pd v=LY->Uh K H v (.flat v)
 |tup {a:MA}{xs:List V}{ds:List Da}:SqT K H a xs->Holds K H xs ds->Uh K H (.ref a) (.tup ds)
 |lst {a:MA}{xs:List V}{ds:List Da}:SqL K H a xs->Holds K H xs ds->Uh K H (.ref a) (.lst ds)
inductive Holds (K:aF)(H:Hp):List V->List Da->Prop where
 |nil:Holds K H [] []
 |cons {x:V}{xs:List V}{d:Da}{ds:List Da}:Uh K H x d->Holds K H xs ds->Holds K H (x::xs) (d::ds)
end
mutual
def Da.dep:Da->Nat
 | .flat _=>0
 | .tup xs=>depL xs+1
 | .lst xs=>depL xs+1
def depL:List Da->Nat
 | []=>0
 |d::r=>max d.dep (depL r)
end
section
variable {K:aF}{H H':Hp}
def SqT.same (h:SqT K H a xs)(e:Same H H'):SqT K H' a xs:=by
 rcases h with(h | ⟨o,h⟩) | h
 ·show .inl (.inl (e _ _ h))
 ·show .inl (.inr {o,e _ _ h})
 ·show .inr h
end
section
variable {X:Cx}
inductive TyQ (K:aF)(H:Hp):V->aE->Prop where
 |of {x:V}{t:aE}:qp K H x t->TyQ K H x t
 |sqt {a:MA}{xs:List V}:SqT K H a xs->TyQ K H (.ref a) (.type "tuple")
 |sql {a:MA}{xs:List V}:SqL K H a xs->TyQ K H (.ref a) (.type "list")
def rIsq (K:aF):List V->Hp->VK->Prop:=λxs H Q=>∃x t n b,xs=[x,.ty n]/\TyQ K H x t/\eI K t (.type n)=KE b/\Q (.bl b) H
def aal:kz X (.builtin "isinstance") (rIsq X.K):=by
 intro j s l H xs us Q I r h;obtain⟨x,t,n,b,rfl,ty,e,q⟩:=h;obtain⟨u,c,rfl,d,rc⟩:=Ku r;cases(show c=mG n from rc);have fin:∀f,EP X j l Q (.bool b) { s with toks:=f }:=λf=>{.bl b,H,I.tok f,rfl,q};cases ty with
 |of ty=>show Wv I d ty e fin
 |@sqt a xs h=>
  cases(show u=bZ a from d);obtain⟨its,_,⟨o,g,i,_⟩,_⟩:=I.tuple h;show eV PySem.W.kitx_tuple I.kIn #v[o,g,i] e (λz=>nomatch z) fin
 |@sql a xs h=>
  cases(show u=bZ a from d);obtain⟨its,_,pl,_⟩:=I.list h;obtain⟨o,g,i,_⟩:=pl.isList;show eV pY I.kIn #v[o,g,i] e (λz=>nomatch z) fin
end
mutual
def Da.fix:Da->Bool
 | .flat _=>LY
 | .tup xs=>fixL xs
 | .lst _=>LZ
def fixL:List Da->Bool
 | []=>LY
 |d::r=>d.fix && fixL r
end
def Tups (H H':Hp):Prop:=(∀b xs,H b=KE (.tup xs)->H' b=KE (.tup xs))/\∀b o u,H b=KE (.frz o u)->H' b=KE (.frz o u)
def Tups.of (e:Same H H'):Tups H H':={λ_ _ h=>e _ _ h,λ_ _ _ h=>e _ _ h}
section
variable {K:aF}{H H':Hp}
def SqT.tups (h:SqT K H a xs)(e:Tups H H'):SqT K H' a xs:=by
 rcases h with(h | ⟨o,h⟩) | h
 ·show .inl (.inl (e.1 _ _ h))
 ·show .inl (.inr {o,e.2 _ _ _ h})
 ·show .inr h
end
open Sem (wp)
section
variable {prog:aV}{w:bC}{A:cG}{E:aE->aK->Prop}{s:aK}
def drawT (hi:s.heap.IsTupleIter it t k)(b:s.heap.IsTuple t its)(c:its[k]?=KE y)
  (d:∀h',h'.IsTupleIter it t (k+1)->eB it s.heap h'->Q y { s with heap:=h' }):aM (aY prog w) A (dQ (.ref it)) Q E s:=by
 obtain⟨h,g1,e,a⟩:=id hi;obtain⟨i,f,_,j,g⟩:=b;unfold dQ;show aA (cX (name:=cZ "__next__") hi.typeIs F.slot_tuple_iterator_next (cP F.slot_tuple_iterator_next hi.typeIs F.entry_tuple_iterator_next ?_ (F.args_tuple_iterator_next_1 _)));change aM _ _ (oJ (.ref it) 0 >>= _) _ _ s;show aA (dF g1 a (x:=.ref t) rfl ?_);change aM _ _ (if (bZ t == eF)=LY then _ else _) _ _ s
 rw[MF (show ¬((bZ t == eF)=LY)from aQ)];change aM _ _ (oJ (.ref it) 1 >>= _) _ _ s;show aA (dF g1 a (x:=.int k 0) rfl ?_);change aM _ _ (seqItems? (.ref t) >>= _) _ _ s;show aA (fO f g ?_);simp only[bV,c];show aA (jP g1 a ∅ (wpAny_pure {y,rfl,wpAny_pure (d _ ?_ (eM ..))}));show{_,gG _ g1 (kU (fG a _)),(mY ..).trans e,by rw[fG a];simp[iU]}
def Xg (c:A.handled=LX)(hi:s.heap.IsTupleIter it t k)(d:s.heap.IsTuple t its)(f:its[k]?=LX)
  (g:∀h' e,kO it s.heap h'->(∃o,h'.get? e=KE o/\o.cls=.type "StopIteration")->E (.ref e) { s with heap:=h' }):aM (aY prog w) A (dQ (.ref it)) Q E s:=by
 obtain⟨j,g1,l,b⟩:=id hi;obtain⟨n,h,_,p,i⟩:=d;unfold dQ;show aA (cX (name:=cZ "__next__") hi.typeIs F.slot_tuple_iterator_next (cP F.slot_tuple_iterator_next hi.typeIs F.entry_tuple_iterator_next ?_ (F.args_tuple_iterator_next_1 _)));change aM _ _ (oJ (.ref it) 0 >>= _) _ _ s;show aA (dF g1 b (x:=.ref t) rfl ?_);change aM _ _ (if (bZ t == eF)=LY then _ else _) _ _ s
 rw[MF (show ¬((bZ t == eF)=LY)from aQ)];change aM _ _ (oJ (.ref it) 1 >>= _) _ _ s;show aA (dF g1 b (x:=.int k 0) rfl ?_);change aM _ _ (seqItems? (.ref t) >>= _) _ _ s;show aA (fO h i ?_);simp only[bV,f];show aA (mL (aA (jP g1 b ∅ ?_)));change aM _ _ (uK (.type "StopIteration") [] >>= _) _ _ _;show aA ?_;simp only[uK,uA];show aA (cY ?_ (by size_fits));show aA (m:=kW _ _) (rJ (a:=eF) (by first | rfl | (simp only[kW];rfl)) ?_)
 show cY ?_ (by size_fits);simp only[raiseNew];show aA (sE ?_)
 first | rw[show A.in1.handled=LX from c] | rw[c]
 show aA (wpAny_pure (tV ?_));show g _ _ (((eM ..).extBut.push _).push _) {_,aW _ rfl,rfl}
end
open Sem (wp)
section
variable {prog:aV}{w:bC}{A:cG}{E:aE->aK->Prop}
theorem aeg (ne:l≠it):∀n k s Q,s.heap.IsListIter it l k->s.heap.IsList l its->k+n<=its.size->
  (∀h',h'.IsListIter it l (k+n)->eB it s.heap h'->Q ((its.toList.drop k).take n) { s with heap:=h' })->aM (aY prog w) A (draw (.ref it) n) Q E s
 |0,k,s,Q,hi,_,_,q=>by
  change aM _ _ (pure []) Q E s;show wpAny_pure (by simpa using q s.heap hi (qA ..))
 |n+1,k,s,Q,hi,a,le,q=>by
  have lt:k < its.size:=();change aM _ _ (gU (.ref it) >>= _) Q E s;show aA (wpAny_pyNext_list_item hi a (x:=its[k]) (by simp[lt]) λg b s1=>?_);show aA (dB (aeg ne n (k+1) _ _ b (a.extBut s1.extBut ne) () λc d f=>wpAny_pure ?_));have e:its.toList.drop k=its[k]::its.toList.drop (k+1):=(by simp[dZ,lt]);have z:=q c (by rw[show k+(n+1)=k+1+n by lia];show d) (s1.trans f);rw[e,List.take_succ_cons]at z;show z
def afx (d:A.handled=LX)(a:s.heap.IsList l its)
  (q:∀h',kO ‹s› s.heap h'->Q its.toList { s with heap:=h' }):aM (aY prog w) A (unpackItems (.ref l) its.size LX) Q E s:=by
 have ne:l≠‹s›:=(by obtain⟨o,f,_⟩:=a;show bK (aX f));unfold unpackItems;show aA ?_
 ·unfold notIterableAtAll;show aA (jA a.typeIs slot_list_iter.lookup ?_);show wpAny_pure ?_;simp only[bP,if_false];show aA (dB (eA a ?_));show aA (dB (aeg ne its.size 0 _ _ {_,aW _ rfl,rfl,rfl} (jR a _) () λg h s1=>?_));have e:List.take its.size (List.drop 0 its.toList)=its.toList:=by
   rw[mM];show gY ∅
  rw[e];rw[MF ∅];have i:g.IsList l its:=(jR a _).extBut s1.extBut ne;show aA (dB (wpAny_pyNext_list_end d h i ∅ λj m=>?_));simp only[Option.isSome_none,bP,if_false];show wpAny_pure (q j λb o c z=>m b o c (s1.extBut b o c (aG _ z)))
end
section
variable {X:Cx}{pos:Pos}
def gLst (K:aF)(n:Nat)(t:TGs):TG:=λv b H Q=>∃a xs,v=.ref a/\SqL K H a xs/\xs.length=n/\t xs b H Q
def akd (i:X.calm=LY)(h:PGs X c t)
  (j:(jK c X.env).length=n:=by rfl) (l:(jK c X.env).findIdx? (·.1)=LX:=by rfl):PG X (.Tuple c k pos) (gLst X.K n t):=by
 intro d s f H v u Q I r hw;obtain⟨a,xs,rfl,m,p,hw⟩:=hw;cases r;obtain⟨its,g,q,hz⟩:=I.list m;have hsz:its.toArray.size=n:=(by rw[aO,<-g.length,p]);rw[arm_assign_Tuple];show aA (pQ ?_);unfold unpack;rw[j,l,<-hsz];show aA (dB (afx (I.ok.hd i) q.isList λh' w=>?_));have x:Inv X d f H { s with heap:=h' }:=I.kept (t':=s.toks) λb o e=>w b o (bK (aX e)) e;show h d _ f H xs _ Q x (by simpa using g) hw
theorem Iq {val:Nat->Int}{n:Nat}(h:∀j,j < n->-1000000<=val j/\val j<=1000000):∀j,j<=n->-(1000000 * (j:Int))<=qQ val j/\qQ val j<=1000000 * (j:Int)
 |0,_=>{by change _<=(0:Int);lia,by change(0:Int)<=_;lia}
 |j+1,a=>by
  have z:=Iq h j ();have y:=h j ();change _<=qQ val j+val j/\qQ val j+val j<=_;lia
def rAllB (K:aF):List V->Hp->VK->Prop:=λxs H Q=>∃(a:MA)(bs:List Bool),xs=[.ref a]/\SqL K H a (bs.map V.bl)/\Q (.bl (bs.all id)) H
def Xh (C:X.calm=LY):kz X (.builtin "all") (rAllB X.K):=by
 intro j s D H xs us Q I r h;obtain⟨a,bs,rfl,E,q⟩:=h;obtain⟨u,rfl,f⟩:=mr r;cases f;obtain⟨its,l,pl,hz⟩:=I.list E;have g:=pl.isList;have lt:a < ‹s›:=(by obtain⟨o,G,_⟩:=g;show aX G);have J:Inv X j D H { s with heap:=s.heap.push { cls:=.type "list_iterator",data:=.fields #[.ref a,.int 0 0] } }:=I.kept (t':=s.toks) λb o e=>aG _ e;have c:lh X j H ‹s›:=I.fpOk (aJ _) (I.hok.fresh (aJ _));have len:its.length=bs.length:=(by rw[<-l.length,aB]);have tr:TruthOf X.prog X.w X.A.in1 (λi v=>its.toArray[i]?=KE v) (λi=>bs.getD i LY):=λi v s' L U e N=>by
  have m:its[i]?=KE v:=(by simpa using e);have hi:i < bs.length:=(by rw[<-len];show(bJ.mp m).1);obtain⟨u,n,f⟩:=l.get (i:=i) (x:=.bl bs[i]) (by rw[aL,aC hi];rfl);rw[m]at n;cases n;cases(show v=qI bs[i]from f);show kR ?_;have z:bs.getD i LY=bs[i]:=(by rw[cI,aC hi];rfl);have KF:L (bs.getD i LY) s':=N;rw[z]at KF;show KF
 show call_all_walk (eA g {‹s›,[‹s›,a],[‹s›],its.toArray.size,_,_,λi=>bs.getD i LY,rfl,uL (show X.A.in1.handled=LX from I.ok.hd C) ‹s› a (bK lt) its.toArray,{{_,aW _ rfl,rfl,rfl},jR g _},tr,λh' O kk=>?_});have T:(bG its.toArray.size).all (λi=>bs.getD i LY)=bs.all id:=by
  rw[aO,len,kB,List.all_eq_true,List.all_eq_true];constructor
  ·intro z b d;obtain⟨i,hi,rfl⟩:=List.mem_iff_getElem.mp d;have y:=z i (dN.mpr hi);rw[cI,aC hi]at y;show y
  ·intro z i hi;have p:=dN.mp hi;rw[cI,aC p];show z _ (jS p)
 rw[T];show{.bl _,H,J.turnedAll (t':=O) (ch:=[‹s›]) (λb d=>?_) (λb o d e=>kk b o d e),rfl,q};cases aZ.mp d;show#v[c.1,c.2.1,c.2.2.1,c.2.2.2.1,c.2.2.2.2.1,c.2.2.2.2.2]
end
end L2
namespace HT
open PySem PyProof.Rows
section
variable {prog:aV}{w:bC}{A:cG}{E:aE->aK->Prop}{s:aK}
def Dl {n:Nat}{Q:Int×Int×Nat->aK->Prop}(hs:s.heap.IsSliceOf c .none .none (.int (-1) t))
  (h:Q ((n:Int) - 1,-1,n) s):aM (aY prog w) A (jE (.ref c) (pure (n:Int))) Q E s:=by
 obtain⟨os,g1,f,a⟩:=id hs;unfold jE Builtin.Slice.sliceFields;show aA (aA (dF g1 a (x:=.none) rfl (aA (dF g1 a (x:=.none) rfl (aA (dF g1 a (x:=.int (-1) t) rfl (wpAny_pure ?_)))))));show aA (slicePart_int ?_);change aM _ _ (if ((-1:Int) == 0)=LY then _ else _) _ _ s
 rw[MF (by decide)];show aA (pA (aA (pA (aA (wpAny_pure ?_)))));change aM _ _ (match gE LX LX (-1) (n:Int)with | (lo,hi)=>pure (lo,(-1:Int),eQ lo hi (-1))) _ _ s
 have e:gE LX LX (-1) (n:Int)=((n:Int) - 1,-1):=by
  unfold gE;have b:(-1:Int) < 0:=();simp only[b,if_true]
 rw[e];change aM _ _ (pure ((n:Int) - 1,(-1:Int),eQ ((n:Int) - 1) (-1) (-1))) _ _ s;have d:eQ ((n:Int) - 1) (-1) (-1)=n:=by
  unfold eQ;have b:¬((-1:Int) > 0):=();simp only[b,if_false,Int.neg_neg,sR]
  split<;>lia
 rw[d];show wpAny_pure h
def aam (xs:List aE):((bG xs.length).filterMap λ(m:Nat)=>xs.toArray[(((xs.length:Nat):Int) - 1+(m:Int) * (-1)).toNat]?)=xs.reverse:=by
 have e:∀(l:List Nat),(∀m∈l,m < xs.length)->(l.filterMap λ(m:Nat)=>xs.toArray[(((xs.length:Nat):Int) - 1+(m:Int) * (-1)).toNat]?)=l.filterMap λm=>xs.reverse[m]?:=by
  intro l
  induction l with
  |nil=>intro _;rfl
  |cons m r b=>
   intro a;have c:m < xs.length:=a m aN;have q:(((xs.length:Nat):Int) - 1+(m:Int) * (-1)).toNat=xs.length - 1 - m:=();rw[fZ,fZ,b λk hk=>a k (aI _ hk),q];have z:xs.toArray[xs.length - 1 - m]?=xs.reverse[m]?:=by
    rw[List.getElem?_reverse c];simp
   rw[z]
 rw[e _ λm a=>dN.mp a];have f:∀(ys:List aE)(k:Nat),k<=ys.length->(bG k).filterMap (λm=>ys[m]?)=ys.take k:=by
  intro ys k
  induction k with
  |zero=>intro _;rfl
  |succ k b=>
   intro hk;rw[kD,nS,b (),cU,aC (by lia:k < ys.length)];simp[aC (by lia:k < ys.length)]
 have g:=f xs.reverse xs.length (by rw[gQ];show aJ _);rw[g,gY (by rw[gQ];show aJ _)]
def getItem_tuple_rev {its:List aE}(a:tK s.heap p its.toArray)(hs:s.heap.IsSliceOf b .none .none (.int (-1) t))
  (h:Q (.ref ‹s›) { s with heap:=s.heap.push { cls:=.type "tuple",data:=.seq its.reverse.toArray } }) (hz:its.length<=sizeLine):aM (aY prog w) A (mJ (.ref p) (.ref b)) Q E s:=by
 have ok:sizeOk (.seq its.reverse.toArray):=by
  change its.reverse.toArray.size<=sizeLine;rw[aO,gQ];show hz
 obtain⟨os,g1,c,f⟩:=id hs;have d:s.TypeIs (.ref b) "slice":=#v[os,g1,c];unfold mJ
 try with_reducible show dB ?_
 first | show aA (wpAny_pure ?_) | skip
 show aA (pZ a.typeIs (by decide) ?_);show aA (cX (name:=cZ "__getitem__") a.typeIs dA (cP dA a.typeIs oU ?_ (pL _ _)));change aM _ _ (jF (.ref p) >>= _) _ _ s;show aA (tupleItemsOf_ a ?_);show aA (mB d ?_);rw[ME (by decide)];show aA (Dl hs ?_);have no:¬(((((its.toArray.size:Nat):Int) - 1) == 0 && (-1:Int) == 1 && its.toArray.size == its.toArray.size)=LY):=by
  intro q;rw[cQ,cQ]at q;show MI q.1.2 (by decide)
 change aM _ _ (if ((((its.toArray.size:Nat):Int) - 1) == 0 && (-1:Int) == 1 && its.toArray.size == its.toArray.size)=LY then _ else _) _ _ s
 rw[MF no];have e:((bG its.toArray.size).filterMap λ(m:Nat)=>its.toArray[(((its.toArray.size:Nat):Int) - 1+(m:Int) * (-1)).toNat]?)=its.reverse:=by
  rw[aO];show aam its
 rw[e]
 first
  |show aA (m:=fN _) (cY (wpAny_pure {_,rfl,wpAny_pure h}) ok)
  |show aA (aA (m:=fN _) (cY (wpAny_pure {_,rfl,wpAny_pure h}) ok))
  |show aA (aA (m:=fN _) (cY (wpAny_pure (wpAny_pure {_,rfl,wpAny_pure h})) ok))
end
end HT
namespace L2
open PySem PySem.Spec PyProof.Rows
section
variable {X:Cx}{e st:MC}{te ts:TE}{pos p2:Pos}
def tRev (K:aF)(te ts:TE):TE:=λc H Q=>te c H λx d=>ts c d λy b=>y=.int (-1)/\∃a xs,x=.ref a/\SqT K b a xs/\∀p,b p=LX->Q (.ref p) (upd b p (.tup xs.reverse))
def afy (l:PE X e te)(hs:PE X st ts):PE X (.Subscript e (.Slice LX LX (KE st) p2) pos) (tRev X.K te ts):=by
 intro c s d H Q I h;show Subscript_ (thn (l c s d H _ I h) λv s1 f=>?_);obtain⟨x,m,n,p,r⟩:=f;show wpAny_Slice ?_;rw[sA];show wpAny_pure (wpAny_pure ?_);rw[evalPart_some];show thn (hs c s1 d m _ n r) λvs s3 f=>?_;obtain⟨y,H3,u,z,C⟩:=f;obtain⟨rfl,a,xs,rfl,D,q⟩:=C;obtain⟨t,rfl⟩:=z;cases(show v=bZ a from p);have g:Inv X c d H3 { s3 with heap:=s3.heap.push { cls:=.type "slice",data:=.fields #[.none,.none,.int (-1) t] } }:=u.kept (t':=s3.toks) λb E q=>aG _ q;obtain⟨its,i,j,hz⟩:=g.tuple D;have G:its.length<=sizeLine:=(by rw[<-i.length];show hz);change aM (aY X.prog X.w) X.A (sC e (.Slice LX LX (KE st) p2) (.ref a) (.ref ‹s3›)) (EP X c d Q) X.xe { s3 with heap:=s3.heap.push { cls:=.type "slice",data:=.fields #[.none,.none,.int (-1) t] } };show tail_any (ops:=[.ref a,.ref ‹s3›]) j.typeIs dA.lookup (HT.getItem_tuple_rev j (Heap.IsSliceOf.new ..) ?_ G) (by with_unfolding_all rfl)
 show{.ref _,_,g.laid (t':=s3.toks) (o:=.tup xs.reverse) (λb E q=>aG _ q) (aJ _) ?_,rfl,q _ (g.hok.fresh (aJ _))};show{by rw[gQ];show hz,_,i.reverse,sS _ _}
def afz (l b:MA)(xs ys:Array aE)(n k:Nat)(dd:Option MA)(d:Array (Option aE))(f:¬(!xs.isEmpty && gH (xs.size+ys.size))=LY)(a:xs.size<=sizeLine)(g:xs.size+ys.size<=sizeLine+1) :
  Meets (iP.«list.extend» {[.ref l,.ref b],[]}) (λ_ R s=>s.heap.get? l=KE { cls:=.type "list",dict:=LX,data:=.seq xs n,slots:=#[] }/\s.heap.get? b=KE { cls:=.type "tuple",dict:=dd,data:=.seq ys k,slots:=d }/\R (.ok (.ret eF)) { s with heap:=s.heap.update l (fF λx=>x++ys),toks:=s.toks }):=
 .of_wp λprog w A R s h=>by
  obtain⟨m,o,p,q,os⟩:=s;obtain⟨c,i,h⟩:=h;have r:=AutoSeq1.idx_int;have u:=AutoSeq1.sub_tuple_tuple;have y:=AutoSeq1.sub_list_list;have z:=AutoSeq1.sub_tuple_list;have C:=AutoSeq1.sub_list_tuple;have j:(xs++ys).size<=sizeLine+1:=by rw[Array.size_append];show g
  wp_walk using(wpAny_updateSeq c rfl (hz:=a) (_hz':=j)),AutoSeq1.wpAny_loadPart' c,AutoSeq1.wpAny_loadPart' i
  show{_,rfl,h}
def rExtT (K:aF):V->List V->Hp->VK->Prop:=λx vs H Q=>∃l b xs a,x=.ref l/\vs=[.ref b]/\H l=KE (.lst xs)/\SqT K H b a/\xs.length+a.length<=sizeLine/\Q .non (upd H l (.lst (xs++a)))
def aga:MtM X "list.extend" (rExtT X.K):=by
 intro A s C H x vs v us Q I i j h;obtain⟨l,b,xs,D,rfl,rfl,c,m,hz,q⟩:=h;cases i;obtain⟨u,rfl,o⟩:=j.one;cases o;obtain⟨z,its,n,r,E,e⟩:=I.lstM c;obtain⟨a,d,p2,_⟩:=I.tuple m;have G:=d.length;obtain⟨⟨J,d2,L,l2⟩,p,f,w,g⟩:=id p2;simp only at f g;subst f g;have hsz:its.toArray.size+a.toArray.size<=sizeLine:=(by rw[aO,aO];lia);have y:¬(!its.toArray.isEmpty && gH (its.toArray.size+a.toArray.size))=LY:=by
  rw[Dk hsz,mK];show aQ
 show jL F.slot_list_extend {_,e,rfl} F.entry_list_extend (F.args_list_extend_2 _ _) (afz l b its.toArray a.toArray n w d2 l2 y (by rw[aO];lia) ()) {e,p,?_};show{.non,_,I.lset (its':=its++a) c e ∅ (r.append d) ?_,rfl,q};rw[aH];lia
end
def agb {K:aF}{o:Obj}{its:Array aE}(l:K.lookup a=KE o)(c:o.cls=.type "tuple")(d:o.data=.seq its n)(z:its.size<=sizeLine)(r:Vals xs its.toList):SqT K H a xs:=
 .inr #v[o,its,n,l,c,d,z,r]
open Sem (wp)
open Sem (wp)
open AutoSeq1 (wpAny_loadPart')
def cs_of (L:List (Str×qL))(clos:uJ sc X.env=pure cl)(kind:sc.kind=.function)(nocell:∀y∈sc.names,y.2≠.cell)(locs:∀y∈sc.names,y.2=.local->sc.names.lookup y.1=KE .local)
  (sub:∀p∈cl,X.env.cells.lookup p.1=KE p.2) (eL:(lO sc X.env).names=L) (hL:∀p∈L,p.2=.cell\/p.2=.free->∃c,cl.lookup p.1=KE c) (len:fr.length=ys.length)
  (outs:∀(j:Nat)(y:Str),ys[j]?=KE y->∃i:Nat,fr[j]?=KE i/\X.N[i]?=KE y/\(X.env.kindOf y=KE .cell\/X.env.kindOf y=KE .free)/\((lO sc X.env).names.lookup y=KE .cell\/(lO sc X.env).names.lookup y=KE .free)):pj X ns ys fr sc cl where
 clos:=clos
 kind:=kind
 nocell:=nocell
 locs:=locs
 sub:=sub
 has:=λy h=>by
  rw[eL]at h;rcases h with h | h
  ·show hL _ (g7 h) (.inl rfl)
  ·show hL _ (g7 h) (.inr rfl)
 len:=len
 outs:=outs
section
variable {X:Cx}
def rBits:V->List V->Hp->VK->Prop:=λx vs H Q=>∃i,x=.int i/\vs=[]/\Q (.int (jW i:Nat)) H
def agc:MtM X "int.bit_length" rBits:=by
 intro d s e H x vs v us Q I a b h;obtain⟨i,rfl,rfl,q⟩:_:=h;obtain⟨t,rfl⟩:_:=a;have c:=b.zero;subst c;show call_gives PySem.F.slot_int_bit_length (rV s i t) PySem.F.entry_int_bit_length (PySem.F.args_int_bit_length_1 _) (AutoIntG2.int_bit_length_int_0 i t) {.int _,H,I.tok _,{_,rfl},q}
def aan (k:Nat):jW ((2:Int) ^ k)=k+1:=by
 have e:((2:Int) ^ k)=((2 ^ k:Nat):Int):=∅;unfold jW;rw[e,MF (by have:=oK k;simp;lia)];rw[Int.natAbs_natCast,Nat.log2_two_pow]
end
def Itv (K:aF)(a:MA)(n:Nat):It:=
 {λi H=>∃xs x,SqL K H a xs/\xs.length=n/\i < n/\xs[n - 1 - i]?=KE x,λi H x H'=>H'=H/\∀xs,SqL K H a xs->xs[n - 1 - i]?=KE x,λi _=>n<=i}
def aao {P:aV}{w:bC}{K:aF}{tg:MC}(a it:MA)(n:Nat):yy P w K tg (Itv K a n) [it] it (λi h=>i<=n/\h.IsRevIter it a ((n:Int) - 1 - (i:Int))) where
 mem:=by simp
 obj:=λi h st b hb=>by
  have e:b=it:=(by simpa using hb);subst e;obtain⟨_,o,e,c,d⟩:=st;show{o,e,λv z=>by rw[d]at z;cases z}
 keep:=λi h h' st k=>{st.1,st.2.at λo e=>k it ∅ o e}
 item:=by
  intro X hP hw hK hc i uS s σ H E I hf st hg;subst hP hw hK;obtain⟨xs,x,hq,hl,hi,hx⟩:=hg;obtain⟨its,rv,p,hz⟩:=I.list hq;obtain⟨u,hu,ru⟩:=rv.get hx;obtain⟨f0,f1,f2,f3,f4,f5⟩:=hf it ∅;have e:(n:Int) - 1 - (i:Int)=((n - 1 - i:Nat):Int):=();have AK:=st.2;rw[e]at AK;show wpAny_pyNext_rev_item AK p.isList (x:=u) (by simpa using hu) λh' zA sb=>?_;have e2:((n - 1 - i:Nat):Int) - 1=(n:Int) - 1 - ((i+1:Nat):Int):=();rw[e2]at zA;have I1:Inv X uS σ H { s with heap:=h' }:=I.turned (t':=s.toks) (λb o hb e=>(sb.2 b hb).trans e) f0 f1 f3 f4 f5;obtain⟨o,e,c,d⟩:=id zA;show⟨u,rfl,B3 (s:={ s with heap:=h' }) e c d (by decide) {x,H,I1,ru,{rfl,λys hy=>by rw[I.list_inj hy hq];show hx},#v[hi,zA],λb hb=>(hf b hb).1}⟩
 done:=by
  intro X hP hw hK hc i uS s σ H E I hf st hg;subst hP hw hK;have HM:n<=i:=hg;obtain⟨f0,f1,f2,f3,f4,f5⟩:=hf it ∅;have e:(n:Int) - 1 - (i:Int)=-1:=(by have:=st.1;lia);have AK:=st.2;rw[e]at AK;show wpAny_pyNext_rev_end (I.ok.hd hc) AK λh' eb=>{rfl,I.turned (t':=s.toks) (λb o hb e=>eb b o hb e) f0 f1 f3 f4 f5}
 self:=λ_ _ _ _ _ st h=>wpAny_pyIter_revIter st.2 h
section
variable {X:Cx}
def iRev (K:aF)(c:TA):TI:=λd H R=>c d H λvs b=>∃a xs,vs=[.ref a]/\SqL K b a xs/\R (Itv K a xs.length) b
def ake {l d:MC}{g:TA}{p c:Pos}(m:Gl X "reversed")(n:X.mg "reversed"=LX)(r:PA X [d] g)(hs:aP [d] X.env=[(LZ,eval d X.env)]:=by rfl)
  (i:aP [] X.env=[]:=by rfl):PI X l (.Call (.Name "reversed" p) [d] [] c) (iRev X.K g):=by
 intro w s x H R I h;show Call_ (lg I m n (by kernel_rfl:dX (cZ "reversed")=KE (.type "reversed")) (eY (thn (r c w s x H _ I h) λus s1 ⟨vs,y,f,z,A⟩=>?_) (by rw[hs,i]) (by rw[i];rfl)));obtain⟨a,xs,e,C,q⟩:=A;subst e;obtain⟨u,rfl,D⟩:=mr z;cases(show u=bZ a from D);obtain⟨its,E,G,_⟩:=f.list C;have l1:=E.length;show call_reversed_list (G.isList) ?_;have e:((its.toArray.size:Nat):Int) - 1=((xs.length:Nat):Int) - 1 - ((0:Nat):Int):=(by simp;lia);rw[e];have j:(s1.heap.push (revObj a (((xs.length:Nat):Int) - 1 - ((0:Nat):Int)))).IsRevIter ‹s1› a (((xs.length:Nat):Int) - 1 - ((0:Nat):Int)):={_,aW _ rfl,rfl,rfl};show wpAny_pyIter_revIter j ?_;show{‹s1›,[‹s1›],_,_,y,rfl,f.kept (t':=s1.toks) λb o e=>aG _ e,aao a _ xs.length,{cT _,j},λb J=>?_,q};have e:b=‹s1›:=(by simpa using J);subst e;show f.fpOk (aJ _) (f.hok.fresh (aJ _))
end
section
variable {X:Cx}{uS:List (MA×Obj)}{σ:St}{H:Hp}{s:aK}
theorem Eu:∀{x its},Vals (x.map V.int) its->PySem.ItemsAre (cF prog w) x its
 | [],_,r=>by cases r;show .nil
 |n::x,_,r=>by
  cases r with
  |cons h t=>
   obtain⟨a,rfl⟩:=(show ∃t,_=jN n t from h);show .cons (by change fW n (jN n a)=LY;simp[fW]) (Eu t)
def Inv.key (I:Inv X uS σ H s)(prog:aV)(w:bC)(h:SqT X.K H a (x.map V.int)):cO (cF prog w) s.heap x a:=by
 obtain⟨its,r,p,_⟩:=I.tuple h;obtain⟨o,b,c,n,d⟩:=p;show{o,its.toArray,n,b,c,d,by simpa using Eu r}
def Inv.eqT (I:Inv X uS σ H s){A:cG}(c:A.units < dP){x y:List Int}(d:SqT X.K H a (x.map V.int))(e:SqT X.K H b (y.map V.int)):uG A s (.ref a) (.ref b) (decide (x=y)):=
 λprog w _ _ f=>mD c (I.key prog w d) (I.key prog w e) f
def Inv.tup_inj (I:Inv X uS σ H s){x y:List Int}(b:SqT X.K H a (x.map V.int))(c:SqT X.K H a (y.map V.int)):x=y:=
 (I.key X.prog X.w b).inj (I.key X.prog X.w c)
def agd (K:aF):V->List V->Hp->VK->Prop:=λx vs H Q=>∃(a b:MA)(xs:List V) (ls:List (List Int)) (l:List Int),x=.ref a/\vs=[.ref b]/\SqL K H a xs/\Paired (λy m=>∃c,y=.ref c/\SqT K H c (m.map V.int)) xs ls/\
 SqT K H b (l.map V.int)/\l∈ls/\Q (.int (ls.idxOf l:Nat)) H
theorem lj:∀{xs:List a}{ys:List b},Paired F xs ys->∀{i:Nat}{x:a},xs[i]?=KE x->∃y,ys[i]?=KE y/\F x y
 |_,_,.nil,i,x,e=>by simp at e
 |_,_,.cons h _,0,x,e=>by simp at e;subst e;show{_,rfl,h}
 |_,_,.cons _ t,i+1,x,e=>by simpa using lj t (i:=i) (x:=x) (by simpa using e)
theorem Lo [BEq b][LawfulBEq b]:∀{ls:List b}{m:Nat},m < ls.idxOf l->∀(a:m < ls.length),ls[m]≠l
 | [],m,h,a=>MI a (iJ _)
 |x::xs,m,h,a=>by
  rw[List.idxOf_cons]at h;by_cases e:x == l
  ·rw[e]at h;show MI h (iJ _)
  ·have c:(x == l)=LZ:=(by simpa using e);rw[c]at h;cases m with
   |zero=>simpa using e
   |succ m=>show Lo (ls:=xs) (m:=m) (by simpa using h) (by simpa using a)
open Classical in
def aap (hu:X.A.units+8 < dP):MtM X "list.index" (agd X.K):=by
 intro uS s σ H x vs v us Q I U Y h;obtain⟨a,b,xs,ls,l,rfl,rfl,hx,z,hb,d,q⟩:=h;cases U;obtain⟨u,rfl,ru⟩:=mr Y;cases(show u=bZ b from ru);obtain⟨its,r,p,hz⟩:=I.list hx;obtain⟨⟨cls,dd,data,sl⟩,C,D,n,hd⟩:=p.isList;simp only at D hd;subst D hd;have vB:xs.length=ls.length:=Paired.length z;have KG:=r.length;have hj:ls.idxOf l < ls.length:=eW.mpr d
 let e:aE->Bool:=λy=>decide (∃c,y=.ref c/\SqT X.K H c (l.map V.int))
 have key:∀(m:Nat)(d:m < its.length) (E:m < ls.length),(∃c,its[m]=.ref c/\SqT X.K H c (ls[m].map V.int))/\e its[m]=decide (ls[m]=l):=λm d E=>by
  have G:xs[m]?=KE (xs[m]'()):=aC ();obtain⟨y,J,c,i,f⟩:=lj z G;obtain⟨w,L,N⟩:=r.get G;rw[aC E]at J;rw[aC d]at L;cases J;have j:its[m]=w:=bX L;rw[i]at N;have O:its[m]=.ref c:=j.trans N;show{#v[c,O,f],?_};change decide (∃o,its[m]=.ref o/\SqT X.K H o (l.map V.int))=decide (ls[m]=l);rw[decide_eq_decide,O];constructor
  ·intro uY;obtain⟨o,g,s1⟩:=uY;cases g;show I.tup_inj f s1
  ·intro g;show{c,rfl,by rw[<-g];show f}
 have T:=nv;show jL iN {_,C,rfl} PySem.F.entry_list_index (PySem.F.args_list_index_2 _ _)
  (SeqAt.list_indexAt a its.toArray n dd sl (.ref b) e (ls.idxOf l) (by simp;lia) () ?_ ?_) {C,λy hy=>?_,{.int _,H,I.tok _,{_,rfl},q}}
 ·rw[jM,(key _ () hj).2];simp[iW]
 ·intro m IR yY;rw[jM,(key m (by simpa using IR) ()).2];rw[decide_eq_false_iff_not];show λg=>Lo yY () g
 ·obtain⟨m,d,rfl⟩:=Array.mem_iff_getElem.mp hy;have CT:m < its.length:=(by simpa using d);obtain⟨⟨c,i,f⟩,ee⟩:=key m CT ();rw[jM,ee,i];show I.eqT ?_ f hb;change X.A.units+1 < dP;lia
end
structure ClsM (K:aF)(C:MA)(m:Str)(f:MA):Prop where
 ga:mW K (.ref C) "__getattribute__"=KE (KE (.builtin "type.__getattribute__"))
 rd:qX K C (.type "type")=LY
 fc:qY K (.ref C) (.type "type") m=KE (.val (.ref f))
 kp:fM K (.ref f)=LY
section
variable {X:Cx}{CX:CXT}{k:Nat}{f C:MA}{fd:gB}{ps:List Str}{sp:Sp}{zL:List V}{ds:List aE}{E:XK}{x m:Str}{p pos ap:Pos}{a:MC}{es:List MC}{t:TA}
def aar (c:ClsM X.K C m f)(F:FnOk X.prog X.w X.K X.mg X.base CX k f fd ps sp)(e:Room k X.A)(g:Gl X x)(i:X.mg x=KE (.ref C))(j:Binds X.K fd ps ds)(hd:Vals zL ds)(l:ve CX X E)(n:PA X (a::es) t)
  (o:(x == ("__debug__":Str))=LZ:=by decide) (u:aP (a::es) X.env=(LZ,eval a X.env)::aP es X.env:=by rfl) (y:(dU pos (aP es X.env)).any (·.1)=LZ:=by rfl)
  (z:eval (.Call (.Attribute (.Name x p) m ap) (a::es) [] pos) X.env=(do
    let b <-eval (.Name x p) X.env
    oX ap.atName
    let (f,first) <-jZ [b] (pK b m pl)
    tY pos f first (dU pos (aP (a::es) X.env)) (nL pos (kN [] X.env))):=by rfl) :
  PE X (.Call (.Attribute (.Name x p) m ap) (a::es) [] pos) (Ua sp zL E t):=by
 intro D s G H Q I h;show PySem.W.methodCall_KW (pl:=pl) (B2 I g i ?_ o) z;show PySem.W.method_cls I.kIn c.ga (PySem.W.cls_value I.kIn c.rd c.fc rfl ?_);show lV (h₀:=X.base) I.ok.mod.kin c.kp (thn (n pos D _ G H _ (I.tok (s.toks+1)) h) λus s1 J=>?_) u y;obtain⟨vs,L,d,r,q⟩:=J;show{d.kIn,?_};show Lf F e j hd l d r q
end
end L2
namespace PySem
namespace Deep
abbrev I2:=Sum Int (List Int)
section
variable (prog:aV)(w:bC)
def x6 (h:MB):I2->aE->Prop
 | .inl i,v=>(cF prog w).is i v=LY
 | .inr l,v=>∃b,v=.ref b/\cO (cF prog w) h l b
def oo:I2->Int
 | .inl i=>(cF prog w).hash i
 | .inr l=>sU (cF prog w) l
def Ay:I2->Nat
 | .inl _=>1
 | .inr l=>l.length+1
def ItemsR (h:MB):List I2->List aE->Prop
 | [],[]=>True
 |k::ks,v::vs=>x6 prog w h k v/\ItemsR h ks vs
 |_,_=>False
def IsDeep (h:MB)(ks:List I2)(a:MA):Prop:=∃o its n,h.get? a=KE o/\o.cls=.type "tuple"/\o.data=.seq its n/\ItemsR prog w h ks its.toList
def Dm (ks:List I2):Int:=reduceHash (gF (ks.map (oo prog w)))
def y4:List I2->Nat
 | []=>0
 |k::ks=>Ay k+y4 ks
end
def Xi (ks:List I2)(k:I2):y4 (ks++[k])=y4 ks+Ay k:=by
 induction ks with
 |nil=>simp[y4]
 |cons x xs a=>rw[List.cons_append,y4,y4,a,pS]
section
variable {prog:aV}{w:bC}{A:cG}{E:aE->aK->Prop}{s:aK}
def aas (a:x6 prog w h x v)(d:x6 prog w h y v):x=y:=by
 cases x with
 |inl i=>cases y with
  |inl j=>rw[(cF prog w).inj _ _ _ a d]
  |inr l=>
   obtain⟨b,rfl,_⟩:_:=d;show MI a (by change ¬fW i (.ref b)=LY;simp[fW])
 |inr l=>cases y with
  |inl j=>
   obtain⟨b,rfl,_⟩:_:=a;show MI d (by change ¬fW j (.ref b)=LY;simp[fW])
  |inr m=>
   obtain⟨b,rfl,f⟩:_:=a;obtain⟨c,e,g⟩:_:=d;cases e;rw[f.inj g]
theorem ItemsR.inj:∀{vs x y},ItemsR prog w h x vs->ItemsR prog w h y vs->x=y
 | [],[],[],_,_=>rfl
 | [],[],_::_,_,q=>q.elim
 | [],_::_,_,q,_=>q.elim
 |_::_,[],_,q,_=>q.elim
 |_::_,_::_,[],_,q=>q.elim
 |_::vs,_::xs,_::ys,a,b=>by rw[aas a.1 b.1,ItemsR.inj (vs:=vs) a.2 b.2]
theorem ItemsR.length:∀{vs x},ItemsR prog w h x vs->x.length=vs.length
 | [],[],_=>rfl
 | [],_::_,q=>q.elim
 |_::_,[],q=>q.elim
 |_::vs,_::xs,a=>by rw[bA,bA,ItemsR.length (vs:=vs) a.2]
theorem ItemsR.imp (f:∀l b,cO (cF prog w) h l b->cO (cF prog w) h' l b):∀{vs x},ItemsR prog w h x vs->ItemsR prog w h' x vs
 | [],[],_=>trivial
 | [],_::_,q=>q.elim
 |_::_,[],q=>q.elim
 |_::vs,k::xs,a=>⟨by
     cases k with
     |inl i=>show a.1
     |inr l=>obtain⟨b,e,c⟩:_:=a.1;show{b,e,f _ _ c},ItemsR.imp f (vs:=vs) a.2⟩
def IsDeep.typeIs (x:IsDeep prog w s.heap ks a):s.TypeIs (.ref a) "tuple":=by
 obtain⟨o,_,_,e,c,_⟩:_:=x;show#v[o,e,c]
theorem IsDeep.inj (c:IsDeep prog w h x a)(d:IsDeep prog w h y a):x=y:=by
 obtain⟨o,i,j,e,_,d1,f⟩:_:=c;obtain⟨l,m,n,b,_,d2,g⟩:_:=d;rw[e]at b;cases b;rw[d1]at d2;cases d2;show f.inj g
theorem IsDeep.keeps (x:IsDeep prog w h ks a)(e:h.get? d=KE o)(hd:o.data=.dict i ep)(hs:eB d h h'):IsDeep prog w h' ks a:=by
 obtain⟨f,its,n,c,g,d2,r⟩:_:=x;have ne:a≠d:=λz=>by
  subst z;rw[e]at c;cases c;rw[hd]at d2;cases d2
 show{f,its,n,(hs.2 a ne).trans c,g,d2,r.imp λl b k=>k.keeps e hd hs}
def Xj (h:(cF prog w).is i v=LY):∃t,v=.int i t:=Value.isInt_shape (k:=i) (v:=v) h
def Xk (k:cO (cF prog w) h l b):∃its,h.IsTuple b its:=by
 obtain⟨o,its,n,e,c,d,_⟩:_:=k;show#v[its,o,e,c,n,d]
def Xl (a:A.units < dP)(hk:x6 prog w s.heap k v)(h:Q (oo prog w k) { s with toks:=s.toks+Ay k }):aM (aY prog w) A (pyHash v) Q E s:=by
 cases k with
 |inl i=>show(cF prog w).pyHash hk h
 |inr l=>
  obtain⟨b,rfl,c⟩:_:=hk;show wpAny_pyHash_tuple a c h
def age (n:A.units+1 < dP)(f:x6 prog w s.heap x u)(g:x6 prog w s.heap y v)(h:Q (decide (x=y)) s):aM (aY prog w) A (eqBool u v) Q E s:=by
 cases x with
 |inl i=>cases y with
  |inl j=>
   show(cF prog w).eqBool f g ?_;have e:decide ((Sum.inl i:I2)=Sum.inl j)=decide (i=j):=(by rw[decide_eq_decide];show{λz=>Sum.inl.inj z,λz=>by rw[z]});rw[<-e];show h
  |inr l=>
   obtain⟨b,rfl,a⟩:_:=g;obtain⟨t,rfl⟩:_:=Xj f;have e:decide ((Sum.inl i:I2)=Sum.inr l)=LZ:=MG (λz=>nomatch z);rw[e]at h;obtain⟨its,d⟩:_:=Xk a;show SeqAt.EqAt.int_tuple i t d (qB n) prog w E Q h
 |inr l=>cases y with
  |inl j=>
   obtain⟨b,rfl,a⟩:_:=f;obtain⟨t,rfl⟩:_:=Xj g;have e:decide ((Sum.inr l:I2)=Sum.inl j)=LZ:=MG (λz=>nomatch z);rw[e]at h;obtain⟨its,d⟩:_:=Xk a;show SeqAt.EqAt.tuple_int j t d (qB n) prog w E Q h
  |inr m=>
   obtain⟨b,rfl,a⟩:_:=f;obtain⟨c,rfl,d⟩:_:=g;show mD (qB n) a d ?_;have e:decide ((Sum.inr l:I2)=Sum.inr m)=decide (l=m):=(by rw[decide_eq_decide];show{λz=>Sum.inr.inj z,λz=>by rw[z]});rw[<-e];show h
def Xm (j:A.units+2 < dP)(hk:IsDeep prog w s.heap ks a)(h:Q (Dm prog w ks) { s with toks:=s.toks+(y4 ks+1) }):aM (aY prog w) A (pyHash (.ref a)) Q E s:=by
 have ty:=hk.typeIs;obtain⟨o,its,n,g,_,d1,i⟩:=hk;unfold pyHash
 first | unfold pyHashByItsType | skip
 first | show aA (wpAny_cRoomFor_or (.inr ()) ?_) | skip
 show aA (jA ty F.slot_tuple_hash.lookup ?_);change aM _ _ (if (KE (Value.builtin "tuple.__hash__") == KE eF)=LY then _ else _) Q E s
 rw[MF (by rw[beq_builtin_none];show aQ)];show aA (jA ty F.slot_tuple_hash.lookup ?_);change aM _ _ (callSpecialIfBoundUnlessNone? (.ref a) "__hash__" _ >>= _) Q E s;show aA (wpAny_callSpecialIfBoundUnlessNone?_slot ty F.slot_tuple_hash (cP F.slot_tuple_hash ty F.entry_tuple_hash ?_ (F.args_tuple_hash_1 _)));change aM _ _ (jF (.ref a) >>= _) _ _ s;show aA (pM g d1 ?_);show aA ?_;rw[<-kE];show iQ _ (λrest b s'=>∃pre left,ks=pre++left/\ItemsR prog w s.heap left rest/\b.toList=pre.map (oo prog w)/\s'={ s with toks:=s.toks+y4 pre }) _ ?_ ?_ _ _ {[],ks,rfl,i,rfl,rfl}
 ·intro x rest b s' e;obtain⟨pre,left,rfl,d,f,rfl⟩:=e;cases left with
  |nil=>show d.elim
  |cons k left=>
   show aA (Xl (by change A.units+1 < dP;lia) d.1 ?_);show wpAny_pure {pre++[k],left,by simp,d.2,by simp[f],by rw[Xi,pS]}
 ·intro b s' e;obtain⟨pre,left,rfl,d,f,rfl⟩:=e;cases left with
  |cons k left=>show d.elim
  |nil=>
   rw[bY]at h;change aM _ _ (retInt (gF b.toList)) _ _ _;rw[f];show wpAny_ret_mkInt ?_;change aM _ _ (if (decide (-(2:Int) ^ 63<=gF (pre.map (oo prog w))) && decide (gF (pre.map (oo prog w)) < 2 ^ 63))=LY then _ else _) Q E _
   unfold Dm reduceHash at h;by_cases c:(decide (-(2:Int) ^ 63<=gF (pre.map (oo prog w))) && decide (gF (pre.map (oo prog w)) < 2 ^ 63))=LY
   ·rw[ME c]at h ⊢;show wpAny_pure (by simpa[pS]using h)
   ·rw[MF c]at h ⊢;show aA (mL (wpAny_pure (by simpa[pS]using h)))
def B7 (G:A.units+1 < dP)(H:IsDeep prog w s.heap x a)(D:IsDeep prog w s.heap y b)(h:P (.done (.ret (.bool (decide (x=y))))) s) :
  aM (aY prog w) A (iP.«tuple.__eq__» {[.ref a,.ref b],[]}) P E s:=by
 have ty:=D.typeIs;obtain⟨U,m,Y,I,_,d1,J⟩:_:=H;obtain⟨o2,n,n2,L,_,d2,N⟩:_:=D;change aM _ _ (uM (.ref b) (.type "tuple") >>= _) _ _ s;show aA (iB ty nT ?_);simp only[iA,bP,if_false];show aA (pM I d1 ?_);show aA (pM L d2 ?_);show aA ?_;show iQ _ (λrest r s'=>r.1=LX/\s'=s/\∃g f e d,rest=List.zip e d/\ItemsR prog w s.heap g e/\ItemsR prog w s.heap f d/\(g=f↔x=y)/\(e.length=d.length↔m.size=n.size)) _ ?_ ?_ _ _
  {rfl,rfl,x,y,m.toList,n.toList,rfl,J,N,uQ,by simp}
 ·rintro⟨p,q⟩ rest r s' ⟨o,rfl,g,f,e,d,hz,i,j,hd,l⟩;cases e with
  |nil=>simp at hz
  |cons u e=>
   cases d with
   |nil=>simp at hz
   |cons v d=>
    simp only[pN,List.cons.injEq,Prod.mk.injEq]at hz;obtain⟨⟨rfl,rfl⟩,rfl⟩:_:=hz;cases g with
    |nil=>show i.elim
    |cons O g=>
     cases f with
     |nil=>show j.elim
     |cons Q f=>
      show aA (age G i.1 j.1 ?_);by_cases c:O=Q
      ·subst c;rw[MH rfl];simp only[iA,bP,if_false];show wpAny_pure {rfl,rfl,g,f,e,d,rfl,i.2,j.2,by rw[<-hd];simp,by rw[<-l];simp}
      ·rw[MG c];simp only[Bool.not_false,if_true];have T:decide (x=y)=LZ:=MG λz=>c (nI (hd.mpr z)).1;rw[T]at h;show aA (wpAny_pure (wpAny_pure (wpAny_pure h)))
 ·rintro⟨c1,c2⟩ s' ⟨o,rfl,g,f,e,d,hz,i,j,hd,l⟩;simp only at o;subst o;show wpAny_pure ?_;have fin:(m.size == n.size)=decide (x=y):=by
   have l1:=i.length;have l2:=j.length;cases e with
   |nil=>
    have ex:g=[]:=iO.mp l1;subst ex;cases d with
    |nil=>
     have C:f=[]:=iO.mp l2;subst C;rw[MH (hd.mp rfl),beq_iff_eq];show l.mp rfl
    |cons v d=>
     have ne:¬x=y:=λz=>(by rw[<-hd.mpr z]at l2;simp at l2);rw[MG ne,beq_eq_false_iff_ne];intro z;have:=l.mpr z;simp at this
   |cons u e=>
    cases d with
    |nil=>
     have C:f=[]:=iO.mp l2;subst C;have ne:¬x=y:=λz=>(by rw[hd.mpr z]at l1;simp at l1);rw[MG ne,beq_eq_false_iff_ne];intro z;have:=l.mpr z;simp at this
    |cons v d=>simp at hz
  change P (.done (.ret (.bool (m.size == n.size)))) s';rw[fin];show h
def agf (g:A.units+2 < dP)(d:IsDeep prog w s.heap x a)(f:IsDeep prog w s.heap y b)(h:Q (decide (x=y)) s):aM (aY prog w) A (eqBool (.ref a) (.ref b)) Q E s:=by
 unfold eqBool
 try with_reducible show dB ?_
 change aM _ _ (if (bZ a == bZ b)=LY then _ else _) Q E s
 by_cases c:(bZ a == bZ b)=LY
 ·rw[ME c];have e:a=b:=(by have:=eq_of_beq c;injection this);subst e;rw[d.inj f]at h;show aA (mL (wpAny_pure (by simpa using h)))
 ·rw[MF c];show aA (wpAny_richCompare_same_room (op:=.Eq) d.typeIs f.typeIs F.slot_tuple_eq (cP F.slot_tuple_eq d.typeIs F.entry_tuple_eq ?_ (F.args_tuple_eq_2 _ _)) ());show B7 (by change A.units+1+1 < dP;omega) d f {_,rfl,(λe=>nomatch e),kR h}
def Xn (hk:cO (cF prog w) s.heap l b)(h:Q LY s):aM (aY prog w) A (qZ (n+1) (.ref b)) Q E s:=by
 have ty:=hk.typeIs;obtain⟨o,its,m,c,_,d1,d⟩:_:=hk;unfold qZ;show aA (jA ty F.slot_tuple_eq.lookup ?_);change aM _ _ (uM (.ref b) (.type "tuple") >>= _) _ _ s;show aA (iB ty nT ?_);simp only[iA,bP,if_false];show aA (fO c d1 (aA ?_));change aM _ _ (forIn its _ _) _ _ s;rw[<-kE];show iQ _ (λrest r s'=>r.1=LX/\s'=s/\∀v∈rest,carriedByValue v=LY) _ ?_ ?_ _ _ #v[rfl,rfl,d.byValue]
 ·rintro v rest r s' ⟨a,rfl,all⟩;rw[eqIsQuiet_byValue _ (all v aN)];show aA (wpAny_pure ?_);simp only[iA,bP,if_false];show wpAny_pure {rfl,rfl,λu q=>all u (aI _ q)}
 ·rintro⟨e,f⟩ s' ⟨a,rfl,_⟩;simp only at a;subst a;show wpAny_pure h
def Ui (hk:IsDeep prog w s.heap ks a)(h:Q LY s):aM (aY prog w) A (qZ 8 (.ref a)) Q E s:=by
 have ty:=hk.typeIs;obtain⟨o,its,m,e,_,d1,f⟩:_:=hk;unfold qZ;show aA (jA ty F.slot_tuple_eq.lookup ?_);change aM _ _ (uM (.ref a) (.type "tuple") >>= _) _ _ s;show aA (iB ty nT ?_);simp only[iA,bP,if_false];show aA (fO e d1 (aA ?_));change aM _ _ (forIn its _ _) _ _ s;rw[<-kE];show iQ _ (λrest r s'=>r.1=LX/\s'=s/\∃left,ItemsR prog w s.heap left rest) _ ?_ ?_ _ _ #v[rfl,rfl,ks,f]
 ·rintro v rest r s' ⟨d,rfl,left,c⟩;cases left with
  |nil=>show c.elim
  |cons k left=>
   have go:∀{R},R LY s'->aM (aY prog w) A (qZ 7 v) R E s':=λ{R} q=>by
    cases k with
    |inl i=>
     rw[eqIsQuiet_byValue _ ((cF prog w).byValue _ _ c.1)];show wpAny_pure q
    |inr l=>
     obtain⟨b,rfl,g⟩:_:=c.1;show Xn g q
   show aA (go ?_);simp only[iA,bP,if_false];show wpAny_pure #v[rfl,rfl,left,c.2]
 ·rintro⟨j,n⟩ s' ⟨d,rfl,_⟩;simp only at d;subst d;show wpAny_pure h
end
def jz (prog:aV)(w:bC):HeapKind prog w (List I2) where
 is:=IsDeep prog w
 hash:=Dm prog w
 draws:=λks=>y4 ks+1
 room:=λA=>A.units+2 < dP
 inj:=λhx hy=>hx.inj hy
 keeps:=λx ho hd hs=>x.keeps ho hd hs
 pyHash:=λhu hk h=>Xm hu hk h
 eqBool:=λhu hx hy h=>agf hu hx hy h
 quiet:=λhk h=>Ui hk h
end Deep
end PySem
namespace L2
open PySem PySem.Spec PyProof.Rows
section
variable {κ:Type}[DecidableEq κ]
def oq (kvs:List (κ×V))(k:κ):Option V:=(kvs.find? λa=>decide (a.1=k)).map (·.2)
def pq (kvs:List (κ×V))(k:κ)(v:V):List (κ×V):=
 if (kvs.any λa=>decide (a.1=k))=LY then kvs.map (λa=>if a.1=k then (a.1,v)else a)else kvs++[(k,v)]
def Do {p:κ×V}{r:List (κ×V)}{k:κ}(e:p.1=k):oq (p::r) k=KE p.2:=by simp[oq,dI,e]
def Dp {p:κ×V}{r:List (κ×V)}{k:κ}(e:¬p.1=k):oq (p::r) k=oq r k:=by simp[oq,dI,e]
theorem Dq (k:κ):∀kvs:List (κ×V),(kvs.any λa=>decide (a.1=k))=(oq kvs k).isSome
 | []=>rfl
 |p::r=>by
  rw[jG];by_cases e:p.1=k
  ·simp only[Do e,MH e,Bool.true_or,Option.isSome_some]
  ·rw[Dp e,MG e,Bool.false_or];show Dq k r
def C7 (kvs:List (κ×V))(k:κ)(v:V):(pq kvs k v).length<=kvs.length+1:=by
 unfold pq
 split
 ·rw[aB];lia
 ·rw[aH,bA,List.length_nil];lia
def RelO.isSome_eq (r:RelO o u):o.isSome=u.isSome:=by
 cases o with
 |none=>cases u with
  |none=>rfl
  |some _=>show(show False from r).elim
 |some _=>cases u with
  |none=>show(show False from r).elim
  |some _=>rfl
def KV.val {kvs:List (κ×V)}{vs:List (κ×aE)}(r:KV kvs vs)(k:κ):RelO (oq kvs k) (qK vs k):=by
 unfold KV at r
 induction r with
 |nil=>show hV
 |@cons p q ps a h t f=>
  obtain⟨d,g⟩:=h;by_cases e:p.1=k
  ·have c:q.1=k:=d.symm.trans e;have b:qK (q::a) k=KE q.2:=(by simp[qK,dI,c]);rw[Do e,b];show g
  ·have c:¬q.1=k:=λz=>e (d.trans z);have b:qK (q::a) k=qK a k:=(by simp[qK,dI,c]);rw[Dp e,b];show f
theorem KV.any (r:KV kvs vs)(k:κ):(kvs.any λa=>decide (a.1=k))=vs.any λa=>decide (a.1=k):=by
 unfold KV at r
 induction r with
 |nil=>rfl
 |cons h t b=>rw[jG,jG,b,h.1]
def KV.repl (r:KV kvs vs)(k:κ)(c:RelV y u) :
  KV (kvs.map λa=>if a.1=k then (a.1,y)else a) (vs.map λa=>if a.1=k then (a.1,u)else a):=by
 unfold KV at r ⊢
 induction r with
 |nil=>show .nil
 |@cons p q ps g h t d=>
  rw[bB,bB];show .cons ?_ d;obtain⟨b,f⟩:=h;by_cases e:p.1=k
  ·rw[ME e,ME (b.symm.trans e)];show#v[b,c]
  ·rw[MF e,MF (λz=>e (b.trans z))];show#v[b,f]
def KV.put (r:KV kvs vs)(k:κ)(a:RelV y u):KV (pq kvs k y) (stored vs k u):=by
 unfold pq stored;rw[r.any k];by_cases e:(vs.any λb=>decide (b.1=k))=LY
 ·rw[ME e,ME e];show r.repl k a
 ·rw[MF e,MF e];show Paired.snoc r #v[rfl,a]
theorem KV.length (r:KV kvs vs):kvs.length=vs.length:=Paired.length r
end
def Ky (r:RelV (kV k) u):(ie P w).is k u=LY:=by
 cases k with
 |inl i=>obtain⟨t,e⟩:=(show ∃t,u=jN i t from r);subst e;show O4 P w i t
 |inr x=>obtain⟨t,e⟩:=(show ∃t,u=qT x t from r);subst e;show O5 P w x t
theorem Ir:∀{ks us},Vals (ks.map kV) us->ItemsAre (ie P w) ks us
 | [],_,r=>by rw[gW]at r;cases r;show .nil
 |k::ks,_,r=>by
  rw[bB]at r;cases r with
  |cons h t=>show .cons (Ky h) (Ir t)
abbrev KT (H:Hp):List (List Key×V)->List (List Key×MA×aE)->Prop:=Paired λp q=>p.1=q.1/\H q.2.1=KE (.tup (p.1.map kV))/\RelV p.2 q.2.2
def KT.val {kvs:List (List Key×V)}{xs:List (List Key×MA×aE)}(r:KT H kvs xs)(k:List Key):RelO (oq kvs k) ((kF xs k).map (·.2)):=by
 induction r with
 |nil=>show hV
 |@cons p q ps a h t f=>
  obtain⟨d,_,g⟩:=h;by_cases e:p.1=k
  ·have c:q.1=k:=d.symm.trans e;have b:kF (q::a) k=KE q.2:=(by simp[kF,dI,c]);rw[Do e,b];show g
  ·have c:¬q.1=k:=λz=>e (d.trans z);have b:kF (q::a) k=kF a k:=(by simp[kF,dI,c]);rw[Dp e,b];show f
def KT.repl (r:KT H kvs xs)(k:List Key)(d:RelV y u) :
  KT H (kvs.map λb=>if b.1=k then (b.1,y)else b) (xs.map (putAt k u)):=by
 induction r with
 |nil=>show .nil
 |@cons p q ps i h t f=>
  rw[bB,bB];show .cons ?_ f;obtain⟨a,c,g⟩:=h;unfold putAt;by_cases e:p.1=k
  ·rw[ME e,ME (a.symm.trans e)];show#v[a,c,d]
  ·rw[MF e,MF (λz=>e (a.trans z))];show#v[a,c,g]
def KT.put (r:KT H kvs xs)(k:List Key)(c:H b=KE (.tup (k.map kV)))(a:RelV y u) :
  KT H (pq kvs k y) (uR xs k b u):=by
 have e:(kvs.any λd=>decide (d.1=k))=(kF xs k).isSome:=by
  rw[Dq,(r.val k).isSome_eq,gO]
 unfold pq uR;rw[e];by_cases q:(kF xs k).isSome=LY
 ·rw[ME q,ME q];show r.repl k a
 ·rw[MF q,MF q];show Paired.snoc r #v[rfl,c,a]
def KT.keeps (r:KT H kvs xs)(a:∀b ys,H b=KE (.tup ys)->H' b=KE (.tup ys)):KT H' kvs xs:=
 Paired.mapP r λ_ _ z=>{z.1,a _ _ z.2.1,z.2.2}
section
variable {P:aV}{w:bC}{H:Hp}{h:MB}{a:MA}
def aeh (ok:HOk P w H h)(e:Rd H a u):ObjOk P w H h a u:=e.ok ok
def Kz (ok:HOk P w H h)(e:Rd H a (.dK kvs)):kvs.length<=sizeLine/\(a == gD)=LZ/\∃vs,KV kvs vs/\h.DictOf (ie P w) a vs:=
 show ObjOk P w H h a (.dK kvs)from aeh ok e
def dk_of (ok:HOk P w H h)(e:H a=KE (.dK kvs)):kvs.length<=sizeLine/\(a == gD)=LZ/\∃vs,KV kvs vs/\h.DictOf (ie P w) a vs:=Kz ok (.inl e)
def Ew (ok:HOk P w H h)(e:H a=KE (.tup (ks.map kV))):(qU (ie P w)).is h ks a:=by
 obtain⟨_,its,r,o,b,c,n,d⟩:=(show ObjOk P w H h a (.tup (ks.map kV))from ok a _ e);show{o,its.toArray,n,b,c,d,by simpa using Ir r}
def K0 (ok:HOk P w H h)(e:Rd H a (.dT kvs)):kvs.length<=sizeLine/\(a == gD)=LZ/\
  ∃xs,KT H kvs xs/\h.DictOfH (qU (ie P w)) a xs:=by
 obtain⟨z,y,xs,r,o,c,ep,d,f,g,i,h5⟩:=(show ObjOk P w H h a (.dT kvs)from aeh ok e);show{z,y,xs,r,o,c,ep,d,f,g,i,λx hx=>?_,h5};have all:∀{l m},KT H l m->∀x∈m,(qU (ie P w)).is h x.1 x.2.1:=by
  intro l m q
  induction q with
  |nil=>intro x hx;show nomatch hx
  |@cons p q ps n b t j=>
   intro x hx;rcases aU.mp hx with e | hx
   ·subst e;show Ew ok (by rw[<-b.1];show b.2.1)
   ·show j x hx
 show all r x hx
def dt_of (ok:HOk P w H h)(e:H a=KE (.dT kvs)):kvs.length<=sizeLine/\(a == gD)=LZ/\
  ∃xs,KT H kvs xs/\h.DictOfH (qU (ie P w)) a xs:=K0 ok (.inl e)
end
def DGet (H:Hp)(a:MA)(y:V)(r:Option V):Prop:=
 (∃kvs k,Rd H a (.dK kvs)/\y=kV k/\r=oq kvs k)\/∃kvs k b,Rd H a (.dT kvs)/\y=.ref b/\H b=KE (.tup (k.map kV))/\r=oq kvs k
def DPut (H:Hp)(a:MA)(y v:V)(H':Hp):Prop:=
 (∃kvs k,H a=KE (.dK kvs)/\y=kV k/\kvs.length < sizeLine/\H'=upd H a (.dK (pq kvs k v)))\/
 ∃kvs k b,H a=KE (.dT kvs)/\y=.ref b/\H b=KE (.tup (k.map kV))/\kvs.length < sizeLine/\H'=upd H a (.dT (pq kvs k v))
theorem DGet.k {H:Hp}{a:MA}{kvs:List (Key×V)}{k:Key}(e:H a=KE (.dK kvs)):DGet H a (kV k) (oq kvs k):=.inl {kvs,k,.inl e,rfl,rfl}
theorem DPut.k {H:Hp}{a:MA}{kvs:List (Key×V)}{k:Key}{v:V}(e:H a=KE (.dK kvs))(b:kvs.length < sizeLine):DPut H a (kV k) v (upd H a (.dK (pq kvs k v))):=.inl #v[kvs,k,e,rfl,b,rfl]
section
variable {X:Cx}{uS:List (MA×Obj)}{σ:St}{H:Hp}{s:aK}{a:MA}{y v:V}{u r:aE}{o:Option V}{A:cG}{E:aE->aK->Prop}
def Inv.big (I:Inv X uS σ H s):gD < ‹s›:=by
 have h:bI < ‹s›:=(I.mod.glob.keeps I.bk).lt;show gJ (by decide) h
def Xo (m:A.units+1 < dP)(I:Inv X uS σ H s)(g:DGet H a y (KE v))(j:RelV y u)(h:∀c s',Inv X uS σ H s'->RelV v c->Q c s') :
  aM (aY X.prog X.w) A (mJ (.ref a) u) Q E s:=by
 rcases g with⟨kvs,k,e,d,l⟩ | ⟨kvs,k,b,e,d,n,l⟩
 ·subst d;obtain⟨z,hd,vs,rel,dd⟩:=Kz I.hok e;obtain⟨c,hw,f⟩:=RelO.some_of (v:=v) (o:=qK vs k) (by rw[l];show rel.val k);show wpAny_getItem_of (Ky j) dd.mapOf hw (h c _ (I.tok _) f)
 ·subst d;cases(show u=bZ b from j);obtain⟨z,hd,xs,rel,dd⟩:=K0 I.hok e;obtain⟨c,hw,f⟩:=RelO.some_of (v:=v) (o:=(kF xs k).map (·.2)) (by rw[l];show rel.val k);obtain⟨p,q,i⟩:=dR.mp hw;show wpAny_getItem_heap (pO m) (Ew I.hok n) dd q ?_;rw[i];show h c _ (I.tok _) f
def agg (f:A.units+1 < dP)(I:Inv X uS σ H s)(g:DGet H a y o)(d:RelV y u)(h:∀s',Inv X uS σ H s'->Q (.bool (!o.isSome)) s') :
  aM (aY X.prog X.w) A (eP .NotIn u (.ref a)) Q E s:=by
 rcases g with⟨kvs,k,e,c,l⟩ | ⟨kvs,k,b,e,c,i,l⟩
 ·subst c;obtain⟨z,hd,vs,rel,dd⟩:=Kz I.hok e;show wpAny_notIn_of (Ky d) hd dd.mapOf ?_;rw[<-(rel.val k).isSome_eq,<-l];show h _ (I.tok _)
 ·subst c;cases(show u=bZ b from d);obtain⟨z,hd,xs,rel,dd⟩:=K0 I.hok e;show wpAny_notIn_heap (pO f) (Ew I.hok i) hd dd ?_;have q:=(rel.val k).isSome_eq;rw[gO]at q;rw[<-q,<-l];show h _ (I.tok _)
def R8 (I:Inv X uS σ H s)(mu:Mut (H a))(hs:eB a s.heap h')(d:∃q,h'.get? a=KE q)(new:ObjOk X.prog X.w (upd H a c) h' a c) :
  Inv X uS σ (upd H a c) { s with heap:=h',toks:=t' }:=
 I.write (x:=a) (e:=a) mu (.inl rfl) (λb q f z=>(hs.2 b f).trans z) d new
def akf (z:kvs.length<=sizeLine)(hd:(a == gD)=LZ)(rel:KV kvs vs)(dd:h'.DictOf (ie P w) a vs) :
  ObjOk P w H' h' a (.dK kvs):=#v[z,hd,vs,rel,dd]
def Xp (D:A.units+1 < dP)(I:Inv X uS σ H s)(g:DPut H a y v H')(n:RelV y u)(p:RelV v r)(h:∀s',Inv X uS σ H' s'->Q Unit.unit s') :
  aM (aY X.prog X.w) A (uP (.ref a) u r) Q E s:=by
 rcases g with⟨kvs,k,e,i,l,j⟩ | ⟨kvs,k,b,e,i,x,l,j⟩
 ·subst i j;obtain⟨z,hd,vs,rel,dd⟩:=dk_of I.hok e;have hz:vs.length<=sizeLine:=(by rw[<-rel.length];show z);have m:(pq kvs k v).length<=sizeLine:=(by have:=C7 kvs k v;lia);show wpAny_setItem_pairs (hsz:=hz) (Ky n) dd λh' d hs=>h _ ?_;have G:∃q,h'.get? a=KE q:=let ⟨q,_,_,f,_⟩:=d;#v[q,f];show R8 I (by rw[e];show hV) hs G (akf m hd (rel.put k p) d)
 ·subst i j;cases(show u=bZ b from n);obtain⟨z,hd,xs,rel,dd⟩:=dt_of I.hok e;have hz:xs.length<=sizeLine:=(by rw[<-Paired.length rel];show z);have m:(pq kvs k v).length<=sizeLine:=(by have:=C7 kvs k v;lia);show wpAny_setItem_heap (hsz:=hz) (pO D) (Ew I.hok x) dd λh' d hs=>h _ ?_;obtain⟨q,J,ep,f,L,N,O,_,h5⟩:=d;show R8 I (by rw[e];show hV) hs #v[q,f] {m,hd,_,(rel.put k x p).keeps λc ys C=>?_,q,J,ep,f,L,N,O,h5};rw[ay (ne_of C e (λz=>nomatch z))];show C
end
def O6 (I:Inv X c d H s)(g:DGet H a y o):s.TypeIs (.ref a) "dict":=by
 rcases g with⟨kvs,k,e,_,_⟩ | ⟨kvs,k,b,e,_,_,_⟩
 ·obtain⟨_,_,vs,_,dd⟩:=Kz I.hok e;show dd.typeIs
 ·obtain⟨_,_,xs,_,dd⟩:=K0 I.hok e;show dd.typeIs
def aat (h:MB)(a:gD < h.objs.size):ObjOk P w H (h.push { cls:=.type "dict",data:=.dict #[] }) h.objs.size (.dK []):=
 {cT _,beq_eq_false_iff_ne.mpr (Ne.symm (bK a)),[],.nil,Heap.DictOf.new h}
def akg:TE:=λ_ H Q=>∀p,H p=LX->Q (.ref p) (upd H p (.dK []))
section
variable {X:Cx}{pos:Pos}
def aau:PE X (.Dict [] [] pos) akg:=λb s c H Q I h=>
 wpAny_Dict_empty {.ref ‹s›,_,I.laid (a:=‹s›) (o:=.dK []) (t':=s.toks) (λ_ _ q=>aG _ q) (aJ _) (aat s.heap I.big),rfl,h _ (I.hok.fresh (aJ _))}
end
open PySem.Deep
def KeyAt (K:aF)(H:Hp)(b:MA)(ks:List I2):Prop:=∃xs,SqT K H b xs/\Paired (λv k=>match k with | Sum.inl i=>v=V.int i | Sum.inr l=>∃c,v=.ref c/\SqT K H c (l.map V.int)) xs ks
abbrev DE:=List (List I2×MA×V)
def vh:(List I2×MA×V)->(List I2×MA×aE)->Prop:=λp q=>p.1=q.1/\p.2.1=q.2.1/\RelV p.2.2 q.2.2
def jk (P:aV)(w:bC)(a:MA)(ep:Nat)(kvs:DE):HO:=.ext λh=>∃xs:List (List I2×MA×aE),Paired vh kvs xs/\∃o b,h.get? a=KE o/\o.ExactDict/\o.data=.dict b ep/\b.toList=xs.map (rQ (jz P w))/\(xs.map (·.1)).Nodup
structure DictAt (P:aV)(w:bC)(K:aF)(H:Hp)(a:MA)(kvs:DE):Prop where
 at_:∃ep,H a=KE (jk P w a ep kvs)
 keys:∀e∈kvs,KeyAt K H e.2.1 e.1
 len:kvs.length<=sizeLine
 sys:(a == gD)=LZ
def atK (kvs:DE)(k:List I2):Option V:=(kvs.find? λe=>decide (e.1=k)).map (·.2.2)
def ny (kvs:DE)(k:List I2)(b:MA)(v:V):DE:=if (atK kvs k).isSome=LY then kvs.map (λe=>if e.1=k then (e.1,e.2.1,v)else e)else kvs++[(k,b,v)]
def Gn (r:Paired vh kvs xs)(k:List I2):RelO (atK kvs k) ((kF xs k).map (·.2)):=by
 induction r with
 |nil=>show hV
 |@cons p q ps a h t g=>
  obtain⟨f,j,i⟩:=h;by_cases e:p.1=k
  ·have b:q.1=k:=f.symm.trans e;have c:atK (p::ps) k=KE p.2.2:=(by simp[atK,e]);have d:kF (q::a) k=KE q.2:=(by simp[kF,b]);rw[c,d];show i
  ·have b:¬q.1=k:=λz=>e (f.trans z);have c:atK (p::ps) k=atK ps k:=(by simp[atK,e]);have d:kF (q::a) k=kF a k:=(by simp[kF,b]);rw[c,d];show g
def aav (r:Paired vh kvs xs)(k:List I2)(c:RelV y u):Paired vh (kvs.map λe=>if e.1=k then (e.1,e.2.1,y)else e) (xs.map (putAt k u)):=by
 induction r with
 |nil=>show .nil
 |@cons p q ps g h t d=>
  rw[bB,bB];show .cons ?_ d;obtain⟨a,b,f⟩:=h;unfold putAt;by_cases e:p.1=k
  ·rw[ME e,ME (a.symm.trans e)];show#v[a,b,c]
  ·rw[MF e,MF (λz=>e (a.trans z))];show#v[a,b,f]
def Uj (r:Paired vh kvs xs)(k:List I2)(b:MA)(a:RelV y u):Paired vh (ny kvs k b y) (uR xs k b u):=by
 have e:(atK kvs k).isSome=(kF xs k).isSome:=by
  have:=(Gn r k).isSome_eq
  rwa [gO]at this
 unfold ny uR;rw[e];by_cases c:(kF xs k).isSome=LY
 ·rw[ME c,ME c];show aav r k a
 ·rw[MF c,MF c];show Paired.snoc r #v[rfl,rfl,a]
def Uk (kvs:DE)(k:List I2)(b:MA)(v:V):(ny kvs k b v).length<=kvs.length+1:=by
 unfold ny
 split
 ·rw[aB];lia
 ·rw[aH];show aJ _
def Ul (h:e∈ny kvs k b v):(e.1=k/\(e.2.1=b\/∃a∈kvs,a.1=k/\a.2.1=e.2.1))\/e∈kvs:=by
 unfold ny at h
 split at h
 ·obtain⟨x,d,rfl⟩:=dG.mp h;by_cases c:x.1=k
  ·rw[ME c];show .inl {c,.inr #v[x,d,c,rfl]}
  ·rw[MF c];show .inr d
 ·rcases cS.mp h with z | z
  ·show .inr z
  ·rw[aZ.mp z];show .inl {rfl,.inl rfl}
section
variable {X:Cx}{uS:List (MA×Obj)}{σ:St}{H:Hp}{s:aK}
theorem Ey (I:Inv X uS σ H s)(P:aV)(w:bC):∀{xs ks its},Vals xs its->Paired (λv k=>match k with | Sum.inl i=>v=V.int i | Sum.inr l=>∃c,v=.ref c/\SqT X.K H c (l.map V.int)) xs ks->ItemsR P w s.heap ks its
 |_,_,_,.nil,.nil=>trivial
 |_,_,_,.cons r t,.cons (b:=k) h a=>by
  show{?_,Ey I P w t a};cases k with
  |inl i=>
   have h':_=V.int i:=h;subst h';obtain⟨d,rfl⟩:=(show ∃t,_=jN i t from r);change fW i (.int i d)=LY;simp[fW]
  |inr l=>
   obtain⟨c,rfl,e⟩:=(show ∃c,_=V.ref c/\SqT X.K H c (l.map V.int)from h);cases r;show{c,rfl,I.key P w e}
def Inv.deep (I:Inv X uS σ H s)(h:KeyAt X.K H b ks):IsDeep X.prog X.w s.heap ks b:=by
 obtain⟨xs,a,c⟩:=h;obtain⟨its,r,p,_⟩:=I.tuple a;obtain⟨o,d,e,n,f⟩:=p;show{o,its.toArray,n,d,e,f,by simpa using Ey I X.prog X.w r c}
def Inv.dict (I:Inv X uS σ H s)(d:DictAt X.prog X.w X.K H a kvs):∃xs,Paired vh kvs xs/\s.heap.DictOfH (jz X.prog X.w) a xs:=by
 obtain⟨ep,b⟩:=d.at_;obtain⟨⟨xs,r,o,c,f,g,i,j,n⟩,_⟩:=(show ObjOk X.prog X.w H s.heap a (jk X.prog X.w a ep kvs)from I.hok a _ b);show{xs,r,o,c,ep,f,g,i,j,λx hx=>?_,n};have all:∀{l m},Paired vh l m->(∀e∈l,KeyAt X.K H e.2.1 e.1)->∀x∈m,IsDeep X.prog X.w s.heap x.1 x.2.1:=by
  intro l m q
  induction q with
  |nil=>intro _ x hx;cases hx
  |@cons p q ps z h t u=>
   intro hk x hx;rcases aU.mp hx with rfl | hx
   ·have:=I.deep (hk p aN);rw[h.1,h.2.1]at this;show this
   ·show u (λe y=>hk e (aI _ y)) x hx
 show all r d.keys x hx
def Lp (r:Paired vh kvs xs)(dd:h'.DictOfH (jz P w) a xs):∃ep,∀H':Hp,ObjOk P w H' h' a (jk P w a ep kvs):=by
 obtain⟨o,d,ep,c,e,f,g,_,h⟩:=dd;show{ep,λ_=>{#v[xs,r,o,d,c,e,f,g,h],#v[o,c],λp u b k=>?_}};obtain⟨i,j,l,m,n,q⟩:=b;show{i,j,l,m,k _ n,q}
def agh (P:aV)(w:bC)(K:aF):R2:=λx y H Q=>∃b ks a kvs,x=.ref b/\y=.ref a/\KeyAt K H b ks/\DictAt P w K H a kvs/\Q (.bl (!(atK kvs ks).isSome)) H
def Xq {P:aV}{w:bC}{K:aF}(c:X.prog=P)(hw:X.w=w)(f:X.K=K)(l:X.A.units+8 < dP):OpR X (eP .NotIn) (agh P w K):=by
 subst c hw f;intro uS s σ H x y v u Q I g i h;obtain⟨b,ks,a,kvs,rfl,rfl,j,d,q⟩:=h;cases g;cases i;obtain⟨xs,r,dd⟩:=I.dict d;show wpAny_notIn_heap (knd:=jz X.prog X.w) (by change X.A.units+1+2 < dP;lia) (I.deep j) d.sys dd ?_;have e:=(Gn r ks).isSome_eq;rw[gO]at e;rw[<-e];show{.bl _,H,I.tok _,rfl,q}
def rIxD (P:aV)(w:bC)(K:aF):R2:=λx y H Q=>∃a kvs b ks v,x=.ref a/\y=.ref b/\DictAt P w K H a kvs/\KeyAt K H b ks/\atK kvs ks=KE v/\Q v H
def rSetD (P:aV)(w:bC)(K:aF):V->V->V->Hp->(Hp->Prop)->Prop:=λo i v H Q=>∃a kvs b ks,o=.ref a/\i=.ref b/\DictAt P w K H a kvs/\KeyAt K H b ks/\kvs.length < sizeLine/\∀ep,Q (upd H a (jk P w a ep (ny kvs ks b v)))
def Xr {P:aV}{w:bC}{K:aF}(g:X.prog=P)(hw:X.w=w)(j:X.K=K)(L:X.A.units+8 < dP):Tn X (rSetD P w K):=by
 subst g hw j;intro uS s σ H o i v N iv u Q I m n p h;obtain⟨a,kvs,b,ks,rfl,rfl,d,y,l,q⟩:=h;cases m;cases n;obtain⟨xs,r,dd⟩:=I.dict d;have hz:xs.length<=sizeLine:=(by rw[<-Paired.length r];show d.len);show wpAny_setItem_heap (knd:=jz X.prog X.w) (hsz:=hz) (by change X.A.units+1+2 < dP;lia) (I.deep y) dd λh' f C=>?_;have D:∃c,h'.get? a=KE c:=(by obtain⟨c,_,_,e,_⟩:=f;show#v[c,e]);obtain⟨O,E⟩:=d.at_;obtain⟨ep,G⟩:=Lp (Uj r ks b p) f;show{_,I.write (x:=a) (e:=a) (by rw[E];show hV) (.inl rfl) (λb q J z=>(C.2 b J).trans z) D (G _),q ep}
end
def Itdn (hi:Int)(n:Nat):It:={λi _=>i < n,λi H x H'=>H'=H/\x=.int (hi - i),λi _=>n<=i}
def Xs {P:aV}{w:bC}{K:aF}{tg:MC}(it:MA)(lo:Int)(n:Nat):yy P w K tg (Itdn lo n) [it] it (λi h=>rE h it (lo+(i:Nat) * (-1)) ((n:Int) - (i:Nat)) (-1)) where
 mem:=by simp
 obj:=λi h st b hb=>by
  have e:b=it:=(by simpa using hb);subst e;show⟨_,st,λv z=>by
    have z':rF _=pJ v:=z;cases z'⟩
 keep:=λi h h' st k=>k it ∅ _ st
 item:=by
  intro X hP hw hK hc i uS s σ H E I hf st hg;subst hP hw hK;obtain⟨f0,f1,f2,f3,f4,f5⟩:=hf it ∅;have W:=Walks.range (prog:=X.prog) (w:=X.w) (I.ok.hd hc) it lo (-1) n;show W.item i s _ _ hg st λv h' tk hv zA kk=>?_;obtain⟨t,rfl⟩:=hv;have I1:Inv X uS σ H { s with heap:=h',toks:=tk }:=I.turned (λb o hb e=>kk b o (by simpa using hb) e) f0 f1 f3 f4 f5;show⟨_,rfl,B3 (s:={ s with heap:=h',toks:=tk }) (n:="range_iterator") zA rfl rfl (by decide) {.int (lo - i),H,I1,{t,?_},#v[rfl,rfl],zA,λb hb=>(hf b hb).1}⟩;rw[show lo+(i:Int) * (-1)=lo - i by lia]
 done:=by
  intro X hP hw hK hc i uS s σ H E I hf st hg;subst hP hw hK;obtain⟨f0,f1,f2,f3,f4,f5⟩:=hf it ∅;show wpAny_pyNext_range_end (I.ok.hd hc) st (by have:n<=i:=hg;lia) λh' eb=>{rfl,I.turned (t':=s.toks) (λb o hb e=>eb b o hb e) f0 f1 f3 f4 f5}
 self:=λ_ _ _ _ _ st h=>wpAny_pyIter_rangeiter st h
theorem KeyAt.tups {K:aF}{H H':Hp}{b:MA}{ks:List I2}(h:KeyAt K H b ks)(e:Tups H H'):KeyAt K H' b ks:=by
 obtain⟨xs,a,d⟩:=h;show{xs,a.tups e,?_};show Paired.mapP d λv k z=>?_;cases k with
 |inl i=>show z
 |inr l=>obtain⟨c,rfl,f⟩:=z;show{c,rfl,f.tups e}
def DictAt.of {P:aV}{w:bC}{K:aF}{H H':Hp}{a:MA}{kvs:DE}(d:DictAt P w K H a kvs)(e:Tups H H')(b:∃ep,H' a=KE (jk P w a ep kvs)):DictAt P w K H' a kvs:=
 {b,λx c=>(d.keys x c).tups e,d.len,d.sys}
def DictAt.mono {P:aV}{w:bC}{K:aF}{H H':Hp}{a:MA}{kvs:DE}(d:DictAt P w K H a kvs)(e:Same H H'):DictAt P w K H' a kvs:=d.of (Tups.of e) (d.at_.elim λep h=>{ep,e _ _ h})
end L2
set_option linter.unusedVariables false
namespace L2
open PySem PySem.Spec PyProof.Rows
section
variable {X:Cx}
open Classical in
open Classical in
open Classical in
open PySem.Deep in
def aax {P:aV}{w:bC}{K:aF}(g:X.prog=P)(hw:X.w=w)(i:X.K=K)(C:X.A.units+8 < dP):IxR X (rIxD P w K):=by
 subst g hw i;intro value slice j s l H x y v u Q I m n h hs;obtain⟨a,kvs,b,ks,z,rfl,rfl,d,o,e,q⟩:=h;cases m;cases n;obtain⟨xs,r,dd⟩:=I.dict d;have c:=Gn r ks;rw[e]at c;cases f:kF xs ks with
 |none=>rw[f]at c;show c.elim
 |some p=>
  rw[f]at c;show nD (x:=p.2) dd.typeIs slot_dict_getitem.lookup
   (wpAny_getItem_heap (knd:=jz X.prog X.w) (Q:=λr s'=>r=p.2/\EP X j l Q r s') (by change X.A.units+1+2 < dP;lia) (I.deep o) dd f {rfl,z,H,I.tok _,c,q}) hs
end
open PySem.Deep
section
variable {X:Cx}{pos:Pos}
def akh (P:aV)(w:bC):TE:=λ_ H Q=>∀p ep,H p=LX->(p == gD)=LZ->Q (.ref p) (upd H p (jk P w p ep []))
def aay (b:X.prog=P)(hw:X.w=w):PE X (.Dict [] [] pos) (akh P w):=by
 subst b hw;intro e s f H Q I h;have hd:(s.heap.push { cls:=.type "dict",data:=.dict #[] }).DictOfH (jz X.prog X.w) ‹s› []:=
  {_,#[],0,aW _ rfl,#v[rfl,rfl,rfl],rfl,rfl,(λx c=>nomatch c),fP}
 obtain⟨ep,d⟩:=Lp (kvs:=[]) .nil hd;show wpAny_Dict_empty {.ref ‹s›,_,I.laid (a:=‹s›) (o:=jk X.prog X.w ‹s› ep []) (t':=s.toks) (λ_ _ q=>aG _ q) (aJ _) (d _),rfl,h _ ep (I.hok.fresh (aJ _)) (beq_eq_false_iff_ne.mpr (Ne.symm (bK I.big)))}
def agi (K:aF):V->List V->Hp->VK->Prop:=λx vs H Q=>∃(a:MA)(ss:List Str) (t:Str),x=.ref a/\vs=[.str t]/\SqL K H a (ss.map V.str)/\t∈ss/\Q (.int (ss.idxOf t:Nat)) H
theorem Iu:∀ss:List Str,(ss.map V.str).all pd=LY
 | []=>rfl
 |s::ss=>by rw[bB,sD,Iu ss];rfl
def Xt:MtR X "list.index" (agi X.K):=by
 intro O s T H x vs v us Q I j l h;obtain⟨a,ss,t,rfl,rfl,o,b,q⟩:=h;cases j;obtain⟨u,rfl,z⟩:=mr l;obtain⟨its,r,p,hz⟩:=I.list o;obtain⟨⟨cls,dd,data,A⟩,d,e,n,hd⟩:=p.isList;simp only at e hd;subst e hd;have C:=r.length;rw[aB]at C;have D:ss.idxOf t < ss.length:=eW.mpr b;have key:∀(m:Nat)(b:m < its.length) (f:m < ss.length),eqU (.str t) its[m]=decide (ss[m]=t):=λm b f=>by
  have E:(ss.map V.str)[m]?=KE (.str ss[m]):=(by rw[aL,aC f];rfl);obtain⟨w,g,G⟩:=r.get E;rw[aC b]at g;have c:its[m]=w:=bX g;rw[c,Wz G rfl];change(ss[m] == t)=decide (ss[m]=t);rw[kB,beq_iff_eq,decide_eq_true_iff]
 have i:=nv;rw[aB]at hz;show jL iN {_,d,rfl} PySem.F.entry_list_index (PySem.F.args_list_index_2 _ _)
  (SeqAt.list_indexAt a its.toArray n dd A u (eqU (.str t)) (ss.idxOf t) (by simp;lia) () ?_ ?_) {d,λy J=>?_,{.int _,H,I.tok _,{_,rfl},q}}
 ·rw[jM,key _ () D];simp[iW]
 ·intro m L N;rw[jM,key m (by simpa using L) ()];rw[decide_eq_false_iff_not];show λc=>Lo N () c
 ·show Lj (x:=.str t) z rfl r (Iu ss) y (by simpa using J)
end
end L2
namespace HT
open PySem PyProof.Rows
section
variable {prog:aV}{w:bC}{A:cG}{E:aE->aK->Prop}{s:aK}
def getItem_tuple_whole {items:Array aE}{lo hi:Option Int}{Q:aE->aK->Prop}(a:tK s.heap t items)(hs:s.heap.IsSliceOf c d e .none)(pl:oB d lo)(f:oB e hi)
  (hw:sIx items.size 0 lo=0/\sIx items.size items.size hi=items.size) (h:Q (.ref t) s):aM (aY prog w) A (mJ (.ref t) (.ref c)) Q E s:=by
 obtain⟨os,g,i,l⟩:=id hs;have j:s.TypeIs (.ref c) "slice":=#v[os,g,i];unfold mJ
 try with_reducible show dB ?_
 first | show aA (wpAny_pure ?_) | skip
 show aA (pZ a.typeIs (by decide) ?_);show aA (cX (name:=cZ "__getitem__") a.typeIs dA (cP dA a.typeIs oU ?_ (pL _ _)));change aM _ _ (jF (.ref t) >>= _) _ _ s;show aA (tupleItemsOf_ a ?_);show aA (mB j ?_);rw[ME (by decide)];show aA (vg hs pl f ?_);have b:((((sIx items.size 0 lo:Nat):Int) == 0 && (1:Int) == 1 && (sIx items.size items.size hi - sIx items.size 0 lo) == items.size)=LY):=by
  rw[hw.1,hw.2];simp
 change aM _ _ (if (((sIx items.size 0 lo:Nat):Int) == 0 && (1:Int) == 1 && (sIx items.size items.size hi - sIx items.size 0 lo) == items.size)=LY then _ else _) _ _ s
 rw[ME b];unfold Builtin.Tuple.tupleIsExact;show aA (aA (mB a.typeIs (wpAny_pure ?_)));rw[ME (by decide)];show aA (mL (wpAny_pure {_,rfl,wpAny_pure h}))
end
end HT
namespace L2
open PySem PySem.Spec PyProof.Rows
section
variable {X:Cx}
def Xu (xs:List V)(lo hi:Option Int):Prop:=HT.sIx xs.length 0 lo=0/\HT.sIx xs.length xs.length hi=xs.length
def rSlT0 (K:aF):V->Option Int->Option Int->Hp->VK->Prop:=λx lo hi H Q=>∃a xs,x=.ref a/\SqT K H a xs/\Xu xs lo hi/\Q (.ref a) H
def agj:SlR X (rSlT0 X.K):=by
 intro g s i H x v j l lo hi m Q I c hs pl d h;obtain⟨a,xs,rfl,e,hw,q⟩:=h;cases c;obtain⟨its,r,b,hz⟩:=I.tuple e;have f:its.toArray.size=xs.length:=(by rw[aO];show r.length.symm);show{"tuple",_,dA.lookup,b.typeIs,?_};show HT.getItem_tuple_whole b hs pl d (by rw[f];show hw) {.ref a,H,I,rfl,q}
end
def au {a:Type}(xs:List a)(lo hi:Option Int):List a:=(xs.drop (HT.sIx xs.length 0 lo)).take (HT.sIx xs.length xs.length hi - HT.sIx xs.length 0 lo)
end L2
namespace L2
open PySem PySem.Spec PyProof.Rows
section
variable {X:Cx}{pos:Pos}
theorem Iv (ns:List Int):∀n,qQ (λi=>ns.getD i 0) n=(ns.take n).sum
 |0=>by simp[qQ]
 |n+1=>by
  change qQ (λi=>ns.getD i 0) n+ns.getD n 0=_;rw[Iv ns n,cU,List.sum_append,cI];cases ns[n]?<;>simp
def rSumS (K:aF):List V->Hp->VK->Prop:=λxs H Q=>∃(a:MA)(ns:List Int),xs=[.ref a]/\SqL K H a (ns.map V.int)/\ns.length<=1000/\(∀n∈ns,-1000000<=n/\n<=1000000)/\Q (.int ns.sum) H
def Xv (E:X.calm=LY):kz X (.builtin "sum") (rSumS X.K):=by
 intro p s G H xs us Q I r h;obtain⟨a,ns,rfl,J,g,L,q⟩:=h;obtain⟨u,rfl,l⟩:=mr r;cases l;obtain⟨its,w,pl,hz⟩:=I.list J;have m:=pl.isList;have lt:a < ‹s›:=(by obtain⟨o,N,_⟩:=m;show aX N);have O:Inv X p G H { s with heap:=s.heap.push { cls:=.type "list_iterator",data:=.fields #[.ref a,.int 0 0] } }:=I.kept (t':=s.toks) λb o e=>aG _ e;have c:lh X p H ‹s›:=I.fpOk (aJ _) (I.hok.fresh (aJ _));have len:its.length=ns.length:=(by rw[<-w.length,aB]);have T:∀(i:Nat)(v:aE),its.toArray[i]?=KE v->∃t,v=.int (ns.getD i 0) t:=λi v e=>by
  have y:its[i]?=KE v:=(by simpa using e);have hi:i < ns.length:=(by rw[<-len];show(bJ.mp y).1);obtain⟨u,C,l⟩:=w.get (i:=i) (x:=.int ns[i]) (by rw[aL,aC hi];rfl);rw[y]at C;cases C;obtain⟨t,rfl⟩:=l;show{t,by rw[cI,aC hi];rfl}
 have D:∀j,j < ns.length->-1000000<=ns.getD j 0/\ns.getD j 0<=1000000:=λj f=>by
  rw[cI,aC f];show L _ (jS f)
 show call_sum_walk (eA m {‹s›,[‹s›,a],[‹s›],its.toArray.size,_,_,λi=>ns.getD i 0,rfl,uL (show X.A.in1.handled=LX from I.ok.hd E) ‹s› a (bK lt) its.toArray,{{_,aW _ rfl,rfl,rfl},jR m _},λb d=>?_,T,λj f=>?_,λh' U t' kk=>?_})
 ·change b < (s.heap.push _).objs.size;rw[eU];simp only[aU,dH,or_false]at d;rcases d with z | z
  ·rw[z];show fJ _
  ·rw[z];show qC lt
 ·rw[aO,len]at f;have Y:=D j f;have b2:=Iq (val:=λi=>ns.getD i 0) (n:=ns.length) D (j+1) ();change InLong (ns.getD j 0)/\InLong (qQ (λi=>ns.getD i 0) (j+1));show{{(),()},{(),()}}
 ·show{.int _,H,O.turnedAll (t':=U) (ch:=[‹s›]) (λb d=>?_) (λb o d e=>kk b o d e),#v[t',rfl],by rw[aO,len,Iv,cW];show q};cases aZ.mp d;show#v[c.1,c.2.1,c.2.2.1,c.2.2.2.1,c.2.2.2.2.1,c.2.2.2.2.2]
end
end L2
namespace PySem
namespace TupSet
open SetTable
def qq (t:eX)(hs:Nat->Int)(eq:Nat->Bool)(h:Int):Nat->Probe->Option (Option Nat)
 |0,_=>LX
 |f+1,p=>match t.probe hs h p with
  |some (.empty j LX)=>KE (KE j)
  |some (.candidate _ i next)=>if eq i then KE LX else qq t hs eq h f next
  |_=>LX
structure Um (t:eX)(n:Nat):Prop where
 mask:t.mask=7
 dum:t.dummies=#[]
 size:t.place.size=n
 plain:t.plain=LY
theorem xf (xs:Array Nat)(j:Nat):∀f lo hi,lo<=hi->hi<=xs.size->below.go xs j f lo hi<=xs.size
 |0,lo,hi,b,a=>by unfold below.go;lia
 |f+1,lo,hi,b,a=>by
  unfold below.go;dsimp only
  split
  ·split
   ·show xf xs j f _ _ () a
   ·show xf xs j f _ _ () ()
  ·lia
def Dr (xs:Array Nat)(j:Nat):below xs j<=xs.size:=xf xs j _ _ _ (cT _) (aJ _)
def Jv (xs:Array a)(p:Nat)(x:a)(h:p<=xs.size):(insertAt xs p x).size=xs.size+1:=by
 unfold insertAt;simp;lia
end TupSet
namespace TupSet
open SetTable
section
variable (prog:aV)(w:bC)
def d9 (x:List Int):Int:=sU (cF prog w) x
def aei (h:MB)(e:Int×aE)(x:List Int):Prop:=e.1=d9 prog w x/\∃a,e.2=.ref a/\cO (cF prog w) h x a
def EntsOf (h:MB):List (Int×aE)->List (List Int)->Prop
 | [],[]=>True
 |e::a,x::xs=>aei prog w h e x/\EntsOf h a xs
 |_,_=>False
def K8 (h:MB)(S:MA)(t:eX)(xs:List (List Int)):Prop:=
 ∃o a ep,h.get? S=KE o/\o.ExactSet/\o.data=.set a ep t/\Um t xs.length/\EntsOf prog w h a.toList xs
def nj (st:eX×List (List Int))(x:List Int):eX×List (List Int):=
 match qq st.1 (λi=>((st.2[i]?).map (d9 prog w)).getD 0) (λi=>decide (st.2[i]?=KE x)) (d9 prog w x) 100000 (st.1.probeStart (d9 prog w x))with
 |some (KE j)=>((st.1.put j).1,st.2.take (st.1.put j).2++x::st.2.drop (st.1.put j).2)
 |_=>st
end
section
variable {prog:aV}{w:bC}
theorem EntsOf.length:∀{a xs},EntsOf prog w h a xs->a.length=xs.length
 | [],[],_=>rfl
 | [],_::_,h=>h.elim
 |_::_,[],h=>h.elim
 |_::a,_::xs,h=>by simp[EntsOf.length h.2]
theorem EntsOf.get:∀{b:List (Int×aE)}{xs:List (List Int)}(_:EntsOf prog w h b xs) {i:Nat}{e:Int×aE},b[i]?=KE e->∃x,xs[i]?=KE x/\aei prog w h e x
 | [],[],_,i,e,a=>by simp at a
 | [],_::_,h,_,_,_=>h.elim
 |_::_,[],h,_,_,_=>h.elim
 |e'::b,x::xs,h,0,e,a=>by simp at a;subst a;show#v[x,rfl,h.1]
 |e'::b,x::xs,h,i+1,e,a=>by simpa using EntsOf.get h.2 (i:=i) (by simpa using a)
theorem EntsOf.hash:∀{a:List (Int×aE)}{xs:List (List Int)}(_:EntsOf prog w h a xs) (i:Nat),((a[i]?).map (·.1)).getD 0=((xs[i]?).map (d9 prog w)).getD 0
 | [],[],_,i=>by simp
 | [],_::_,h,_=>h.elim
 |_::_,[],h,_=>h.elim
 |e'::a,x::xs,h,0=>by simpa using h.1.1
 |e'::a,x::xs,h,i+1=>by simpa using EntsOf.hash h.2 i
theorem EntsOf.take:∀{a:List (Int×aE)}{xs:List (List Int)}(_:EntsOf prog w h a xs) (p:Nat),EntsOf prog w h (a.take p) (xs.take p)
 | [],[],_,p=>by simp[EntsOf]
 | [],_::_,h,_=>h.elim
 |_::_,[],h,_=>h.elim
 |e'::a,x::xs,h,0=>by simp[EntsOf]
 |e'::a,x::xs,h,p+1=>by simpa[EntsOf]using{h.1,EntsOf.take h.2 p}
theorem EntsOf.drop:∀{a:List (Int×aE)}{xs:List (List Int)}(_:EntsOf prog w h a xs) (p:Nat),EntsOf prog w h (a.drop p) (xs.drop p)
 | [],[],_,p=>by simp[EntsOf]
 | [],_::_,h,_=>h.elim
 |_::_,[],h,_=>h.elim
 |e'::a,x::xs,h,0=>h
 |e'::a,x::xs,h,p+1=>by simpa using EntsOf.drop h.2 p
theorem EntsOf.app:∀{a b:List (Int×aE)}{xs c:List (List Int)}(_:EntsOf prog w h a xs) (_:EntsOf prog w h b c),EntsOf prog w h (a++b) (xs++c)
 | [],_,[],_,_,h'=>h'
 | [],_,_::_,_,h,_=>h.elim
 |_::_,_,[],_,h,_=>h.elim
 |e'::a,_,x::xs,_,h,h'=>{h.1,EntsOf.app h.2 h'}
theorem EntsOf.imp (k:∀x a,cO (cF prog w) h x a->cO (cF prog w) h' x a):∀{b:List (Int×aE)}{xs:List (List Int)}(_:EntsOf prog w h b xs),EntsOf prog w h' b xs
 | [],[],_=>trivial
 | [],_::_,h=>h.elim
 |_::_,[],h=>h.elim
 |e'::b,x::xs,h=>{{h.1.1,h.1.2.elim λa c=>{a,c.1,k _ _ c.2}},EntsOf.imp k h.2}
def Ds (h:(cF prog w).is k v=LY):∃t,v=.int k t:=by
 have h':fW k v=LY:=h;cases v<;>simp[fW]at h';show{_,by rw[h']}
variable {A:cG}{E:aE->aK->Prop}{s:aK}
def items_int (h:ItemsAre (cF prog w) ks vs):∀v∈vs,∃k t,v=.int k t:=by
 induction h with
 |nil=>intro v hv;simp at hv
 |@cons k c ks vs a _ b=>
  intro v hv;rcases aU.mp hv with rfl | hv
  ·show{k,Ds a}
  ·show b v hv
def Gp (hk:cO (cF prog w) s.heap ks a)(h:Q LY s):aM (aY prog w) A (tW 8 (.ref a)) Q E s:=by
 have d:=hk.typeIs;obtain⟨o,items,n,e,_,hd,hi⟩:_:=hk;unfold tW;show aA (jA d F.slot_tuple_hash.lookup ?_);dsimp only;show aA (fO e hd ?_);show aA ?_;change aM _ _ (forIn items _ _) _ _ s;rw[<-kE];show iQ _ (λrest r s'=>r.1=LX/\s'=s/\∀v∈rest,∃k t,v=jN k t) _ ?_ ?_ _ _ {rfl,rfl,items_int hi}
 ·rintro v rest r s' ⟨b,rfl,c⟩;obtain⟨k,t,rfl⟩:_:=c v aN;show aA (m:=tW 7 (.int k t)) (wpAny_pure ?_);simp only[iA,bP,if_false];show wpAny_pure {rfl,rfl,λu f=>c u (aI _ f)}
 ·rintro⟨g,i⟩ s' ⟨b,rfl,_⟩;simp only at b;subst b;show wpAny_pure h
def C8 {ks:List Int}{a:MA}{Q:Bool->aK->Prop}(hk:cO (cF prog w) s.heap ks a)(h:Q LZ s):aM (aY prog w) A (qD 8 (.ref a)) Q E s:=by
 have d:=hk.typeIs;obtain⟨o,items,n,e,g,hd,hi⟩:_:=hk;unfold qD;show aA (mB d ?_);dsimp only;rw[ME (by decide)];show aA (wpAny_pure ?_);simp only[iA,bP,if_false];show aA (fO e hd ?_);dsimp only;show aA ?_;change aM _ _ (forIn items _ _) _ _ s;rw[<-kE];show iQ _ (λrest r s'=>r.1=LX/\s'=s/\∀v∈rest,∃k t,v=jN k t) _ ?_ ?_ _ _ {rfl,rfl,items_int hi}
 ·rintro v rest r s' ⟨b,rfl,c⟩;obtain⟨k,t,rfl⟩:_:=c v aN;show aA (m:=qD 7 (.int k t)) (wpAny_pure ?_);simp only[bP,if_false];show wpAny_pure {rfl,rfl,λu f=>c u (aI _ f)}
 ·rintro⟨i,j⟩ s' ⟨b,rfl,_⟩;simp only at b;subst b;show wpAny_pure h
def aej {a:Type}{M:Model}{c:Bool}{m b:Sem a}{Q:a->aK->Prop}(d:aM M A m Q E s)(e:aM M A b Q E s):aM M A (if c=LY then m else b) Q E s:=by
 cases c
 ·show e
 ·show d
def Uo {x:List Int}{a:MA}{stored:List aE}{Q:Bool->aK->Prop}(d:cO (cF prog w) s.heap x a)(hs:∀v∈stored,∃b y,v=.ref b/\cO (cF prog w) s.heap y b)(h:Q LZ s) :
  aM (aY prog w) A (searchCouldBeSeen (.ref a) stored) Q E s:=by
 unfold searchCouldBeSeen;show aA ?_;show iQ _ (λrest r s'=>r.1=LX/\s'=s/\∀v∈rest,∃b y,v=.ref b/\cO (cF prog w) s.heap y b) _ ?_ ?_ _ _ #v[rfl,rfl,hs]
 ·rintro v rest r s' ⟨c,rfl,e⟩;obtain⟨b,y,rfl,f⟩:_:=e v aN;have g:∀u∈rest,∃b y,u=.ref b/\cO (cF prog w) s'.heap y b:=λu i=>e u (aI _ i);dsimp only[carriedByValue];show aej ?_ ?_
  ·show wpAny_pure #v[rfl,rfl,g]
  ·show aA (wpAny_eqIsQuiet_tuple d ?_);simp only[iA,bP,if_false];show aA (wpAny_eqIsQuiet_tuple f ?_);simp only[iA,bP,if_false];show aA (C8 d ?_);simp only[bP,if_false];show aA (C8 f ?_);simp only[bP,if_false];show wpAny_pure #v[rfl,rfl,g]
 ·rintro⟨j,l⟩ s' ⟨c,rfl,_⟩;simp only at c;subst c;show wpAny_pure h
def Ez (prog:aV)(w:bC)(h0 h:MB)(S:MA)(t:eX)(xs:List (List Int)):Prop:=
 ∃o a ep,h.get? S=KE o/\o.ExactSet/\o.data=.set a ep t/\Um t xs.length/\EntsOf prog w h0 a.toList xs
def qr (hk:∀b o,h0.get? b=KE o->h.get? b=KE o)(k:cO (cF prog w) h0 x a):cO (cF prog w) h x a:=by
 obtain⟨o,items,m,c,r⟩:=k;show{o,items,m,hk _ _ c,r}
end
end TupSet
namespace TupSet
open SetTable PyProof.Rows
section
variable {prog:aV}{w:bC}{A:cG}{E:aE->aK->Prop}{s:aK}
def E1 (w:bC):Bool:=!(w.params.followText "set-order")
def aaz (a:aE)
  (h:Q₁ (.ref ‹s›) { s with heap:=s.heap.push { cls:=.type "set",dict:=LX,data:=.set #[] 0 (.fresh 0 0 (E1 w)) } }) :
  lM (aY prog w) A (.call (.builtin "set.__new__") {[.type "set",a],[]}) (wants Q₁ E) s:=by
 show codeAny_of_tree ?_;change aM _ A.in1 (do checkBuiltinCall "set.__new__" {[.type "set",a],[]};again (.builtin "set.__new__" {[.type "set",a],[]})) _ _ s
 show aA (rJ (F.newCall_set_1 a) (wpAny_pure {plainId_quiet F.plain_set_new _,kG F.entry_set_new ?_}));rw[lA F.plain_set_new _];unfold iP.«set.__new__» Builtin.Frozenset.newClass;have b:=sub_set_self;obtain⟨c,g,d,e,os⟩:_:=s;dsimp only
 wp_walk
 show lB (wpAny_pure ?_);dsimp only;simp only[newObj];show aA (wpAny_alloc (wpAny_pure ?_));show wpAny_pure h
end
end TupSet
namespace TupSet
open SetTable PyProof.Rows
def Rise (t:eX):Prop:=t.place.toList.Pairwise (· < ·)
theorem R9 (next:Nat->Nat):∀(f k:Nat)(left:List d) (out:Array d),left.length<=f->(sV next f k left out).toList.Perm (out.toList++left)
 |0,k,left,out,h=>by
  have:left=[]:=List.eq_nil_of_length_eq_zero ();subst this;unfold sV;simp
 |f+1,k,left,out,h=>by
  unfold sV
  match b:left[next k % left.length]? with
  |none=>
   have:left=[]:=by
    cases left with
    |nil=>rfl
    |cons a l=>
     rw[List.getElem?_eq_none_iff]at b;show MI (kI (next k) (show 0 < (a::l).length by simp)) ()
   subst this;simp
  |some x=>
   dsimp only;obtain⟨c,g⟩:=bJ.mp b;have i:(left.eraseIdx (next k % left.length)).length<=f:=by
    rw[List.length_eraseIdx_of_lt c];lia
   show(R9 next f (k+1) _ _ i).trans ?_
   rw[Array.toList_push,dD];show List.Perm.append_left _ ?_;have e:left=left.take (next k % left.length)++x::left.drop (next k % left.length+1):=by
    rw[<-g,<-dZ c,jB]
   rw[List.eraseIdx_eq_take_drop_succ];show((List.perm_middle (l₁:=left.take (next k % left.length))).symm.trans (List.Perm.of_eq e.symm))
def Xw {a:Type}(next:Nat->Nat)(xs:Array a):(sW next xs).toList.Perm xs.toList:=by
 have:=R9 next xs.size 0 xs.toList #[] ∅
 simpa[sW]using this
end TupSet
namespace TupSet
open SetTable PyProof.Rows
def jr:Slot "set_iterator" "__next__" "set_iterator.__next__":=
 .of (owner:="set_iterator") (n:="__next__") (by rw[typeLookup_type,builtinLookup_eq_fast];kernel_rfl) ⋯ ⋯ ⋯
  (by first | show .inl ⋯ | show .inr ⋯) (by rw[rM];kernel_rfl)
def Al:entryFor table "set_iterator.__next__"=KE iP.«set_iterator.__next__»:=entryFor_of_tree (by kernel_rfl)
def Az (a:aE):argsOk "set_iterator.__next__" {[a],[]}:=by
 unfold argsOk;rw[signature?_of (id:="set_iterator.__next__") (n:=['_','_','t','x','e','n','_','_']) (o:=['r','o','t','a','r','e','t','i','_','t','e','s']) (rows:=Manifest.sig_set_iterator) (by kernel_rfl) (by kernel_rfl)];kernel_rfl
def Lq:entryFor table "set.__iter__"=KE iP.«frozenset.__iter__»:=
 entryFor_alias (id':="frozenset.__iter__") (by kernel_rfl) rfl ⋯ (by kernel_rfl)
def ig (w:bC)(S:MA)(ep:Nat)(a:Array (Int×aE)):List aE:=
 if w.params.followText "set-order" then (sW (w.params.setOrder S ep) a).toList.map (·.2)else a.toList.map (·.2)
def E2 (w:bC)(S:MA)(ep:Nat)(a:Array (Int×aE)):(ig w S ep a).Perm (a.toList.map (·.2)):=by
 unfold ig
 split
 ·show(Xw _ _).map _
 ·show mO _
def sr (w:bC)(S:MA)(ep:Nat)(a:Array (Int×aE)):(ig w S ep a).length=a.size:=by
 rw[(E2 w S ep a).length_eq];simp
def IsSetIter (w:bC)(h:MB)(I S:MA)(i:Nat)(n ep:Nat)(t:eX):Prop:=
 ∃(slot:Nat)(o:Obj),h.get? I=KE o/\o.cls=.type "set_iterator"/\o.data=.fields #[.int slot 0,.int i 0,.ref S,.int n 0,.int ep 0]/\(w.params.followText "set-order"=LZ->below t.place slot=i)
section
variable {prog:aV}{w:bC}{A:cG}{E:aE->aK->Prop}{s:aK}
def A0 {a:Type}{M:Model}{c:Bool}{m b:Sem a}{Q:a->aK->Prop}(d:c=LZ)(h:aM M A b Q E s):aM M A (if c=LY then m else b) Q E s:=by
 subst d;show h
def IsSetIter.typeIs {I S:MA}{i n ep:Nat}{t:eX}(x:IsSetIter w s.heap I S i n ep t):s.TypeIs (.ref I) "set_iterator":=
 let ⟨_,o,a,b,_⟩:=x;#v[o,a,b]
structure su (w:bC)(o:Obj)(es:Array (Int×aE))(ep:Nat)(t:eX):Prop where
 ex:o.ExactSet
 data:o.data=.set es ep t
 small:Um t es.size
 n3:es.size<=3
 rise:Rise t
 led:w.params.followText "set-order"=LZ->t.led=LY
end
end TupSet
namespace TupSet
open SetTable PyProof.Rows PySem.W
def A1:Slot "set_iterator" "__iter__" "set_iterator.__iter__":=
 .of (owner:="set_iterator") (n:="__iter__") (by rw[typeLookup_type,builtinLookup_eq_fast];kernel_rfl) ⋯ ⋯ ⋯
  (by first | show .inl ⋯ | show .inr ⋯) (by rw[rM];kernel_rfl)
def Lr (a:aE):argsOk "set_iterator.__iter__" {[a],[]}:=by
 unfold argsOk;rw[signature?_of (id:="set_iterator.__iter__") (n:=['_','_','r','e','t','i','_','_']) (o:=['r','o','t','a','r','e','t','i','_','t','e','s']) (rows:=Manifest.sig_set_iterator) (by kernel_rfl) (by kernel_rfl)];kernel_rfl
def Jw:entryFor table "set_iterator.__iter__"=KE iP.«dict_keyiterator.__iter__»:=
 entryFor_alias (id':="dict_keyiterator.__iter__") (by kernel_rfl) rfl ⋯ (by kernel_rfl)
section
variable {prog:aV}{w:bC}{A:cG}{E:aE->aK->Prop}{s:aK}
def aba (a:s.TypeIs (.ref r) "set")(h:Q LZ s):aM (aY prog w) A (Builtin.List.listLengthHint (.ref r)) Q E s:=by
 unfold Builtin.List.listLengthHint;show aA (jA a PySem.F.slot_set_len.lookup ?_);generalize e:("set.__len__":String)=c
 wp_delta
 rw[show splitId c=KE ("set","__len__")from by subst e;decide +kernel];subst e;show aA (iB (T:="set") (b:=LY) a (by rw[rM];kernel_rfl) ?_);show wpAny_ite_split (λd=>MI d (by decide)) (λ_=>?_);show wpAny_ite_split (λ_=>?_) (λd=>MI ⋯ d);show aA (mB a ?_);show wpAny_pure h
end
end TupSet
namespace TupSet
open SetTable PyProof.Rows PySem.W
def lexLt:List Int->List Int->Bool
 | [],[]=>LZ
 | [],_::_=>LY
 |_::_,[]=>LZ
 |a::c,b::bs=>if a=b then lexLt c bs else decide (a < b)
theorem E3:∀x,lexLt x x=LZ
 | []=>rfl
 |a::b=>by simp[lexLt,E3 b]
theorem A2:∀x y,lexLt x y=LZ->lexLt y x=LZ->x=y
 | [],[],_,_=>rfl
 | [],_::_,h,_=>nomatch h
 |_::_,[],_,h=>nomatch h
 |a::f,b::bs,c,d=>by
  by_cases e:a=b
  ·subst e;simp[lexLt]at c d;rw[A2 f bs c d]
  ·have g:¬b=a:=λh=>e h.symm;simp[lexLt,e,g]at c d;lia
theorem A3:∀x y z,lexLt x y=LY->lexLt y z=LY->lexLt x z=LY
 | [],[],_,h,_=>nomatch h
 | [],_::_,[],_,h=>nomatch h
 | [],_::_,_::_,_,_=>rfl
 |_::_,[],_,h,_=>nomatch h
 |_::_,_::_,[],_,h=>nomatch h
 |a::i,b::bs,c::cs,d,e=>by
  by_cases g:a=b
  ·subst g;by_cases f:a=c
   ·subst f;simp[lexLt]at d e ⊢;show A3 i bs cs d e
   ·simp[lexLt,f]at d e ⊢;show e
  ·by_cases f:b=c
   ·subst f;simp[lexLt,g]at d e ⊢;show d
   ·simp[lexLt,g,f]at d e;have j:¬a=c:=();simp[lexLt,j];lia
def lex_asymm {x y:List Int}(h:lexLt x y=LY):lexLt y x=LZ:=by
 cases h':lexLt y x with
 |false=>rfl
 |true=>have:=A3 _ _ _ h h';rw[E3]at this;show nomatch this
def lexLe (x y:List Int):Prop:=lexLt y x=LZ
def Iw {x y z:List Int}(b:lexLe x y)(a:lexLe y z):lexLe x z:=by
 unfold lexLe at *;cases h:lexLt z x with
 |false=>rfl
 |true=>
  by_cases e:x=y
  ·subst e;rw[h]at a;show a
  ·have c:lexLt x y=LY:=by
    cases d:lexLt x y with
    |true=>rfl
    |false=>show MI (A2 _ _ d b) e
   have:=A3 _ _ _ h c;rw[this]at a;show nomatch a
def Ls (a:lexLe x y)(b:lexLe y x):x=y:=A2 _ _ b a
def SortedT (l:List (List Int)):Prop:=l.Pairwise lexLe
theorem Am:∀{l c},l.Perm c->SortedT l->SortedT c->l=c
 | [],c,p,_,_=>by rw[List.Perm.nil_eq p]
 |a::l,[],p,_,_=>by have:=p.length_eq;simp at this
 |a::l,b::c,p,s,s'=>by
  have s1:=iD.mp s;have KM:=iD.mp s';have d:a=b:=by
   have ha:a∈b::c:=p.mem_iff.mp aN;have hb:b∈a::l:=p.mem_iff.mpr aN;rcases aU.mp ha with e | ha
   ·show e
   ·rcases aU.mp hb with e | hb
    ·show e.symm
    ·show Ls (s1.1 b hb) (KM.1 a ha)
  subst d;rw[Am (List.Perm.cons_inv p) s1.2 KM.2]
def Gq (x:List Int):List (List Int)->List (List Int)
 | []=>[x]
 |y::l=>if lexLt y x=LY then y::Gq x l else x::y::l
def isort:List (List Int)->List (List Int)
 | []=>[]
 |x::l=>Gq x (isort l)
theorem A4 (x:List Int):∀l,(Gq x l).Perm (x::l)
 | []=>mO _
 |y::l=>by
  unfold Gq
  split
  ·show((A4 x l).cons y).trans (List.Perm.swap _ _ _)
  ·show mO _
theorem isort_perm:∀l,(isort l).Perm l
 | []=>mO _
 |x::l=>(A4 x _).trans ((isort_perm l).cons x)
theorem C9 (x:List Int):∀l,SortedT l->SortedT (Gq x l)
 | [],_=>mS _ _
 |y::l,s=>by
  have s1:=iD.mp s;unfold Gq
  split
  ·rename_i h
   show iD.mpr {λz hz=>?_,C9 x l s1.2};rcases aU.mp ((A4 x l).mem_iff.mp hz)with e | hz
   ·subst e;show lex_asymm h
   ·show s1.1 z hz
  ·rename_i h
   have a:lexLe x y:=(by unfold lexLe;simpa using h);show iD.mpr {λz hz=>?_,s};rcases aU.mp hz with e | hz
   ·subst e;show a
   ·show Iw a (s1.1 z hz)
theorem pw:∀l,SortedT (isort l)
 | []=>jJ
 |x::l=>C9 x _ (pw l)
def isort_of {l a:List (List Int)}(p:a.Perm l)(s:SortedT a):a=isort l:=Am (p.trans (isort_perm l).symm) s (pw l)
def dg {b:Type}(lt:Nat->Nat->Bool):KasT b->b
 | .ret a=>a
 | .ask i j k=>dg lt (k (lt i j))
def si {a:Type}(n:Nat):KasT a->Bool
 | .ret _=>LY
 | .ask i j k=>decide (i < n) && decide (j < n) && si n (k LY) && si n (k LZ)
def Xx {a:Type}{n i j:Nat}{k:Bool->KasT a}(h:si n (.ask i j k)=LY):i < n/\j < n/\∀b,si n (k b)=LY:=by
 simp only[si,cQ,decide_eq_true_eq]at h;show{h.1.1.1,h.1.1.2,λb=>by cases b;show h.2;show h.1.2}
theorem Sa {b:Type}{n:Nat}{lt:Nat->Nat->Bool}{c:Nat->Nat->(Bool->aK->Prop)->aK->Prop}(d:∀i j C,i < n->j < n->C (lt i j) s->c i j C s){Q:b->aK->Prop}:∀(t:KasT b),si n t=LY->Q (dg lt t) s->t.kasWp c Q s
 | .ret a,_,h=>h
 | .ask i j k,e,h=>by
  have a:=Xx e;show d i j _ a.1 a.2.1 (Sa d (k (lt i j)) (a.2.2 _) h)
def ltX (xs:List (List Int))(i j:Nat):Bool:=lexLt (xs.getD i []) (xs.getD j [])
end TupSet
namespace TupSet
open SetTable PyProof.Rows PySem.W
def KeysL (prog:aV)(w:bC)(h:MB):List aE->List (List Int)->Prop
 | [],[]=>True
 |v::vs,x::xs=>(∃a,v=.ref a/\cO (cF prog w) h x a)/\KeysL prog w h vs xs
 |_,_=>False
section
variable {prog:aV}{w:bC}
theorem KeysL.length:∀{vs xs},KeysL prog w h vs xs->vs.length=xs.length
 | [],[],_=>rfl
 | [],_::_,h=>h.elim
 |_::_,[],h=>h.elim
 |_::_,_::_,h=>by simp[KeysL.length h.2]
theorem KeysL.at:∀{vs:List aE}{xs:List (List Int)}(_:KeysL prog w h vs xs) {i:Nat},i < xs.length->∃a,vs.getD i .none=.ref a/\cO (cF prog w) h (xs.getD i []) a
 | [],[],_,i,hi=>by simp at hi
 | [],_::_,h,_,_=>h.elim
 |_::_,[],h,_,_=>h.elim
 |v::vs,x::xs,h,0,_=>by simpa using h.1
 |v::vs,x::xs,h,i+1,hi=>by simpa using KeysL.at h.2 (i:=i) (by simpa using hi)
theorem KeysL.imp (k:∀x a,cO (cF prog w) h x a->cO (cF prog w) h' x a):∀{vs:List aE}{xs:List (List Int)}(_:KeysL prog w h vs xs),KeysL prog w h' vs xs
 | [],[],_=>trivial
 | [],_::_,h=>h.elim
 |_::_,[],h=>h.elim
 |v::vs,x::xs,h=>{h.1.elim λa b=>{a,b.1,k _ _ b.2},KeysL.imp k h.2}
theorem KeysL.pick (k:KeysL prog w h vs xs):∀(p:List Nat),(∀i∈p,i < xs.length)->KeysL prog w h (p.map λi=>vs.getD i .none) (p.map λi=>xs.getD i [])
 | [],_=>trivial
 |i::p,a=>{k.at (a i aN),KeysL.pick k p λj b=>a j (aI _ b)}
def KeysL.perm (p:a.Perm vs):∀{xs},KeysL prog w h vs xs->∃ys,ys.Perm xs/\KeysL prog w h a ys:=by
 induction p with
 |nil=>intro xs k;show{xs,mO _,k}
 |cons v p c=>
  intro xs k
  match xs,k with
  | [],k=>show k.elim
  |x::xs,k=>
   obtain⟨ys,b,d⟩:_:=c k.2;show{x::ys,b.cons x,k.1,d}
 |swap u v l=>
  intro xs k
  match xs,k with
  | [],k=>show k.elim
  | [x],k=>show k.2.elim
  |x::y::xs,k=>show{y::x::xs,List.Perm.swap _ _ _,k.2.1,k.1,k.2.2}
 |trans p q e f=>
  intro xs k;obtain⟨ys,b,g⟩:_:=f k;obtain⟨i,hz,j⟩:_:=e g;show{i,hz.trans b,j}
theorem EntsOf.keys:∀{a xs},EntsOf prog w h a xs->KeysL prog w h (a.map (·.2)) xs
 | [],[],_=>trivial
 | [],_::_,h=>h.elim
 |_::_,[],h=>h.elim
 |_::_,_::_,h=>{h.1.2,EntsOf.keys h.2}
theorem KeysL.firsts:∀{vs xs},KeysL prog w h vs xs->(∀x∈xs,x≠[])->∃fs,KatTups h vs fs/\fs.length=vs.length/\∀v∈fs,∃k t,v=jN k t
 | [],[],_,_=>{[],trivial,rfl,by simp}
 | [],_::_,h,_=>h.elim
 |_::_,[],h,_=>h.elim
 |v::vs,x::xs,k,c=>by
  obtain⟨⟨a,rfl,o,items,n,d,e,hd,hi⟩,g⟩:_:=k;obtain⟨fs,i,j,m⟩:_:=KeysL.firsts g λy p=>c y (aI _ p);have b:=c x aN;obtain⟨l⟩:_:=items;dsimp only at hi
  match x,l,hi,b with
  | [],_,_,b=>show MI rfl b
  |k0::ks,f::r,hi,_=>
   show{f::fs,KatTups.cons d e hd rfl i,by simp[j],λv hv=>?_};rcases aU.mp hv with rfl | hv
   ·show items_int hi v aN
   ·show m v hv
variable {A:cG}{E:aE->aK->Prop}{s:aK}
theorem Xy:∀{x y:List Int}{vs us:List aE}(_:ItemsAre (cF prog w) x vs) (_:ItemsAre (cF prog w) y us) (fin:Bool) (i:Nat),fin=decide (vs.length < us.length)->Q (lexLt x y) s->
  KatLex prog w A b fin Q (vs.zip us) i s
 | [],[],_,_,.nil,.nil,fin,i,a,h=>by
  rw[a];show kat_nil h
 | [],_::_,_,_,.nil,.cons _ _,fin,i,a,h=>by
  rw[a];show kat_nil (by simpa[lexLt]using h)
 |_::_,[],_,_,.cons _ _,.nil,fin,i,a,h=>by
  rw[a];show kat_nil (by simpa[lexLt]using h)
 |p::x,q::y,v::vs,u::us,.cons c f,.cons d g,fin,i,a,h=>by
  show kat_cons ((cF prog w).eqBool c d ?_);by_cases e:p=q
  ·rw[MH e];show kat_yes (Xy f g fin (i+1) (by rw[a];simp) ?_);simpa[lexLt,e]using h
  ·rw[MG e];show kat_no ?_;obtain⟨j,rfl⟩:_:=Ds c;obtain⟨l,rfl⟩:_:=Ds d;have h':Q (decide (p < q)) s:=(by simpa[lexLt,e]using h);cases(b && i == 0)with
   |true=>show oneLt_int h'
   |false=>show kat_one _ _ (P.lt_int (by show h'))
def aki {b:Bool}{x y:List Int}{Q:Bool->aK->Prop}(e:cO (cF prog w) s.heap x a)(f:cO (cF prog w) s.heap y c)(h:Q (lexLt x y) s) :
  aM (aY prog w) A (keyLt' (tuples' b) (.ref a) (.ref c)) Q E s:=by
 obtain⟨o,items,n,g,_,hd,hi⟩:=e;obtain⟨m,d,p,i,_,j,l⟩:=f;show kat_lt g hd i j (Xy hi l _ 0 ∅ h)
def Uq (x:cO (cF prog w) h ks a)(g:h.get? d=KE (fB "list" vs n))(hs:∀b o,b≠d->h.get? b=KE o->h'.get? b=KE o) :
  cO (cF prog w) h' ks a:=by
 obtain⟨c,items,m,e,f,i,hi⟩:_:=x;have j:a≠d:=by
  rintro rfl;obtain rfl:c=fB "list" vs n:=bX (e.symm.trans g);simp[fB]at f
 show{c,items,m,hs a _ j e,f,i,hi}
end
end TupSet
end PySem
namespace L2
open PySem PySem.Spec PyProof.Rows PySem.TupSet
section
variable {P:aV}{w:bC}{H H':Hp}{h h':MB}{a:MA}{o:HO}{fs ex:List MA}
def ObjOk.has (x:ObjOk P w H h a o):∃b,h.get? a=KE b:=by
 cases o with
 |lst xs=>obtain⟨_,_,_,_,e⟩:=x;show{_,e}
 |tup xs=>obtain⟨_,_,_,b,e,_⟩:=x;show{_,e}
 |dK kvs=>obtain⟨_,_,_,_,o,_,_,e,_⟩:=x;show{_,e}
 |dT kvs=>obtain⟨_,_,_,_,o,_,_,e,_⟩:=x;show{_,e}
 |set S n=>obtain⟨o,_,_,_,e,_⟩:=x;show{_,e}
 |ins C c fs=>obtain⟨_,_,_,e,_⟩:=x;show{_,e}
 |own y=>obtain⟨_,e⟩:=x;show{_,e}
 |xd fs=>obtain⟨_,⟨_,_,_,e,_⟩,_⟩:=x;show{_,e}
 |rng lo hi=>obtain⟨_,_,_,e⟩:=x;show{_,e}
 |frz b u=>obtain⟨e,_⟩:=x;show{_,e}
 |tbl ps=>show{_,show h.get? a=KE _ from x}
 |met f y=>show{_,show h.get? a=KE _ from x}
 |ext d=>obtain⟨_,⟨_,e⟩,_⟩:=x;show{_,e}
def HOk.none_at (x:HOk P w H h)(e:h.get? a=LX):H a=LX:=by
 cases q:H a with
 |none=>rfl
 |some u=>
  obtain⟨b,z⟩:=(x a u q).has;rw[e]at z;cases z
def HOk.laidN (x:HOk P w H h)(k:∀b u,h.get? b=KE u->h'.get? b=KE u)(g:h.get? a=LX)(new:ObjOk P w (upd H a o) h' a o):HOk P w (upd H a o) h':=λb u e=>by
 have d:=x.none_at g;by_cases f:b=a
 ·subst f;rw[bo]at e;cases e;show new
 ·rw[ay f]at e;show(x b u e).stay (λc v _ q=>k c v q) (λc q=>by rw[ay (cf q d)];show q) λc xs q=>by rw[ay (cf q d)];show q
def Un.laidN (k:∀b u,h.get? b=KE u->h'.get? b=KE u)(hp:h.get? a=LX)(hn:H a=LX):Un fs ex H (upd H a o) h h' where
 keep:=λb u q _ _ _=>k b u q
 slot:=λb u q _ _ _=>{u.slots,k b u q}
 free:=λb u q n _=>by rw[ay (λz=>by rw[z,hp]at q;cases q)];show n
 there:=λb u q _=>{u,k b u q}
 tups:=λb xs q=>by rw[ay (cf q hn)];show q
 frzs:=λb u xs q=>by rw[ay (cf q hn)];show q
 tbls:=λb ps q=>{#[],by rw[ay (cf q hn),q];simp}
end
theorem Inv.laidN {X:Cx}{d:List (MA×Obj)}{e:List (Option V)}{H:Hp}{s:aK}{h':MB}{a:MA}{o:HO}{t':Nat}(I:Inv X d e H s)(k:∀b u,s.heap.get? b=KE u->h'.get? b=KE u)(c:s.heap.get? a=LX)(new:ObjOk X.prog X.w (upd H a o) h' a o) :
  Inv X d e (upd H a o) { s with heap:=h',toks:=t' }:=I.un (Un.laidN k c (I.hok.none_at c)) (I.hok.laidN k c new)
def TupsV (K:aF)(H:Hp)(ys:List V)(L:List (List Int)):Prop:=Paired (λy x=>∃a,y=.ref a/\SqT K H a (x.map V.int)) ys L
theorem Lu:∀{x its},Vals (x.map V.int) its->PySem.ItemsAre (cF prog w) x its
 | [],_,.nil=>.nil
 |k::x,_,.cons r t=>by
  obtain⟨a,rfl⟩:=r;show .cons (by change fW k (.int k a)=LY;simp[fW]) (Lu t)
section
variable {X:Cx}{uS:List (MA×Obj)}{σ:St}{H:Hp}{s:aK}
def Inv.tkey (I:Inv X uS σ H s)(h:SqT X.K H a (x.map V.int)):cO (cF X.prog X.w) s.heap x a:=by
 obtain⟨its,r,⟨o,b,c,n,hd⟩,_⟩:=I.tuple h;show{o,its.toArray,n,b,c,hd,by simpa using Lu r}
open Classical in
noncomputable def vi (K:aF)(H:Hp)(h:MB):MB:=PySem.W.hideAll h ((bG h.objs.size).filter λa=>!decide (∃x:List Int,SqT K H a (x.map V.int)))
def Gr {K:aF}{h:MB}{b:MA}{o:Obj}(e:(vi K H h).get? b=KE o):h.get? b=KE o/\∃x:List Int,SqT K H b (x.map V.int):=by
 have c:=PySem.W.of_hideAll _ e;show{c,Classical.byContradiction λn=>?_};have d:b∈(bG h.objs.size).filter λa=>!@decide (∃x:List Int,SqT K H a (x.map V.int)) (Classical.propDecidable _):=List.mem_filter.mpr {dN.mpr (aX c),by simp[n]};have z:(vi K H h).get? b=LX:=PySem.W.hideAll_none _ d;rw[z]at e;cases e
def abb {K:aF}{h:MB}{b:MA}{o:Obj}{x:List Int}(e:h.get? b=KE o)(k:SqT K H b (x.map V.int)):(vi K H h).get? b=KE o:=by
 show PySem.W.hideAll_get _ e λa=>?_;have q:=(iI.mp a).2;have:∃x:List Int,SqT K H b (x.map V.int):=#v[x,k];simp[this]at q
def Inv.tupK (I:Inv X uS σ H s){a:MA}{x:List Int}(h:SqT X.K H a (x.map V.int)):cO (cF X.prog X.w) (vi X.K H s.heap) x a:=by
 obtain⟨o,its,n,b,r⟩:=I.tkey h;show{o,its,n,abb b h,r}
def Inv.ofTupK (I:Inv X uS σ H s){x:List Int}(h:cO (cF X.prog X.w) (vi X.K H s.heap) x a):SqT X.K H a (x.map V.int):=by
 obtain⟨o,its,n,c,r⟩:=h;obtain⟨d,y,b⟩:=Gr c;have e:x=y:=IsTupleKey.inj (knd:=cF X.prog X.w) #v[o,its,n,d,r] (I.tkey b);subst e;show b
theorem Inv.ofKeysL (I:Inv X uS σ H s):∀{vs:List aE}{xs:List (List Int)},KeysL X.prog X.w (vi X.K H s.heap) vs xs->∃ys,Vals ys vs/\TupsV X.K H ys xs
 | [],[],_=>{[],.nil,.nil}
 | [],_::_,h=>h.elim
 |_::_,[],h=>h.elim
 |v::vs,x::xs,h=>by
  obtain⟨⟨a,rfl,k⟩,b⟩:=h;obtain⟨ys,c,d⟩:=I.ofKeysL b;show{.ref a::ys,.cons rfl c,.cons {a,rfl,I.ofTupK k} d}
theorem TupsV.get {K:aF}:∀{ys:List V}{L:List (List Int)}{its:List aE},TupsV K H ys L->Vals ys its->∀(i:Nat)(v:aE),its[i]?=KE v->∃a x,v=.ref a/\L[i]?=KE x/\SqT K H a (x.map V.int)
 |_,_,_,.nil,.nil,i,v,e=>by simp at e
 |_,_,_,.cons (b:=x) p q,.cons r t,0,v,e=>by
  obtain⟨a,rfl,k⟩:=p;cases r;simp at e;show#v[a,x,e.symm,rfl,k]
 |_,_,_,.cons p q,.cons r t,i+1,v,e=>by
  obtain⟨a,x,c,d,f⟩:=TupsV.get q t i v (by simpa using e);show{a,x,c,by simpa using d,f}
end
end L2
namespace PySem
namespace TupSet
open SetTable
def j3 (m:Nat)(p:Probe):Probe:=
 if p.more > 0 then { p with j:=p.j+1,more:=p.more - 1 }else
 { p with j:=(leap m p.i p.perturb).1,more:=runEnd m (leap m p.i p.perturb).1 - (leap m p.i p.perturb).1,i:=(leap m p.i p.perturb).1,perturb:=(leap m p.i p.perturb).2 }
def Xz (t:eX)(p:Probe):t.advance p=j3 t.mask p:=rfl
def sv (m:Nat)(h:Int):Probe:={ j:=bits h % (m+1),more:=runEnd m (bits h % (m+1)) - bits h % (m+1),i:=bits h % (m+1),perturb:=bits h,dummy:=LX }
def X0 (m:Nat)(p:Probe):(j3 m p).dummy=p.dummy:=by unfold j3;split<;>rfl
def ComesM (m a:Nat):Nat->Probe->Prop
 |0,p=>p.j=a
 |k+1,p=>p.j=a\/ComesM m a k (j3 m p)
theorem ComesM.mono:∀{k n p},ComesM m a k p->k<=n->ComesM m a n p
 |0,0,_,h,_=>h
 |0,n+1,_,h,_=>.inl h
 |k+1,0,_,_,h=>MI h ()
 |k+1,n+1,_,.inl h,_=>.inl h
 |k+1,n+1,_,.inr h,b=>.inr (ComesM.mono h ())
def gv (m j:Nat):Nat->Nat->Bool
 |0,i=>i == j
 |l+1,i=>i == j || gv m j l ((i * 5+1) % (m+1))
def it (m:Nat):Nat->Nat->Nat
 |0,i=>i
 |k+1,i=>it m k ((i * 5+1) % (m+1))
theorem E4 (m:Nat):∀a b i,it m (a+b) i=it m b (it m a i)
 |0,b,i=>by rw[fH];rfl
 |a+1,b,i=>by rw[show a+1+b=(a+b)+1 by lia];show E4 m a b _
theorem xg:∀{k l i},it m k i=j->k<=l->gv m j l i=LY
 |0,0,i,h,_=>by have:i=j:=h;simp[gv,this]
 |0,l+1,i,h,_=>by have:i=j:=h;simp[gv,this]
 |k+1,0,i,_,h=>MI h ()
 |k+1,l+1,i,h,a=>by unfold gv;rw[xg (k:=k) h (),Bool.or_true]
theorem Dc:∀{l i},gv m j l i=LY->∃k,k<=l/\it m k i=j
 |0,i,h=>{0,aJ _,by change i=j;simpa[gv]using h}
 |l+1,i,h=>by
  unfold gv at h;rw[lQ]at h;rcases h with h | h
  ·show{0,cT _,by change i=j;simpa using h}
  ·obtain⟨k,hk,e⟩:=Dc h;show{k+1,(),e}
def Lv (m:Nat):Bool:=(bG (m+1)).all (λj=>gv m j m 0) && it m (m+1) 0 == 0
def orb7:Lv 7=LY:=by decide +kernel
def orb31:Lv 31=LY:=by decide +kernel
def akj:Lv 127=LY:=by decide +kernel
def M3 (m:Nat):Prop:=m=7\/m=31\/m=127
def agk (a:M3 m):(∀j,j<=m->∃k,k<=m/\it m k 0=j)/\it m (m+1) 0=0:=by
 have h:Lv m=LY:=by
  rcases a with rfl | rfl | rfl
  ·show orb7
  ·show orb31
  ·show akj
 unfold Lv at h;rw[cQ]at h;show{λj b=>Dc (lC.mp h.1 j (dN.mpr ())),by simpa using h.2}
def Iy (f:M3 m)(hi:i<=m)(g:j<=m):gv m j m i=LY:=by
 obtain⟨o,c⟩:=agk f;obtain⟨a,l,d⟩:=o i hi;obtain⟨b,n,e⟩:=o j g;by_cases h:a<=b
 ·show xg (k:=b - a) ?_ ();rw[<-d,<-E4,show a+(b - a)=b by lia];show e
 ·show xg (k:=b+(m+1) - a) ?_ ();rw[<-d,<-E4,show a+(b+(m+1) - a)=(m+1)+b by lia,E4,c];show e
def Head (m:Nat)(p:Probe):Prop:=p.j=p.i/\p.i<=m/\p.more=runEnd m p.i - p.i
def Head.start (m:Nat)(h:Int):Head m (sv m h):=⟨rfl,by change bits h % (m+1)<=m;have:=kI (bits h) (show 0 < m+1 by lia);lia,rfl⟩
def wm (m:Nat)(p:Probe):Probe:={ p with j:=(leap m p.i p.perturb).1,more:=runEnd m (leap m p.i p.perturb).1 - (leap m p.i p.perturb).1,i:=(leap m p.i p.perturb).1,perturb:=(leap m p.i p.perturb).2 }
def Head.next (p:Probe):Head m (wm m p):=⟨rfl,by change(leap m p.i p.perturb).1<=m;unfold leap;have:=kI (p.i * 5+1+p.perturb / 32) (show 0 < m+1 by lia);dsimp only;lia,rfl⟩
theorem Dt:∀c p,p.more=c->∀k,ComesM m a k (wm m p)->ComesM m a (k+(c+1)) p
 |0,p,b,k,h=>by
  show .inr ?_;have e:j3 m p=wm m p:=(by unfold j3;rw[MF ()];rfl);rw[e];show h
 |c+1,p,b,k,h=>by
  have e:j3 m p={ p with j:=p.j+1,more:=p.more - 1 }:=(by unfold j3;rw[ME ()]);show .inr ?_;rw[e];show Dt c { p with j:=p.j+1,more:=p.more - 1 } (by change p.more - 1=c;lia) k h
def A5 (m i:Nat):runEnd m i - i<=9:=by unfold runEnd;split<;>lia
theorem Dd:∀l p,Head m p->p.perturb=0->gv m a l p.i=LY->ComesM m a (10 * l) p
 |0,p,H,h0,h=>by
  change p.j=a;rw[H.1];simpa[gv]using h
 |l+1,p,H,h0,h=>by
  by_cases e:p.i=a
  ·show ComesM.mono (show ComesM m a 0 p from H.1.trans e) ()
  ·have h':gv m a l ((p.i * 5+1) % (m+1))=LY:=by
    unfold gv at h;rw[lQ]at h;rcases h with h | h
    ·show MI (by simpa using h) e
    ·show h
   have b:(leap m p.i p.perturb)=((p.i * 5+1) % (m+1),0):=(by unfold leap;rw[h0]);have x:=Dd l (wm m p) (Head.next p) (by change(leap m p.i p.perturb).2=0;rw[b]) (by change gv m a l (leap m p.i p.perturb).1=LY;rw[b];show h')
   show ComesM.mono (Dt p.more p rfl _ x) (by rw[H.2.2];have:=A5 m p.i;lia)
theorem E5 (c:M3 m)(d:a<=m):∀k p,Head m p->p.perturb < 32 ^ k->ComesM m a (10 * (k+m)) p
 |0,p,H,b=>by
  have:p.perturb=0:=(by simpa using b);rw[fH];show Dd m p H this (Iy c H.2.1 d)
 |k+1,p,H,b=>by
  have e:(wm m p).perturb < 32 ^ k:=by
   change p.perturb / 32 < 32 ^ k;rw[mE]at b;show Nat.div_lt_of_lt_mul (by rw[oG];show b)
  have x:=E5 c d k (wm m p) (Head.next p) e
  show ComesM.mono (Dt p.more p rfl _ x) (by rw[H.2.2];have:=A5 m p.i;lia)
def Sb (h:Int):bits h < 2 ^ 64:=by
 unfold bits;have a:h % (2 ^ 64:Int) < 2 ^ 64:=Int.emod_lt_of_pos _ (by decide);have b:0<=h % (2 ^ 64:Int):=Int.emod_nonneg _ (by decide);lia
def Lw (b:M3 m)(c:a<=m)(h:Int):ComesM m a (10 * (13+m)) (sv m h):=
 E5 b c 13 _ (Head.start m h) (bO (Sb h) (by decide))
def Thru (m:Nat)(ne:Nat->Prop)(j:Nat):Nat->Probe->Prop
 |0,p=>p.j=j
 |k+1,p=>p.j=j\/(ne p.j/\Thru m ne j k (j3 m p))
theorem Thru.mono (b:∀i,ne i->a i):∀{k n p},Thru m ne j k p->k<=n->Thru m a j n p
 |0,0,_,h,_=>h
 |0,n+1,_,h,_=>.inl h
 |k+1,0,_,_,h=>MI h ()
 |k+1,n+1,_,.inl h,_=>.inl h
 |k+1,n+1,_,.inr h,c=>.inr {b _ h.1,Thru.mono b h.2 ()}
end TupSet
namespace TupSet
open SetTable
def RiseA (xs:Array Nat):Prop:=xs.toList.Pairwise (· < ·)
def RiseA.lt {xs:Array Nat}(h:RiseA xs){a b v u:Nat}(c:xs[a]?=KE v)(d:xs[b]?=KE u)(e:a < b):v < u:=by
 rw[<-bR]at c d;obtain⟨f,rfl⟩:=bJ.mp c;obtain⟨g,rfl⟩:=bJ.mp d;show List.pairwise_iff_getElem.mp h a b f g e
theorem Du {xs:Array Nat}(d:RiseA xs)(j:Nat):∀(f lo hi:Nat),hi - lo<=f->lo<=hi->hi<=xs.size->(∀(a v:Nat),xs[a]?=KE v->(a < lo->v < j)/\(hi<=a->j<=v))->
  ∀(a v:Nat),xs[a]?=KE v->(a < below.go xs j f lo hi->v < j)/\(below.go xs j f lo hi<=a->j<=v)
 |0,lo,hi,n,o,i,h,a,v,e=>by
  have:hi=lo:=();subst this;show h a v e
 |f+1,lo,hi,n,o,i,h,a,v,e=>by
  unfold below.go;by_cases l:lo < hi
  ·rw[ME l];dsimp only;have p:(lo+hi) / 2 < xs.size:=();have b:xs[(lo+hi) / 2]?=KE xs[(lo+hi) / 2]:=bW p;have q:xs.getD ((lo+hi) / 2) j=xs[(lo+hi) / 2]:=(by rw[cN,b];rfl);rw[q];by_cases g:xs[(lo+hi) / 2] < j
   ·rw[ME g];show Du d j f _ _ () () i (λa v e=>{λm=>?_,(h a v e).2}) a v e;by_cases c:a=(lo+hi) / 2
    ·subst c;rw[b]at e;cases e;show g
    ·show gJ (d.lt e b ()) g
   ·rw[MF g];show Du d j f _ _ () () () (λa v e=>{(h a v e).1,λm=>?_}) a v e;by_cases c:a=(lo+hi) / 2
    ·subst c;rw[b]at e;cases e;lia
    ·have:=d.lt b e ();lia
  ·rw[MF l];show{(h a v e).1,λm=>(h a v e).2 ()}
def j4 (b:RiseA xs)(j:Nat)(e:xs[a]?=KE v):(a < below xs j->v < j)/\(below xs j<=a->j<=v):=by
 show Du b j xs.size 0 xs.size () (cT _) (aJ _) (λa v e=>{λh=>MI h (iJ _),λh=>?_}) a v e;obtain⟨c,_⟩:=fV.mp e;lia
def Dv {xs:Array Nat}(a:RiseA xs){i j:Nat}(e:xs[i]?=KE j):below xs j=i:=by
 have d:=(j4 a j e).1;by_cases c:below xs j=i
 ·show c
 ·have f:below xs j < i:=by
   by_cases h:i < below xs j
   ·show MI (d h) (fS _)
   ·omega
  obtain⟨g,_⟩:_:=fV.mp e;have b:xs[below xs j]?=KE xs[below xs j]:=bW ();have l:=a.lt b e f;have m:=(j4 a j b).2 (aJ _);omega
structure Tb (t:eX)(n:Nat):Prop where
 mask:M3 t.mask
 dum:t.dummies=#[]
 size:t.place.size=n
 plain:t.plain=LY
 rise:RiseA t.place
 inb:∀j∈t.place.toList,j<=t.mask
theorem Tb.fill (S:Tb t n):t.fill=n:=by unfold SetTable.fill;rw[S.dum,S.size];rfl
theorem Tb.fresh (led:Bool):Tb (SetTable.fresh 0 0 led) 0:={.inl rfl,rfl,rfl,rfl,.nil,λj a=>nomatch a}
theorem Tb.slot (S:Tb t n)(j:Nat):(∃i,t.place[i]?=KE j/\t.slot j=.live i)\/((∀i:Nat,t.place[i]?≠KE j)/\t.slot j=.empty):=by
 unfold SetTable.slot;dsimp only;by_cases h:t.place[below t.place j]?=KE j
 ·show .inl {below t.place j,h,by rw[ME (by simpa using h)]}
 ·show .inr {λi e=>h (by rw[Dv S.rise e];show e),?_};rw[MF (by simpa using h),MF (by rw[S.dum];simp[has])]
theorem Tb.live (S:Tb t n)(h:t.slot j=.live i):t.place[i]?=KE j/\i < n:=by
 rcases S.slot j with⟨b,e,a⟩ | ⟨_,a⟩
 ·rw[a]at h;cases h;show{e,by rw[<-S.size];show(fV.mp e).1}
 ·rw[a]at h;cases h
def Tb.liveOf (S:Tb t n)(h:t.place[i]?=KE j):t.slot j=.live i:=by
 rcases S.slot j with⟨a,e,b⟩ | ⟨h',_⟩
 ·have:a=i:=(by rw[<-Dv S.rise e,Dv S.rise h]);rw[b,this]
 ·show MI h (h' i)
def Tb.noDummy (S:Tb t n)(h:t.slot j=.dummy):False:=by
 rcases S.slot j with⟨b,e,a⟩ | ⟨_,a⟩<;>(rw[a]at h;cases h)
theorem X1:∀(m:Nat)(l:List Nat),(∀j,j < m->j∈l)->m<=l.length
 |0,l,_=>cT _
 |m+1,l,h=>by
  have a:=h m ();have:=X1 m (l.erase m) (λj b=>(List.mem_erase_of_ne ()).mpr (h j ()));rw[List.length_erase_of_mem a]at this;have:=List.length_pos_of_mem a;lia
def Tb.free {t:eX}(S:Tb t n)(b:n<=t.mask):∃j,j<=t.mask/\t.slot j=.empty:=by
 show Classical.byContradiction λa=>?_;have:=X1 (t.mask+1) t.place.toList (λj c=>?_)
 ·rw[cV,S.size]at this;lia
 ·rcases S.slot j with⟨i,e,_⟩ | ⟨_,e⟩
  ·rw[<-bR]at e;show aR e
  ·show MI {j,(),e} a
def Ne (t:eX)(j:Nat):Prop:=t.slot j≠.empty
theorem goM (S:Tb t n)(s:t.slot a=.empty):∀k f p,ComesM t.mask a k p->p.dummy=LX->k < f->
  (∃j,probe.go t hs h f p=KE (.empty j LX)/\t.slot j=.empty/\Thru t.mask (Ne t) j k p)\/
  (∃j i next c,probe.go t hs h f p=KE (.candidate j i next)/\t.slot j=.live i/\hs i=h/\next.dummy=LX/\0 < c/\c<=k/\ComesM t.mask a (k - c) next/\∀d m,Thru t.mask (Ne t) d m next->Thru t.mask (Ne t) d (m+c) p)
 |k,0,_,_,_,h=>MI h ()
 |k,f+1,p,g,hd,E=>by
  unfold probe.go
  match b:t.slot p.j with
  | .empty=>show .inl {p.j,by rw[hd],b,Thru.mono (λ_ z=>z) (show Thru t.mask (Ne t) p.j 0 p from rfl) (cT _)}
  | .dummy=>show(S.noDummy b).elim
  | .live i=>
   have u:p.j≠a:=(by rintro e;rw[e,s]at b;show nomatch b);have l:Ne t p.j:=by unfold Ne;rw[b];show λz=>nomatch z
   match k,g with
   |0,g=>show MI g u
   |k+1,g=>
    have w:ComesM t.mask a k (j3 t.mask p):=g.resolve_left u;have x:(j3 t.mask p).dummy=LX:=(by rw[X0];show hd);dsimp only;rw[Xz];by_cases o:(hs i == h)=LY
    ·rw[ME o];show .inr {p.j,i,_,1,rfl,b,by simpa using o,x,(),(),by simpa using w,λd m z=>.inr #v[l,z]}
    ·rw[MF o];rcases goM S s k f _ w x ()with⟨j,e,q,r⟩ | ⟨j,y,nx,c,e,q,r,A,G,H,C,D⟩
     ·show .inl {j,e,q,.inr #v[l,r]}
     ·show .inr ⟨j,y,nx,c+1,e,q,r,A,(),(),by rw[show k+1 - (c+1)=k - c by lia];show C,λd m z=>by
        rw[show m+(c+1)=(m+c)+1 by lia];show .inr {l,D d m z}⟩
theorem aek (S:Tb t n)(l:t.slot a=.empty):∀k f p,ComesM t.mask a k p->p.dummy=LX->k < f->k < 10 * turns t.mask->
  (qq t hs eq h f p=KE LX/\∃i,i < n/\hs i=h/\eq i=LY)\/∃j,qq t hs eq h f p=KE (KE j)/\t.slot j=.empty/\Thru t.mask (Ne t) j k p
 |k,0,_,_,_,h,_=>MI h ()
 |k,f+1,p,o,hd,z,hk=>by
  unfold qq;have q:t.probe hs h p=probe.go t hs h (10 * turns t.mask) p:=rfl;rw[q];rcases goM S (hs:=hs) (h:=h) l k (10 * turns t.mask) p o hd hk with⟨j,e,b,d⟩ | ⟨j,i,nx,c,e,b,d,r,A,C,s,u⟩
  ·rw[e];show .inr #v[j,rfl,b,d]
  ·rw[e];dsimp only;by_cases g:eq i=LY
   ·rw[ME g];show .inl {rfl,i,(S.live b).2,d,g}
   ·rw[MF g];rcases aek S l (k - c) f nx s r () ()with h | ⟨m,w,x,y⟩
    ·show .inl h
    ·show .inr ⟨m,w,x,by have:=u m _ y;rw[show k - c+c=k by lia]at this;show this⟩
def Ur (S:Tb t n)(b:n<=t.mask)(hs:Nat->Int)(eq:Nat->Bool)(h:Int) :
  (qq t hs eq h 100000 (t.probeStart h)=KE LX/\∃i,i < n/\hs i=h/\eq i=LY)\/∃j,qq t hs eq h 100000 (t.probeStart h)=KE (KE j)/\t.slot j=.empty/\Thru t.mask (Ne t) j (10 * (13+t.mask)) (t.probeStart h):=by
 obtain⟨j,c,d⟩:=S.free b;have a:t.mask<=127:=(by rcases S.mask with e | e | e<;>rw[e]<;>decide);show aek S d _ 100000 _ (Lw S.mask c h) rfl () (by unfold turns;lia)
theorem goF (S:Tb t n)(l:t.slot j=.live i)(o:hs i=h):∀k f p,Thru t.mask (Ne t) j k p->k < f->
  ∃a g next,probe.go t hs h f p=KE (.candidate a g next)/\t.slot a=.live g/\(a=j\/∃c,0 < c/\c<=k/\Thru t.mask (Ne t) j (k - c) next)
 |k,0,_,_,h=>MI h ()
 |k,f+1,p,b,y=>by
  by_cases e:p.j=j
  ·unfold probe.go;rw[e,l];dsimp only;rw[ME (by simp[o])];show{j,i,_,rfl,l,.inl rfl}
  ·match k,b with
   |0,b=>show MI b e
   |k+1,b=>
    obtain⟨u,q⟩:=b.resolve_left e;unfold probe.go
    match m:t.slot p.j with
    | .empty=>show MI m u
    | .dummy=>show(S.noDummy m).elim
    | .live r=>
     dsimp only;rw[Xz];by_cases s:(hs r == h)=LY
     ·rw[ME s];show{p.j,r,_,rfl,m,.inr {1,(),(),by simpa using q}}
     ·rw[MF s];obtain⟨a,g,nx,w,x,d⟩:=goF S l o k f _ q ();show{a,g,nx,w,x,?_};rcases d with d | ⟨c,z,A,d⟩
      ·show .inl d
      ·show .inr {c+1,(),(),by rw[show k+1 - (c+1)=k - c by lia];show d}
theorem ael (S:Tb t n)(b:t.slot j=.live i)(g:hs i=h)(l:eq i=LY):∀k f p,Thru t.mask (Ne t) j k p->k < f->k < 10 * turns t.mask->qq t hs eq h f p=KE LX
 |k,0,_,_,h,_=>MI h ()
 |k,f+1,p,o,s,hk=>by
  unfold qq;have q:t.probe hs h p=probe.go t hs h (10 * turns t.mask) p:=rfl;rw[q];obtain⟨u,r,nx,e,m,a⟩:=goF S b g k (10 * turns t.mask) p o hk;rw[e];dsimp only;by_cases d:eq r=LY
  ·rw[ME d]
  ·rw[MF d];rcases a with a | ⟨c,w,x,a⟩
   ·subst a;rw[b]at m;cases m;show MI l d
   ·show ael S b g l (k - c) f nx a () ()
end TupSet
namespace TupSet
open SetTable
def Tb.ne {t:eX}{n:Nat}(S:Tb t n)(k:Nat):Ne t k↔k∈t.place.toList:=by
 unfold Ne;rcases S.slot k with⟨i,e,a⟩ | ⟨h,a⟩
 ·rw[a];rw[<-bR]at e;show{λ_=>aR e,λ_ z=>nomatch z}
 ·rw[a];show{λz=>MI rfl z,λz=>?_};obtain⟨i,hi⟩:=gM z;rw[bR]at hi;show MI hi (h i)
def An {a:Type}(xs:Array a)(p:Nat)(x:a):(insertAt xs p x).toList=xs.toList.take p++x::xs.toList.drop p:=by
 unfold insertAt;simp;show gY ∅
def B8 {a:Type}{l:List a}{p:Nat}{x y:a}:y∈l.take p++x::l.drop p↔y=x\/y∈l:=by
 rw[cS,aU];constructor
 ·rintro(h | h | h)
  ·show .inr (oM h)
  ·show .inl h
  ·show .inr (List.mem_of_mem_drop h)
 ·rintro(h | h)
  ·show .inr (.inl h)
  ·rw[<-jB p l,cS]at h;rcases h with h | h
   ·show .inl h
   ·show .inr (.inr h)
theorem Tb.put {t:eX}{n j:Nat}(S:Tb t n)(g:t.slot j=.empty)(l:j<=t.mask) :
  Tb (t.put j).1 (n+1)/\(t.put j).2<=n/\(t.put j).1.led=t.led/\(t.put j).1.moves=t.moves/\(t.put j).1.mask=t.mask/\(t.put j).1.place.toList=t.place.toList.take (t.put j).2++j::t.place.toList.drop (t.put j).2:=by
 have hb:=Dr t.place j;have f:(t.put j).1.place.toList=t.place.toList.take (below t.place j)++j::t.place.toList.drop (below t.place j):=An _ _ _;have m:∀i:Nat,t.place[i]?≠KE j:=by
  rcases S.slot j with⟨i,e,o⟩ | ⟨h,_⟩
  ·rw[o]at g;cases g
  ·show h
 show{{S.mask,?_,?_,S.plain,?_,?_},by rw[<-S.size];show hb,rfl,rfl,rfl,f}
 ·change(if has t.dummies j then eraseAt t.dummies (below t.dummies j)else t.dummies)=#[]
  rw[S.dum,MF];simp[has]
 ·change(insertAt t.place (below t.place j) j).size=n+1;rw[Jv _ _ _ hb,S.size]
 ·unfold RiseA;rw[f];have lo:∀a∈t.place.toList.take (below t.place j),a < j:=λa c=>by
   obtain⟨i,hi⟩:=gM c;rw[List.getElem?_take]at hi
   split at hi
   ·next p=>
    rw[bR]at hi;show(j4 S.rise j hi).1 p
   ·cases hi
  have q:∀a∈t.place.toList.drop (below t.place j),j < a:=λa c=>by
   obtain⟨i,hi⟩:=gM c;rw[pP,bR]at hi;have r:=(j4 S.rise j hi).2 ();have s:a≠j:=λe=>m _ (by rw[e]at hi;show hi);lia
  have d:=S.rise;unfold RiseA at d;rw[<-jB (below t.place j) t.place.toList,List.pairwise_append]at d;show List.pairwise_append.mpr {d.1,iD.mpr #v[q,d.2.1],λa c b hb=>?_};rcases aU.mp hb with rfl | hb
  ·show lo a c
  ·show d.2.2 a c b hb
 ·intro k hk;rw[f,B8]at hk;rcases hk with rfl | hk
  ·show l
  ·show S.inb k hk
def Rc (t:eX)(H:List Int):Prop:=∀q∈t.place.toList.zip H,Thru t.mask (λk=>k∈t.place.toList) q.1 (10 * (14+t.mask)+9) (sv t.mask q.2)
def agl {a b:Type}{l:List a}{m:List b}{p:Nat}{x:a}{y:b}(h:l.length=m.length):(l.take p++x::l.drop p).zip (m.take p++y::m.drop p)=(l.zip m).take p++(x,y)::(l.zip m).drop p:=by
 rw[List.zip_append (by simp[h]),pN];simp only[List.zip_eq_zipWith,List.take_zipWith,List.drop_zipWith]
theorem Rc.put {t:eX}{n j:Nat}{H:List Int}{h:Int}(S:Tb t n)(b:H.length=n)(R:Rc t H)(c:t.slot j=.empty)(d:j<=t.mask)(e:Thru t.mask (Ne t) j (10 * (13+t.mask)) (sv t.mask h)) :
  Rc (t.put j).1 (H.take (t.put j).2++h::H.drop (t.put j).2):=by
 obtain⟨T,g,_,_,f,a⟩:=S.put c d;intro q hq;rw[f,a];rw[a,agl (by rw[cV,S.size,b]),B8]at hq;have up:∀i,i∈t.place.toList->i∈t.place.toList.take (t.put j).2++j::t.place.toList.drop (t.put j).2:=λi hi=>B8.mpr (.inr hi);rcases hq with rfl | hq
 ·show Thru.mono (λi hi=>up i ((S.ne i).mp hi)) e ()
 ·show Thru.mono up (R q hq) (aJ _)
def Rc.find (S:Tb t n)(b:H.length=n)(R:Rc t H)(hi:H[i]?=KE h)(c:eq i=LY) :
  qq t (λi=>(H[i]?).getD 0) eq h 100000 (t.probeStart h)=KE LX:=by
 have d:i < n:=(by rw[<-b];show(bJ.mp hi).1);have hsz:i < t.place.size:=(by rw[S.size];show d);have ep:t.place[i]?=KE t.place[i]:=bW hsz;have hz:(t.place[i],h)∈t.place.toList.zip H:=by
  show aR (i:=i) ?_;rw[List.getElem?_zip_eq_some];show{by rw[bR];show ep,hi}
 have a:t.mask<=127:=(by rcases S.mask with e | e | e<;>rw[e]<;>decide);show ael S (S.liveOf ep) (by change(H[i]?).getD 0=h;rw[hi];rfl) c _ 100000 _ (Thru.mono (λk hk=>(S.ne k).mpr hk) (R _ hz) (aJ _)) () (by unfold turns;lia)
def landsP (m j:Nat):Nat->Nat->Nat->Prop
 |0,i,_=>i=j
 |l+1,i,q=>i=j\/landsP m j l (leap m i q).1 (leap m i q).2
theorem landsP.mono:∀{l k i q},landsP m j l i q->l<=k->landsP m j k i q
 |0,0,_,_,h,_=>h
 |0,k+1,_,_,h,_=>.inl h
 |l+1,0,_,_,_,h=>MI h ()
 |l+1,k+1,_,_,.inl h,_=>.inl h
 |l+1,k+1,_,_,.inr h,hk=>.inr (landsP.mono h ())
theorem De:∀{l i},gv m j l i=LY->landsP m j l i 0
 |0,i,h=>by change i=j;simpa[gv]using h
 |l+1,i,h=>by
  unfold gv at h;rw[lQ]at h;rcases h with h | h
  ·show .inl (by simpa using h)
  ·show .inr ?_;have e:leap m i 0=((i * 5+1) % (m+1),0):=(by unfold leap;rfl);rw[e];show De h
theorem E6 (b:M3 m)(c:j<=m):∀k i q,i<=m->q < 32 ^ k->landsP m j (k+m) i q
 |0,i,q,hi,a=>by
  have:q=0:=(by simpa using a);subst this;rw[fH];show De (Iy b hi c)
 |k+1,i,q,hi,a=>by
  rw[show k+1+m=(k+m)+1 by lia];show .inr (E6 b c k _ _ ?_ ?_)
  ·unfold leap;have:=kI (i * 5+1+q / 32) (show 0 < m+1 by lia);dsimp only;lia
  ·change q / 32 < 32 ^ k;rw[mE]at a;show Nat.div_lt_of_lt_mul (by rw[oG];show a)
def NeO (a:Array (Option Nat))(j:Nat):Prop:=∃k,a[j]?=KE (KE k)
theorem Ly:∀k p,k<=p.more->(∀a,a < k->ne (p.j+a))->Thru m ne (p.j+k) k p
 |0,p,_,_=>rfl
 |k+1,p,hk,h=>by
  show .inr {h 0 (),?_};have e:j3 m p={ p with j:=p.j+1,more:=p.more - 1 }:=(by unfold j3;rw[ME ()]);rw[e];have:=Ly (m:=m) (ne:=ne) k { p with j:=p.j+1,more:=p.more - 1 } (by change k<=p.more - 1;lia) (λa b=>by change ne (p.j+1+a);rw[show p.j+1+a=p.j+(a+1)by lia];show h (a+1) ());change Thru m ne (p.j+(k+1)) k _;rw[show p.j+(k+1)=p.j+1+k by lia];show this
theorem Iz:∀c p,p.more=c->(∀a,a<=c->ne (p.j+a))->∀k,Thru m ne j k (wm m p)->Thru m ne j (k+(c+1)) p
 |0,p,b,h,k,x=>by
  show .inr {h 0 (),?_};have e:j3 m p=wm m p:=(by unfold j3;rw[MF ()];rfl);rw[e];show x
 |c+1,p,b,h,k,x=>by
  have e:j3 m p={ p with j:=p.j+1,more:=p.more - 1 }:=(by unfold j3;rw[ME ()]);show .inr {h 0 (),?_};rw[e];show Iz c { p with j:=p.j+1,more:=p.more - 1 } (by change p.more - 1=c;lia) (λa d=>by change ne (p.j+1+a);rw[show p.j+1+a=p.j+(a+1)by lia];show h (a+1) ()) k x
def Ut (m i q:Nat):Probe:={ j:=i,more:=runEnd m i - i,i:=i,perturb:=q,dummy:=LX }
def A6 (m i:Nat):i<=runEnd m i:=by unfold runEnd;split<;>lia
def A7 (hi:i<=m):runEnd m i<=m:=by unfold runEnd;split<;>omega
theorem Sd (sz:b.size=m+1)(r:b[c]?=KE LX):∀l i q,i<=m->landsP m c l i q->
  ∃j,layClean.free m b (l+1) i q=KE j/\b[j]?=KE LX/\Thru m (NeO b) j (10 * l+9) (Ut m i q)
 |l,i,q,hi,d=>by
  have J:=A6 m i;have le:=A7 hi;have L:=A5 m i;have s:∀a,i+a<=runEnd m i->¬(b.getD (i+a) (KE 0)).isNone=LY->NeO b (i+a):=λa n f=>by
   have e:b[i+a]?=KE (b[i+a]'()):=bW ();rw[cN,e]at f;cases h:b[i+a]'()with
   |none=>rw[h]at f;show MI rfl f
   |some k=>show{k,by rw[e,h]}
  unfold layClean.free;cases g:(bG (runEnd m i+1 - i)).find? (λk=>(b.getD (i+k) (KE 0)).isNone)with
  |some k=>
   dsimp only;have hk:=List.find?_some g;have y:=List.mem_of_find?_eq_some g;have A:k < runEnd m i+1 - i:=dN.mp y;obtain⟨_,u,bs,eq,C⟩:=List.find?_eq_some_iff_append.mp g;show{i+k,rfl,?_,?_}
   ·have e:b[i+k]?=KE (b[i+k]'()):=bW ();rw[cN,e]at hk;cases h:b[i+k]'()with
    |none=>rw[e,h]
    |some z=>rw[h]at hk;cases hk
   ·show Thru.mono (λ_ z=>z) (Ly k (Ut m i q) (by change k<=runEnd m i - i;lia) (λa n=>?_)) ();show s a () (λz=>?_);have o:a∈u:=by
     have:(bG (runEnd m i+1 - i))[a]?=KE a:=cB ();have p:(bG (runEnd m i+1 - i))[u.length]?=KE k:=(by rw[eq];simp);rw[cB (by have:=(bJ.mp p).1;simpa using this)]at p;cases p;rw[eq,bT n]at this;show aR this
    have:=C a o;rw[z]at this;cases this
  |none=>
   dsimp only;have f:=List.find?_eq_none.mp g;have w:∀a,a<=runEnd m i - i->NeO b (i+a):=λa n=>s a () (f a (dN.mpr ()));have x:i≠c:=λe=>by
    obtain⟨k,hk⟩:=w 0 ();rw[Nat.add_zero,e,r]at hk;cases hk
   match l,d with
   |0,d=>show MI d x
   |l+1,d=>
    have D:=d.resolve_left x;have E:(leap m i q).1<=m:=(by unfold leap;have:=kI (i * 5+1+q / 32) (show 0 < m+1 by lia);dsimp only;lia);obtain⟨j,G,H,I⟩:=Sd sz r l _ _ E D;show{j,G,H,?_};show Thru.mono (λ_ z=>z) (Iz (runEnd m i - i) (Ut m i q) rfl w _ I) ()
end TupSet
namespace TupSet
open SetTable
theorem Se:∀(l:List (Option Nat)),(l.filterMap id).length < l.length->LX∈l
 | [],h=>MI h (fS _)
 |none::l,_=>aN
 |some a::l,h=>aI _ (Se l (by simpa using h))
theorem Dw {k:Nat}:∀(l:List (Option Nat))(j:Nat),l[j]?=KE LX->((l.set j (KE k)).filterMap id).Perm (k::l.filterMap id)
 | [],j,h=>by simp at h
 |a::l,0,h=>by
  have:a=LX:=(by simpa using h);subst this;show .refl _
 |none::l,j+1,h=>by
  have:=Dw (k:=k) l j (by simpa using h);simpa using this
 |some a::l,j+1,h=>by
  have:=Dw (k:=k) l j (by simpa using h);simp only[iE,fZ,id];show(this.cons a).trans (.swap _ _ _)
structure OwI (m:Nat)(ow:Array (Option Nat))(k:Nat)(hs:List Int):Prop where
 sz:ow.size=m+1
 perm:(ow.toList.filterMap id).Perm (bG k)
 thru:∀j k',ow[j]?=KE (KE k')->∃h,hs[k']?=KE h/\Thru m (NeO ow) j (10 * (14+m)+9) (sv m h)
def x8 (m:Nat)(a:Option (Array (Option Nat)×Nat))(h:Int):Option (Array (Option Nat)×Nat):=do
 let (owner,k) <-a
 let j <-layClean.free m owner (turns m) (bits h % (m+1)) (bits h)
 pure (owner.setIfInBounds j (KE k),k+1)
def O7 (m:Nat)(hs:Array Int):layClean m hs=(hs.toList.foldl (x8 m) (KE (rA (m+1) LX,0))).map (·.1):=by
 unfold layClean;rw[<-Array.foldl_toList];rfl
def OwI.step {m k:Nat}{f:Array (Option Nat)}{hs:List Int}{h:Int}(u:M3 m)(O:OwI m f k hs)(hk:k<=m)(w:hs[k]?=KE h):∃q,x8 m (KE (f,k)) h=KE (q,k+1)/\OwI m q (k+1) hs:=by
 have x:(f.toList.filterMap id).length=k:=(by rw[O.perm.length_eq,bS]);obtain⟨g,l⟩:=gM (Se f.toList (by rw[x,cV,O.sz];lia));rw[bR]at l;have d:g<=m:=(by have:=(fV.mp l).1;rw[O.sz]at this;lia);have r:bits h % (m+1)<=m:=(by have:=kI (bits h) (show 0 < m+1 by lia);lia);obtain⟨j,y,n,A⟩:=Sd O.sz l (14+m) _ (bits h) r ((E6 u d 13 _ _ r (bO (Sb h) (by decide))).mono ());have C:turns m=14+m+1:=(by unfold turns;lia);have o:j < f.size:=(fV.mp n).1;have up:∀i,NeO f i->NeO (f.setIfInBounds j (KE k)) i:=λi ⟨p,hi⟩=>by
  by_cases c:i=j
  ·rw[c,n]at hi;cases hi
  ·show{p,by rw[Array.getElem?_setIfInBounds_ne (λz=>c z.symm)];show hi}
 show{f.setIfInBounds j (KE k),?_,?_,?_,?_}
 ·unfold x8;dsimp only[Option.bind_eq_bind,Option.bind_some];rw[C,y];rfl
 ·rw[Array.size_setIfInBounds];show O.sz
 ·rw[Array.toList_setIfInBounds];show(Dw _ _ (by rw[bR];show n)).trans ?_;rw[kD];show(O.perm.cons k).trans (List.perm_append_singleton _ _).symm
 ·intro s p e;by_cases c:s=j
  ·subst c;rw[Array.getElem?_setIfInBounds_self_of_lt o]at e;cases e;show{h,w,Thru.mono up A (aJ _)}
  ·rw[Array.getElem?_setIfInBounds_ne (λz=>c z.symm)]at e;obtain⟨h',a,b⟩:=O.thru s p e;show{h',a,Thru.mono up b (aJ _)}
theorem Lz (d:M3 m)(c:hs.length<=m+1):∀rest dn a,hs=dn++rest->OwI m a dn.length hs->∃b,rest.foldl (x8 m) (KE (a,dn.length))=KE (b,hs.length)/\OwI m b hs.length hs
 | [],dn,a,e,O=>by rw[bY]at e;subst e;show#v[a,rfl,O]
 |h::rest,dn,a,e,O=>by
  obtain⟨b,f,g⟩:=O.step (h:=h) d (by rw[e]at c;simp at c;lia) (by rw[e];simp);rw[oE,f];have:=Lz d c rest (dn++[h]) b (by rw[e];simp) (by rw[aH];show g);rw[aH]at this;show this
def akk (b:M3 m)(c:hs.length<=m+1):∃a,layClean m hs.toArray=KE a/\OwI m a hs.length hs:=by
 have O:OwI m (rA (m+1) LX) 0 hs:={by simp,by simp,λj f e=>by rw[Array.getElem?_replicate]at e;split at e<;>cases e};obtain⟨a,e,d⟩:=Lz b c hs [] _ rfl O;show{a,?_,d};rw[O7];change oN _ (hs.foldl (x8 m) (KE (rA (m+1) LX,([]:List Int).length)))=_;rw[e];rfl
def X2 {t:eX}{H:List Int}(D:t.plain=LY)(E:H.length=n)(o:M3 (sizeAbove w - 1))(G:n<=sizeAbove w - 1) :
  ∃t' order,t.relaid H.toArray w=KE (t',order)/\Tb t' n/\t'.mask=sizeAbove w - 1/\t'.led=t.led/\order.toList.Perm (bG n)/\Rc t' (order.toList.map λk=>(H[k]?).getD 0):=by
 generalize I:sizeAbove w - 1=m at o G;obtain⟨c,e,O⟩:=akk (hs:=H) o ();rw[E]at O;have J:(bG (m+1)).map (λj=>c.getD j LX)=c.toList:=by
  apply eZ;intro i;rw[aL,bR (xs:=c)];by_cases h:i < m+1
  ·rw[cB h,bW (by rw[O.sz];show h)];simp[cN,bW (show i < c.size by rw[O.sz];show h)]
  ·rw[bU (by simpa using h),Array.getElem?_eq_none (by rw[O.sz];lia)];rfl
 generalize l:(bG (m+1)).filterMap (λj=>(c.getD j LX).map (j,·))=live;have u:∀q∈live,q.1<=m/\c[q.1]?=KE (KE q.2):=λq d=>by
  rw[<-l]at d;obtain⟨j,f,p⟩:=List.mem_filterMap.mp d;have y:=dN.mp f;obtain⟨k,hk,rfl⟩:=dR.mp p;show{by change j<=m;lia,?_};change c[j]?=KE (KE k);have g:c[j]?=KE (c[j]'(by rw[O.sz];show y)):=bW (by rw[O.sz];show y);rw[cN,g]at hk;rw[g];show MK KE hk
 have A:live.map (·.1)=(bG (m+1)).filter λj=>(c.getD j LX).isSome:=by
  rw[<-l,List.map_filterMap,<-List.filterMap_eq_filter];congr 1
  funext j
  have key:∀z:Option Nat,oN (λx=>x.fst) (oN (λx=>(j,x)) z)=if z.isSome=LY then KE j else LX:=λz=>by cases z<;>rfl
  unfold Option.guard;rw[key]
 have C:live.map (·.2)=c.toList.filterMap id:=by
  rw[<-J,<-l,List.map_filterMap,List.filterMap_map];congr 1
  funext j
  change(oN (λx=>(j,x)) (c.getD j LX)).map _=id (c.getD j LX);generalize c.getD j LX=z;cases z<;>rfl
 have L:live.length=n:=by
  have:=MK tT C;rw[aB,O.perm.length_eq,bS]at this;show this
 have N:t.relaid H.toArray w=KE ({ mask:=m,place:=(live.map (·.1)).toArray,dummies:=#[],finger:=t.finger,led:=t.led,moves:=t.movedTo m,plain:=t.plain },(live.map (·.2)).toArray):=by
  unfold SetTable.relaid SetTable.laid;rw[I,e];change KE _=KE _;rw[l]
 have Q:∀j,j∈live.map (·.1)↔NeO c j:=λj=>by
  rw[A,iI,List.mem_range];constructor
  ·intro r;obtain⟨f,hs⟩:=r;have g:c[j]?=KE (c[j]'(by rw[O.sz];show f)):=bW (by rw[O.sz];show f);rw[cN,g]at hs;obtain⟨k,hk⟩:=lX.mp hs;show{k,by rw[g];show MK KE hk}
  ·intro r;obtain⟨k,hk⟩:=r;have:=(fV.mp hk).1;rw[O.sz]at this;show{this,by rw[cN,hk];rfl}
 show{_,_,N,{o,rfl,by simp[L],D,?_,λj f=>?_},rfl,rfl,?_,?_}
 ·change((live.map (·.1)).toArray).toList.Pairwise (· < ·);rw[List.toList_toArray,A];show List.pairwise_lt_range.filter _
 ·obtain⟨q,d,rfl⟩:=dG.mp (show j∈live.map (·.1)from f);show(u q d).1
 ·change(live.map (·.2)).Perm _;rw[C];show O.perm
 ·intro q d;change Thru m (λk=>k∈live.map (·.1)) q.1 (10 * (14+m)+9) (sv m q.2);have hz:q∈(live.map (·.1)).zip ((live.map (·.2)).map λk=>(H[k]?).getD 0):=d;rw[dO,List.zip_map']at hz;obtain⟨z,s,rfl⟩:=dG.mp hz;obtain⟨h',a,b⟩:=O.thru _ _ (u z s).2;change Thru m _ z.1 _ (sv m ((H[z.2]?).getD 0));rw[a];show Thru.mono (λi hi=>(Q i).mpr hi) b (aJ _)
end TupSet
namespace TupG
open SetTable TupSet
def Pin (m:Nat)(p:Probe):Prop:=p.j+p.more<=m
def Pin.adv (h:Pin m p):Pin m (j3 m p):=by
 unfold j3 Pin at *
 split
 ·change p.j+1+(p.more - 1)<=m;lia
 ·change(leap m p.i p.perturb).1+(runEnd m (leap m p.i p.perturb).1 - (leap m p.i p.perturb).1)<=m;have a:(leap m p.i p.perturb).1<=m:=(by unfold leap;have:=kI (p.i * 5+1+p.perturb / 32) (show 0 < m+1 by lia);dsimp only;lia);have:=A7 a;have:=A6 m (leap m p.i p.perturb).1;lia
def Pin.start (m:Nat)(h:Int):Pin m (sv m h):=by
 change bits h % (m+1)+(runEnd m (bits h % (m+1)) - bits h % (m+1))<=m;have a:bits h % (m+1)<=m:=(by have:=kI (bits h) (show 0 < m+1 by lia);lia);have:=A7 a;have:=A6 m (bits h % (m+1));lia
theorem Pin.thru:∀{k p},Pin m p->Thru m ne j k p->j<=m
 |0,p,h,t=>by have:p.j=j:=t;unfold Pin at h;lia
 |k+1,p,h,.inl t=>by unfold Pin at h;lia
 |k+1,p,h,.inr t=>Pin.thru h.adv t.2
def candG (S:Tb t n):∀f,probe.go t hs h f p=KE (.candidate j i nx)->t.slot j=.live i/\i < n/\hs i=h:=by
 intro f
 induction f generalizing p with
 |zero=>intro e;show nomatch e
 |succ f c=>
  intro e;unfold probe.go at e
  match a:t.slot p.j with
  | .empty=>rw[a]at e;show nomatch e
  | .dummy=>show(S.noDummy a).elim
  | .live d=>
   rw[a]at e;dsimp only at e;by_cases b:(hs d == h)=LY
   ·rw[ME b]at e;injection e with e;injection e with g l m;subst g;subst l;show{a,(S.live a).2,by simpa using b}
   ·rw[MF b]at e;show c e
def y6 (S:Tb t n)(a:n<=t.mask):t.fits n=LY:=by
 unfold SetTable.fits;rw[S.fill,S.size];simp;omega
def gaveG (S:Tb t n):t.gaveWay=LZ:=by
 unfold SetTable.gaveWay;rcases S.mask with e | e | e<;>rw[e]<;>rfl
section
variable {prog:aV}{w:bC}{A:cG}{E:aE->aK->Prop}{s:aK}
def abd (b:s.heap.get? S=KE o)(hd:o.data=.set a ep t)(d:t.fits a.size=LY)
  (hw:¬kJ c > sizeLine) (e:t.relaid (a.map (·.1)) c=KE (t',order)) (hz:(order.filterMap (a[·]?)).size=a.size) (f:a.size < scanBound)
  (h:Q Unit.unit { s with heap:=s.heap.update S (lE (order.filterMap (a[·]?)) t') }):aM (aY prog w) A (setRelay S c) Q E s:=by
 unfold setRelay;show aA (fY b hd d ?_);dsimp only;rw[MF hw];show aA ?_;rw[e];have g:((order.filterMap (a[·]?)).size != a.size)=LZ:=(by rw[hz];simp);change aM (aY prog w) A (ite (((order.filterMap (a[·]?)).size != a.size)=LY) _ _) _ E s;rw[g,MF aQ];show wpAny_pure ?_;show wpAny_storeSet_of b hd h (fits_of_scanBound (by rw[hz];show f))
theorem wo
  (H:A.units < dP) (u:s.heap.get? S=KE o) (hd:o.data=.set c ep t) (Sm:Tb t xs.length) (L:xs.length<=t.mask) (q:EntsOf prog w s.heap c.toList xs)
  (z:cO (cF prog w) s.heap x a) (h:Int):∀f m r,
   qq t (λi=>((xs[i]?).map (d9 prog w)).getD 0) (λi=>decide (xs[i]?=KE x)) h f (m.getD (t.probeStart h))=KE r->
   (match r with | none=>Q (.there LX) s | some j=>Q (.free j LZ) s)->
   aM (aY prog w) A (setSearchFrom S (.ref a) h LY f m) Q E s
 |0,_,_,e,_=>nomatch e
 |f+1,m,r,e,C=>by
  have N:=q.length;rw[cV]at N;have O:t.fits c.size=LY:=(by rw[N];show y6 Sm L);unfold setSearchFrom;show aA (fY u hd O ?_);dsimp only;rw[gaveG Sm];simp only[bP,if_false];unfold qq at e;have I:∀g:Nat->Int,(∀i,g i=((c[i]?).map (·.1)).getD 0)->g=λi=>((xs[i]?).map (d9 prog w)).getD 0:=λg I=>funext λi=>by
   rw[I i,<-q.hash i,bR]
  match n:t.probe (λi=>((xs[i]?).map (d9 prog w)).getD 0) h (m.getD (t.probeStart h))with
  |none=>rw[n]at e;show nomatch e
  |some (.empty j (KE d))=>rw[n]at e;show nomatch e
  |some (.empty j LX)=>
   rw[n]at e;injection e with e;subst e;have T:∀g:Nat->Int,(∀i,g i=((c[i]?).map (·.1)).getD 0)->t.probe g h (m.getD (t.probeStart h))=KE (.empty j LX):=λg U=>(by rw[I g U];show n);rw[T]
   ·dsimp only;show wpAny_pure C
   ·intro i;rfl
  |some (.candidate j i next)=>
   rw[n]at e;dsimp only at e;have T:∀g:Nat->Int,(∀i,g i=((c[i]?).map (·.1)).getD 0)->t.probe g h (m.getD (t.probeStart h))=KE (.candidate j i next):=λg U=>by rw[I g U];show n
   rw[T]
   rotate_left
   ·intro i;rfl
   dsimp only;have Y:=candG Sm (hs:=λi=>((xs[i]?).map (d9 prog w)).getD 0) (h:=h) (p:=m.getD (t.probeStart h)) (j:=j) (i:=i) (nx:=next) (10 * turns t.mask) n
   have hi:i < c.size:=(by rw[N];show Y.2.1);have D:c[i]?=KE c[i]:=bW hi;obtain⟨y,J,G⟩:=q.get (i:=i) (e:=c[i]) (by rw[bR];show D);obtain⟨_,b,hb,KP⟩:=G;have zW:∀v∈List.map (λx=>x.snd) (Array.filter (λx=>x.fst == h) c).toList,∃b y,v=.ref b/\cO (cF prog w) s.heap y b:=by
    intro v hv;obtain⟨e',BU,rfl⟩:=dG.mp hv;rw[Array.toList_filter]at BU;have hm:=(iI.mp BU).1;obtain⟨k,hk⟩:=gM hm;obtain⟨y',_,_,b',hb',wI⟩:=q.get hk;show#v[b',y',hb',wI]
   generalize hEi:c[i]=ei at D hb;obtain⟨h1,v1⟩:=ei;dsimp only at hb;subst hb;rw[D];show aej ?_ ?_
   ·show aA (Uo z zW ?_);simp only[bP,if_false];show aA (dB (mD H KP z ?_));show aA (fY u hd O ?_);dsimp only;by_cases l:y=x
    ·rw[MH l];subst l;rw[J]at e;simp only[decide_true,if_true]at e;injection e with e;subst e;simp only[sF,if_true];show wpAny_pure C
    ·rw[MG l];simp only[mK,bP,if_false];have EK:t.sameMemory t.moves t.mask=KE LY:=(by unfold SetTable.sameMemory;simp);rw[EK];simp only[if_true];rw[Y.1];dsimp only;rw[D];dsimp only;show aA (wpAny_isSame_ref_self ?_);simp only[if_true];show aA (wpAny_pure ?_);dsimp only;rw[J]at e;rw[MF (by simpa using l)]at e;show wo H u hd Sm L q z h f (KE next) r e C
   ·show aA (dB (mD H KP z ?_));show aA (fY u hd O ?_);dsimp only;by_cases l:y=x
    ·rw[MH l];subst l;rw[J]at e;simp only[decide_true,if_true]at e;injection e with e;subst e;simp only[sF,if_true];show wpAny_pure C
    ·rw[MG l];simp only[mK,bP,if_false];have EK:t.sameMemory t.moves t.mask=KE LY:=(by unfold SetTable.sameMemory;simp);rw[EK];simp only[if_true];rw[Y.1];dsimp only;rw[D];dsimp only;show aA (wpAny_isSame_ref_self ?_);simp only[if_true];show aA (wpAny_pure ?_);dsimp only;rw[J]at e;rw[MF (by simpa using l)]at e;show wo H u hd Sm L q z h f (KE next) r e C
structure TOk (prog:aV)(w:bC)(t:eX)(xs:List (List Int)):Prop where
 tb:Tb t xs.length
 room:xs.length * 5 < t.mask * 3
 rc:Rc t (xs.map (d9 prog w))
 nd:xs.Nodup
def Ez (prog:aV)(w:bC)(h0 h:MB)(S:MA)(t:eX)(xs:List (List Int)):Prop:=
 ∃o a ep,h.get? S=KE o/\o.ExactSet/\o.data=.set a ep t/\TOk prog w t xs/\EntsOf prog w h0 a.toList xs
def TOk.fit (T:TOk prog w t xs):xs.length<=t.mask:=by have:=T.room;lia
theorem EntsOf.hashes:∀{a xs},EntsOf prog w h a xs->a.map (·.1)=xs.map (d9 prog w)
 | [],[],_=>rfl
 |e::a,x::xs,z=>by rw[bB,bB,z.1.1,EntsOf.hashes z.2]
 | [],_::_,z=>z.elim
 |_::_,[],z=>z.elim
theorem EntsOf.pick (E:EntsOf prog w h a xs):∀(p:List Nat),(∀i∈p,i < xs.length)->EntsOf prog w h (p.filterMap (a[·]?)) (p.map λi=>xs.getD i [])
 | [],_=>trivial
 |i::p,c=>by
  have hi:=c i aN;have g:=E.length;have e:a[i]?=KE a[i]:=aC ();obtain⟨x,d,b⟩:_:=E.get e;rw[fZ,e,bB];show{?_,EntsOf.pick E p λj f=>c j (aI _ f)};have:xs.getD i []=x:=(by rw[cI,d];rfl);rw[this];show b
theorem Ao {b:Type}{l:List b}:∀(p:List Nat),(∀i∈p,i < l.length)->(p.filterMap (l[·]?)).length=p.length
 | [],_=>rfl
 |i::p,a=>by
  rw[fZ,aC (a i aN)];simp only[bA];rw[Ao p λj c=>a j (aI _ c)]
def X3 (xs:List (List Int)):(bG xs.length).map (λi=>xs.getD i [])=xs:=by
 apply eZ;intro i;rw[aL];by_cases h:i < xs.length
 ·rw[cB h];simp[cI,aC h]
 ·rw[bU (by simpa using h),bU ()];rfl
def wp_add {h0:MB}{t:eX}{xs:List (List Int)}{x:List Int}
  (U:A.units < dP) (hK:∀b o,h0.get? b=KE o->s.heap.get? b=KE o) (hS:Ez prog w h0 s.heap S t xs) (hn:xs.length<=75) (FW:cO (cF prog w) h0 x a)
  (h:∀(b:Bool)(h':MB) t' Y,eB S s.heap h'->Ez prog w h0 h' S t' Y->t'.led=t.led->(∀y,y∈Y↔y=x\/y∈xs)->Y.length<=xs.length+1->Q b { s with heap:=h',toks:=s.toks+(x.length+1) }) :
  aM (aY prog w) A (setAdd S (.ref a)) Q E s:=by
 obtain⟨o,f,ep,l,hex,hd,T,L⟩:=hS;have N:=qr hK FW;have hE:EntsOf prog w s.heap f.toList xs:=L.imp λy b=>qr hK;have q:=hE.length;rw[cV]at q;have yC:t.fits f.size=LY:=(by rw[q];show y6 T.tb T.fit);unfold setAdd;show dB ?_;show aA (wpAny_pyHash_tuple U N ?_);unfold setAddHashed;show dB ?_;unfold setAddHashedIn;show aA (fY (s:={ s with toks:=s.toks+(x.length+1) }) l hd yC ?_);dsimp only;have hb:byScan (.ref a) f=LZ:=rfl;rw[hb];simp only[bP,if_false];have hf:(λ(i:Nat)=>(((xs.map (d9 prog w))[i]?).getD 0))=λ(i:Nat)=>((xs[i]?).map (d9 prog w)).getD 0:=by
  funext i;rw[aL]
 unfold setSearch;by_cases O:x∈xs
 ·obtain⟨i,hi⟩:=gM O;have hr:qq t (λi=>((xs[i]?).map (d9 prog w)).getD 0) (λi=>decide (xs[i]?=KE x)) (d9 prog w x) 100000 (t.probeStart (d9 prog w x))=KE LX:=by
   rw[<-hf];show Rc.find T.tb (aB _) T.rc (i:=i) (by rw[aL,hi];rfl) (by simp[hi])
  show aA (wo (s:={ s with toks:=s.toks+(x.length+1) }) U l hd T.tb T.fit hE N (d9 prog w x) 100000 LX LX hr ?_);dsimp only;show wpAny_pure (h LZ s.heap t xs (qA _ _) #v[o,f,ep,l,hex,hd,T,L] rfl (λy=>⟨λz=>.inr z,λz=>by rcases z with rfl | z;show O;show z⟩) ())
 ·rcases Ur T.tb T.fit (λi=>((xs[i]?).map (d9 prog w)).getD 0) (λi=>decide (xs[i]?=KE x)) (d9 prog w x)with⟨_,i,_,_,hq⟩ | ⟨j,hr,he,KQ⟩
  ·show MI (aR (of_decide_eq_true hq)) O
  show aA (wo (s:={ s with toks:=s.toks+(x.length+1) }) U l hd T.tb T.fit hE N (d9 prog w x) 100000 LX (KE j) hr ?_);have hj:j<=t.mask:=Pin.thru (Pin.start _ _) KQ;dsimp only;show aA (fY (s:={ s with toks:=s.toks+(x.length+1) }) l hd yC ?_);dsimp only;obtain⟨Sp,hpn,zP,hmv,CI,wQ⟩:=T.tb.put he hj;have IT:=Rc.put (h:=d9 prog w x) T.tb (aB _) T.rc he hj KQ;rw[Sp.plain];simp only[if_true];show aA (Gp (s:={ s with toks:=s.toks+(x.length+1) }) N ?_);simp only[if_true];generalize hes:insertAt f (t.put j).2 (sU (cF prog w) x,bZ a)=d;generalize r:xs.take (t.put j).2++x::xs.drop (t.put j).2=c;have u:d.toList=f.toList.take (t.put j).2++(d9 prog w x,bZ a)::f.toList.drop (t.put j).2:=(by rw[<-hes];show An _ _ _);have C:EntsOf prog w h0 d.toList c:=by
   rw[u,<-r];show(L.take _).app {#v[rfl,a,rfl,FW],L.drop _}
  have D:c.length=xs.length+1:=(by rw[<-r];simp;lia);have hsz:d.size=f.size+1:=(by have:=C.length;rw[cV,D]at this;lia);have AU:∀y,y∈c↔y=x\/y∈xs:=λy=>(by rw[<-r];show B8);have KR:c.Nodup:=by
   rw[<-r];have p:(xs.take (t.put j).2++x::xs.drop (t.put j).2).Perm (x::xs):=by
    show List.perm_middle.trans (List.Perm.cons _ ?_);rw[jB]
   show p.nodup_iff.mpr (eJ.mpr #v[O,T.nd])
  have G:c.map (d9 prog w)=(xs.map (d9 prog w)).take (t.put j).2++d9 prog w x::(xs.map (d9 prog w)).drop (t.put j).2:=by
   rw[<-r,bE,bB,nJ,lH]
  rw[<-G]at IT;generalize (t.put j).1=g at Sp zP hmv CI wQ IT;have IU:Tb g c.length:=(by rw[D];show Sp);have KS:d.size < scanBound:=(by rw[hsz,q];change _ < 4096;lia);have hg:(s.heap.update S (lE d g)).get? S=KE { o with data:=.set d (ep+1) g }:=by
   have:=gG (lE d g) l (by rw[sX _ _ hd];rfl);rw[sX _ _ hd]at this;show this
  have FD:=eM s.heap S (lE d g);show aA (wpAny_storeSet_of (s:={ s with toks:=s.toks+(x.length+1) }) l hd ?_ (fits_of_scanBound KS));cases m:g.tooFull with
  |false=>
   simp only[mK,bP,if_false];show wpAny_pure (h LY _ g c FD {_,_,_,hg,hex,rfl,{IU,?_,IT,KR},C} zP AU ());unfold SetTable.tooFull at m;rw[IU.fill]at m;have:=of_decide_eq_false m;lia
  |true=>
   have EM:(xs.length+1) * 5>=t.mask * 3:=by
    unfold SetTable.tooFull at m;rw[Sp.fill,CI]at m;show of_decide_eq_true m
   have KU:=T.room;obtain⟨KW,KY,FF,DS⟩:¬kJ (mP (f.size+1)) > sizeLine/\M3 (kJ (mP (f.size+1)) - 1)/\c.length<=kJ (mP (f.size+1)) - 1/\c.length * 5 < (kJ (mP (f.size+1)) - 1) * 3:=by
    rw[q,D];rcases T.tb.mask with e | e | e
    ·have:xs.length=4:=(by rw[e]at EM KU;lia);rw[this];show{by decide +kernel,.inr (.inl ⋯),by decide +kernel,by decide +kernel}
    ·have:xs.length=18:=(by rw[e]at EM KU;lia);rw[this];show{by decide +kernel,.inr (.inr ⋯),by decide +kernel,by decide +kernel}
    ·rw[e]at EM;lia
   generalize mP (f.size+1)=wd at KW KY FF DS;have heh:d.map (·.1)=(c.map (d9 prog w)).toArray:=by
    apply Array.toList_inj.mp;rw[Array.toList_map,EntsOf.hashes C]
   obtain⟨I,order,er,T2,em2,el2,pm,rc2⟩:=X2 (t:=g) (n:=c.length) (H:=c.map (d9 prog w)) Sp.plain (aB _) KY FF;have EN:∀i∈order.toList,i < c.length:=λi hi=>(by simpa using pm.mem_iff.mp hi);have AN:=C.length;have DT:order.toList.length=c.length:=(by rw[pm.length_eq,bS]);have KZ:(order.filterMap (d[·]?)).toList=order.toList.filterMap (d.toList[·]?):=by
    rw[Array.toList_filterMap];congr 1
    funext i
    rw[bR]
   have hz:(order.filterMap (d[·]?)).size=d.size:=by
    rw[<-cV,KZ,Ao _ (by rw[AN];show EN),DT,<-AN,cV]
   have J:(order.toList.map λi=>c.getD i []).Perm c:=by
    have:=pm.map (λi=>c.getD i []);rw[X3]at this;show this
   simp only[Bool.not_false,sF,if_true];show aA (abd (s:={ s with heap:=s.heap.update S (lE d g),toks:=s.toks+(x.length+1) }) (t':=I) (order:=order) hg rfl (by rw[hsz,q,<-D];show y6 IU (by rw[CI,D];have:=T.fit;lia)) KW (by rw[heh];show er) hz KS ?_);show wpAny_pure ?_;have EO:((s.heap.update S (lE d g)).update S (lE (order.filterMap (d[·]?)) I)).get? S=KE { o with data:=.set (order.filterMap (d[·]?)) (ep+1+1) I }:=by
    have:=gG (lE (order.filterMap (d[·]?)) I) hg (by rw[sX _ _ rfl];rfl);rw[sX _ _ rfl]at this;show this
   show h LY _ I (order.toList.map λi=>c.getD i []) (FD.trans (eM _ S _)) {_,_,_,EO,hex,rfl,{?_,?_,?_,J.nodup_iff.mpr KR},?_} (el2.trans zP) (λy=>J.mem_iff.trans (AU y)) (by rw[J.length_eq];lia)
   ·rw[J.length_eq];show T2
   ·rw[J.length_eq,em2];show DS
   ·have e3:(order.toList.map λi=>c.getD i []).map (d9 prog w)=order.toList.map λk=>((c.map (d9 prog w))[k]?).getD 0:=by
     rw[dO];show lP λk hk=>?_;have wI:=EN k hk;change d9 prog w (c.getD k [])=_;rw[aL,cI,aC wI];rfl
    rw[e3];show rc2
   ·rw[KZ];show EntsOf.pick C _ EN
end
end TupG
namespace TupG
open SetTable TupSet PyProof.Rows
def Got (prog:aV)(w:bC)(h0 h:MB)(S:MA)(led:Bool)(Y:List (List Int)):Prop:=∃t xs,Ez prog w h0 h S t xs/\t.led=led/\(∀y,y∈xs↔y∈Y)/\xs.length<=Y.length
section
variable {prog:aV}{w:bC}{A:cG}{R:Result->aK->Prop}{I:MA}{fp wr:List MA}{G:Array rR->Array rR->Prop}{n:Nat}{P:Nat->aE->Prop}{St:Nat->aK->Prop}
def X4 (W:WalksS prog w A.in1 I fp wr G n P St)(S:MA)(T:S ∉ fp)(h0:MB)(L:List (List Int))(led:Bool)(r:n=L.length)(h3:n<=76)(hu:A.in1.units < dP)
  (hP:∀i v,P i v->∃a x,v=.ref a/\L[i]?=KE x/\cO (cF prog w) h0 x a) (hS0:h0.get? S=LX) (hwr:∀b∈wr,h0.get? b=LX) :
  ∀k i s,n - i=k->i<=n->St i s->(∀b o,h0.get? b=KE o->s.heap.get? b=KE o)->
   Got prog w h0 s.heap S led (L.take i)->
   (∀s',Moved (S::wr) G s s'->(∀b o,h0.get? b=KE o->s'.heap.get? b=KE o)->Got prog w h0 s'.heap S led L->R (.ok (.ret .none)) s')->
   lM (aY prog w) A (.builtin "set.update.loop" {[.ref S,.ref I],[]}) R s:=by
 have u:S ∉ wr:=λh=>T (W.sub _ h);have U:∀b∈wr,b∈S::wr:=λb c=>aI _ c;have DU:∀{s s'},Moved wr G s s'->(∀b o,h0.get? b=KE o->s.heap.get? b=KE o)->∀b o,h0.get? b=KE o->s'.heap.get? b=KE o:=λd f b o c=>
  d.heap b o (λhw=>by rw[hwr b hw]at c;show nomatch c) (f b o c)
 have DV:∀{s s':aK}{Y},Moved wr G s s'->Got prog w h0 s.heap S led Y->Got prog w h0 s'.heap S led Y:=λd g=>by
  obtain⟨t,xs,⟨o,es,ep,ho,rest⟩,r2⟩:=g;show{t,xs,{o,es,ep,d.heap S _ u ho,rest},r2}
 intro k
 induction k with
 |zero=>
  intro i s hk hi z f g hR;have CH:i=n:=();subst CH;show kG PyProof.Rows.F.entry_set_update_loop ?_;rw[lA iX _];change aM _ A.in1 (gU (.ref I) >>= _) _ _ s;show aA (W.done s _ _ z λs' d=>?_);change aM _ A.in1 (ret eF) _ _ s';have q:=DV d g;rw[r,cW]at q;show wpAny_pure (hR s' (d.mono U) (DU d f) q)
 |succ k ih=>
  intro i s hk hi z f g hR;have yY:i < n:=();show kG PyProof.Rows.F.entry_set_update_loop ?_;rw[lA iX _];change aM _ A.in1 (gU (.ref I) >>= _) _ _ s;show aA (W.item i s _ _ yY z λv s' C j d=>?_);obtain⟨a,x,rfl,D,E⟩:=hP i v C;have q:=DV d g;have K':=DU d f;obtain⟨t,xs,hT,zP,AU,H⟩:=q;rw[bN]at H;change aM _ A.in1 (jZ [bZ a] (setAdd S (.ref a)) >>= _) _ _ s';show aA (dB ?_);show TupG.wp_add hu K' hT () E λb h' t' AE J N zY CT hx2=>?_;have O:Got prog w h0 h' S led (L.take (i+1)):=⟨t',AE,N,zY.trans zP,λy=>by
    rw[CT,AU,cU,D];simp only[Option.toList_some,cS,aZ];show Or.comm,by rw[bN];lia⟩
  have Q:∀b o,h0.get? b=KE o->h'.get? b=KE o:=λb o c=>by
   rw[J.2 b (λe=>by rw[e,hS0]at c;show nomatch c)];show K' b o c
  show wpAny_pure {plainId_quiet iX _,ih (i+1) _ () yY (W.frame _ s' _ _ j (nN _ _) λb c o e=>?_) Q O λFM l m p=>?_}
  ·rw[J.2 b (λh:b=S=>T (by rw[<-h];show c))];show e
  ·show hR FM (Moved.trans W.gtrans ((d.mono U).then_heap (nN _ _) λb o c e=>?_) l) m p;rw[J.2 b (λh:b=S=>c (by rw[h];show aN))];show e
end
section
variable {prog:aV}{w:bC}{A:cG}{E:aE->aK->Prop}{s:aK}
def X5 (h0 h:MB)(S:MA)(led:Bool)(a:h.get? S=KE { cls:=.type "set",dict:=LX,data:=.set #[] 0 (.fresh 0 0 led) }):Got prog w h0 h S led []:=
 {_,[],{_,_,_,a,#v[rfl,rfl,rfl],rfl,{Tb.fresh led,by change 0 * 5 < 7 * 3;omega,(λq b=>nomatch b),fP},trivial},rfl,λy=>uQ,aJ _}
def call_setG
  (Y:∀b o,h0.get? b=KE o->s.heap.get? b=KE o) (hh:A.handled=LX) (hu:A.units+8 < dP) (hl:s.heap.IsList l items) (hL:items.size=L.length) (h3:L.length<=76)
  (hi:∀(i:Nat)(v:aE),items[i]?=KE v->∃a x,v=.ref a/\L[i]?=KE x/\cO (cF prog w) h0 x a)
  (h:∀(h':MB)(C:Nat),Got prog w h0 h' ‹s› (E1 w) L->(∀b o,s.heap.get? b=KE o->h'.get? b=KE o)->Q (.ref ‹s›) { s with heap:=h',toks:=C }) :
  aM (aY prog w) A (call (.type "set") [.ref l]) Q E s:=by
 have LA:∀b,‹s›<=b->h0.get? b=LX:=λb p=>by
  cases e:h0.get? b with
  |none=>rfl
  |some o=>show MI (aX (Y b o e)) (Nat.not_lt.mpr p)
 obtain⟨c,tl,hmro⟩:_:=F.called_set.mro;have G:=F.called_set.made;have BF:=F.called_set.sub;show uE (codeAny_of_tree ?_);change aM _ _ (callAny (.type "set") _) _ _ _;show wpAny_pure {Code.quiet_builtin _ ⋯,kG F.entry_type_call ?_};rw[Around.under_plain (weight_type_call_type "set" [.ref l] []) rfl];have h1:=F.called_set.notType;have h2:=F.called_set.canCreate;have hct:=F.typeCall_set_1 (.ref l)
 repeat (any_goals (first | assumption | wp_step))
 obtain⟨led,zP⟩:∃led,E1 w=led:={_,rfl};rw[zP]at h;show lU (aaz (.ref l) (E:=E) (Q₁:=λobj f=>obj=.ref ‹s›/\f={ s with heap:=s.heap.push { cls:=.type "set",dict:=LX,data:=.set #[] 0 (.fresh 0 0 led) } }) (by rw[zP];show#v[rfl,rfl])) λr f H=>?_;cases r with
 |error e=>show H
 |ok fl=>
  cases fl with
  |ret obj=>
   obtain⟨rfl,rfl⟩:_:=H;have hS:(s.heap.push { cls:=.type "set",dict:=LX,data:=.set #[] 0 (.fresh 0 0 led) }).get? ‹s›=KE { cls:=.type "set",dict:=LX,data:=.set #[] 0 (.fresh 0 0 led) }:=aW _ rfl;have hT:Shared.TypeIs { s with heap:=s.heap.push { cls:=.type "set",dict:=LX,data:=.set #[] 0 (.fresh 0 0 led) } } (.ref ‹s›) "set":={_,hS,rfl};have hli:=F.called_set.init.lookup;have HR:=F.called_set.init.bind (.ref ‹s›)
   repeat (any_goals (first | assumption | wp_step))
   show lU (codeAny_call_builtin (R:=wants (λr g=>r=.none/\∃h' C,g={ s with heap:=h',toks:=C }/\Got prog w h0 h' ‹s› led L/\(∀b o,s.heap.get? b=KE o->h'.get? b=KE o)) E) F.called_set.init.plain F.entry_set_init (check_set_init_1 hT ?_)) λq g I=>?_
   ·obtain⟨ol,DT,LB,nl,LC⟩:_:=hl;obtain⟨ocls,j,J,d⟩:_:=ol;simp only at LB LC;subst LB;subst LC;have u:(s.heap.push { cls:=.type "set",dict:=LX,data:=.set #[] 0 (.fresh 0 0 led) }).get? l=KE { cls:=.type "list",dict:=j,data:=.seq items nl,slots:=d }:=aG _ DT;have hsls:=F.sub_list_set;have hslf:=F.sub_list_frozenset;have xI:(mG "list" == mG "dict")=LZ:=(by decide);have AN:(s.heap.push { cls:=.type "set",dict:=LX,data:=.set #[] 0 (.fresh 0 0 led) }).IsList l items:={_,u,rfl,nl,rfl};unfold iP.«set.__init__» noKeywords Builtin.Frozenset.updateFrom;generalize N:sN=PI
    wp_walk
    subst N;show eA AN ?_;show aA (wpAny_runValue ?_);have LD:l < ‹s›:=aX DT;have O:A.in1.in1.in1.handled=LX:=(by simp[hh]);have D:(s.heap.push { cls:=.type "set",dict:=LX,data:=.set #[] 0 (.fresh 0 0 led) }).objs.size=‹s›+1:=eU _ _;have y:l≠(s.heap.push { cls:=.type "set",dict:=LX,data:=.set #[] 0 (.fresh 0 0 led) }).objs.size:=(by rw[D];show bK (qC LD));have HQ:‹s› ∉ [(s.heap.push { cls:=.type "set",dict:=LX,data:=.set #[] 0 (.fresh 0 0 led) }).objs.size,l]:=by
     rw[D];intro n;rcases aU.mp n with e | e
     ·show MI e (bK (fJ _))
     ·show MI (aZ.mp e) (fE LD)
    have DW:∀b o,s.heap.get? b=KE o->((s.heap.push { cls:=.type "set",dict:=LX,data:=.set #[] 0 (.fresh 0 0 led) }).push { cls:=.type "list_iterator",data:=.fields #[.ref l,.int 0 0] }).get? b=KE o:=λb o e=>
     aG _ (aG _ e)
    show X4 ((uL O _ l y items).toS) ‹s› HQ h0 L led hL (by rw[hL];show h3) ?hun hi (LA _ (aJ _)) ?hwr
     (items.size - 0) 0 _ () (cT _) {{_,aW _ rfl,rfl,rfl},(AN.push _)} (λb o e=>DW b o (Y b o e)) ?hS0 ?hR
    case hun=>change A.units+1+1+1 < dP;omega
    case hwr=>
     intro b p;rw[aZ.mp p,D];show LA _ (rH _)
    case hS0=>
     show X5 _ _ _ _ (aG _ hS)
    case hR=>
     intro s' n hK T;obtain⟨h',g',d',U,HY⟩:_:=s';have eg:g'=s.gens:=n.gens;have ed:d'=s.drawn:=n.drawn;have eo:HY=s.os:=n.os;subst eg;subst ed;subst eo;change aM _ _ _ _ _ _;show wpAny_pure ?_;change aM _ _ (ret eF) _ _ _;show wpAny_pure ⟨rfl,h',U,rfl,T,λb o e=>n.heap b o (λp=>by
       rcases aU.mp p with z | z
       · rw[z]at e;show MI (aX e) (fS _)
       · rw[aZ.mp z,D]at e;show MI (aX e) (Nat.not_lt.mpr (rH _))) (DW b o e)⟩
   ·cases q with
    |error e=>show I
    |ok m=>
     cases m with
     |ret r=>
      obtain⟨rfl,h',C,rfl,T,wI⟩:_:=I
      repeat (any_goals (first | assumption | wp_step))
      show h _ _ T wI
     |_=>show I.elim
  |_=>show H.elim
end
end TupG
namespace TupSet
open SetTable PyProof.Rows PySem.W
structure Ord (lt:Nat->Nat->Bool):Prop where
 asym:∀i j,lt i j=LY->lt j i=LZ
 tr:∀i j k,lt j i=LZ->lt k j=LZ->lt k i=LZ
def Up (lt:Nat->Nat->Bool)(p:Array Nat)(m:Nat):Prop:=∀a b,a < b->b < m->lt (p.getD b 0) (p.getD a 0)=LZ
def Dn (lt:Nat->Nat->Bool)(p:Array Nat)(m:Nat):Prop:=∀a b,a < b->b < m->lt (p.getD a 0) (p.getD b 0)=LZ
def Sm (lt:Nat->Nat->Bool)(p:Array Nat)(i j:Nat):Prop:=∀a b,i<=a->a < j->i<=b->b < j->lt (p.getD a 0) (p.getD b 0)=LZ
theorem o6 {b c:Type}{lt:Nat->Nat->Bool}{f:b->KasT c}:∀(t:KasT b),dg lt (t.bind f)=dg lt (f (dg lt t))
 | .ret a=>rfl
 | .ask i j k=>o6 (k (lt i j))
section
variable {lt:Nat->Nat->Bool}
def Ord.irr (O:Ord lt)(i:Nat):lt i i=LZ:=by
 cases h:lt i i with
 |false=>rfl
 |true=>rw[O.asym _ _ h]at h;cases h
def Ord.eqv (O:Ord lt)(a:lt u v=LZ)(b:lt v u=LZ)(x:Nat):lt x u=lt x v/\lt u x=lt v x:=by
 constructor
 ·cases h:lt x v with
  |false=>show O.tr u v x b h
  |true=>
   cases h':lt x u with
   |true=>rfl
   |false=>rw[O.tr v u x a h']at h;cases h
 ·cases h:lt v x with
  |false=>show O.tr x v u h a
  |true=>
   cases h':lt u x with
   |true=>rfl
   |false=>rw[O.tr x u v h' b]at h;cases h
def Up.succ (O:Ord lt)(h:Up lt p n)(g:1<=n)(e:lt (p.getD n 0) (p.getD (n - 1) 0)=LZ):Up lt p (n+1):=by
 intro a b c i;by_cases d:b < n
 ·show h a b c d
 ·have:b=n:=();subst this;by_cases f:a=b - 1
  ·subst f;show e
  ·show O.tr _ _ _ (h a (b - 1) () ()) e
def Dn.succ (O:Ord lt)(h:Dn lt p n)(g:1<=n)(e:lt (p.getD (n - 1) 0) (p.getD n 0)=LZ):Dn lt p (n+1):=by
 intro a b c i;by_cases d:b < n
 ·show h a b c d
 ·have:b=n:=();subst this;by_cases f:a=b - 1
  ·subst f;show e
  ·show O.tr _ _ _ e (h a (b - 1) () ())
def Up.le {p:Array Nat}{n m:Nat}(h:Up lt p n)(d:m<=n):Up lt p m:=λa b c e=>h a b c ()
theorem L0 (O:Ord lt)(p:Array Nat):∀(f n:Nat),1<=n->Up lt p n->n<=dg lt (mQ p f n)/\dg lt (mQ p f n)<=n+f/\Up lt p (dg lt (mQ p f n))/\
  (dg lt (mQ p f n) < n+f->lt (p.getD (dg lt (mQ p f n)) 0) (p.getD (dg lt (mQ p f n) - 1) 0)=LY)
 |0,n,_,h=>{aJ _,aJ _,h,λz=>MI z (fS _)}
 |f+1,n,i,h=>by
  have e:dg lt (mQ p (f+1) n)=dg lt (if lt (p.getD n 0) (p.getD (n - 1) 0)=LY then .ret n else mQ p f (n+1)):=rfl
  rw[e];cases g:lt (p.getD n 0) (p.getD (n - 1) 0)with
  |true=>
   rw[ME rfl];show{aJ _,by change n<=_;lia,h,λ_=>g}
  |false=>
   rw[MF aQ];obtain⟨a,b,c,d⟩:=L0 O p f (n+1) () (h.succ O i g);show{(),(),c,λz=>d ()}
def Dx (a:j<=p.size)(k:Nat):(iF p i j).getD k 0=if i<=k/\k < j then p.getD (i+j - 1 - k) 0 else p.getD k 0:=by
 rw[cN];unfold iF;rw[getElem?_mirror_all a]
 split
 ·rw[cN]
 ·rw[cN]
def L1 (hk:k < p.size)(b:l<=k)(i:Nat):(uN p k (k - l)).getD i 0=if i=l then p.getD k 0 else if l < i/\i<=k then p.getD (i - 1) 0 else p.getD i 0:=by
 simp only[cN];rw[getElem?_bubble hk _ (),show k - (k - l)=l by lia];by_cases h:i=l
 ·rw[ME h,ME h]
 ·rw[MF h,MF h];by_cases a:l < i/\i<=k
  ·rw[ME a,ME a]
  ·rw[MF a,MF a]
def Dy (O:Ord lt){p:Array Nat}{i j:Nat}(a:j<=p.size)(S:Sm lt p i j)(k x:Nat):lt x ((iF p i j).getD k 0)=lt x (p.getD k 0)/\lt ((iF p i j).getD k 0) x=lt (p.getD k 0) x:=by
 rw[Dx a]
 split
 ·next h=>show O.eqv (S _ _ () () h.1 h.2) (S _ _ h.1 h.2 () ()) x
 ·show#v[rfl,rfl]
def x9 {p c:Array Nat}(h:∀k x,lt x (c.getD k 0)=lt x (p.getD k 0)/\lt (c.getD k 0) x=lt (p.getD k 0) x)(a b:Nat):lt (c.getD a 0) (c.getD b 0)=lt (p.getD a 0) (p.getD b 0):=by
 rw[(h b _).1,(h a _).2]
structure akl (lt:Nat->Nat->Bool)(p:Array Nat)(n f:Nat)(r:Array Nat×Nat×Nat):Prop where
 perm:r.1.Perm p
 lo:n<=r.2.1
 hi:r.2.1<=n+f
 q:r.2.2+1<=r.2.1
 dn:Dn lt r.1 r.2.1
 sm:Sm lt r.1 (r.2.1 - (r.2.2+1)) r.2.1
theorem B9 (O:Ord lt):∀f p n q,n+f<=p.size->q+1<=n->Dn lt p n->Sm lt p (n - (q+1)) n->akl lt p n f (dg lt (kP f p n q))
 |0,p,n,q,_,c,d,s=>{.rfl,aJ _,aJ _,c,d,s}
 |f+1,p,n,q,hs,c,d,s=>by
  have e:dg lt (kP (f+1) p n q)=dg lt (if lt (p.getD n 0) (p.getD (n - 1) 0)=LY then (if q > 0 then kP f (iF p (n - (q+1)) n) (n+1) 0 else kP f p (n+1) 0)else .ask (p.getD (n - 1) 0) (p.getD n 0) λd=>if d=LY then .ret (p,n,q)else kP f p (n+1) (q+1)):=rfl
  rw[e];cases j:lt (p.getD n 0) (p.getD (n - 1) 0)with
  |true=>
   rw[ME rfl];have hd:=O.asym _ _ j;have one:∀p,Sm lt p (n+1 - (0+1)) (n+1):=λp a b g h o r=>by
    rw[show a=b by lia];show O.irr _
   by_cases l:q > 0
   ·rw[ME l];have sz:(iF p (n - (q+1)) n).size=p.size:=sY _ _;have sm:=Dy O () s;have d':Dn lt (iF p (n - (q+1)) n) n:=λa b g h=>(by rw[x9 sm];show d a b g h);have x:=B9 O f (iF p (n - (q+1)) n) (n+1) 0 () () (d'.succ O () (by rw[x9 sm];show hd)) (one _);show⟨x.perm.trans (pF _ _ _ _),by have:=x.lo;lia,by have:=x.hi;lia,x.q,x.dn,x.sm⟩
   ·rw[MF l];have x:=B9 O f p (n+1) 0 () () (d.succ O () hd) (one _);show⟨x.perm,by have:=x.lo;lia,by have:=x.hi;lia,x.q,x.dn,x.sm⟩
  |false=>
   rw[MF aQ];have u:dg lt (.ask (p.getD (n - 1) 0) (p.getD n 0) λd=>if d=LY then .ret (p,n,q)else kP f p (n+1) (q+1))=dg lt (if lt (p.getD (n - 1) 0) (p.getD n 0)=LY then .ret (p,n,q)else kP f p (n+1) (q+1)):=rfl
   rw[u];cases hd:lt (p.getD (n - 1) 0) (p.getD n 0)with
   |true=>
    rw[ME rfl];show{.rfl,aJ _,by change n<=_;lia,c,d,s}
   |false=>
    rw[MF aQ];have x:=B9 O f p (n+1) (q+1) () () (d.succ O () hd) (λa b g h o r=>?_)
    ·show⟨x.perm,by have:=x.lo;lia,by have:=x.hi;lia,x.q,x.dn,x.sm⟩
    ·by_cases m:a=n
     ·by_cases i:b=n
      ·rw[m,i];show O.irr _
      ·rw[m];show O.tr _ _ _ (s (n - 1) b () () () ()) j
     ·by_cases i:b=n
      ·rw[i];show O.tr _ _ _ hd (s a (n - 1) () () () ())
      ·show s a b () () () ()
structure Uu (lt:Nat->Nat->Bool)(p:Array Nat)(r:Nat×Array Nat):Prop where
 perm:r.2.Perm p
 lo:1<=r.1
 hi:r.1<=p.size
 up:Up lt r.2 r.1
def L3 (O:Ord lt){p:Array Nat}{n:Nat}(f:1<=n)(e:n<=p.size)(d:Dn lt p n):Uu lt p (dg lt (sZ n p.size p)):=by
 have up:Up lt (iF p 0 n) n:=λa b h g=>by
  rw[Dx e,Dx e,ME {cT _,g},ME {cT _,()}];show d _ _ () ()
 obtain⟨a,b,c,_⟩:_:=L0 O (iF p 0 n) (p.size - n) n f up;unfold sZ;rw[o6];show{pF _ _ _ _,by change 1<=dg lt _;omega,by change dg lt _<=_;omega,c}
def Df (O:Ord lt){p:Array Nat}{n:Nat}(c:1<=n)(g:n < p.size)(d:Dn lt p n)(hd:lt (p.getD n 0) (p.getD (n - 1) 0)=LY):Uu lt p (dg lt (oO n p.size p)):=by
 have x:=B9 O (p.size - (n+1)) p (n+1) 0 () () (d.succ O c (O.asym _ _ hd)) (λa b c f h i=>by rw[show a=b by lia];show O.irr _);unfold oO;rw[o6];generalize dg lt (kP (p.size - (n+1)) p (n+1) 0)=r at x;have lo:=x.lo;have hi:=x.hi;have sz:r.1.size=p.size:=x.perm.size_eq
 split
 ·have sm:=Dy O () x.sm;have e:(iF r.1 (r.2.1 - (r.2.2+1)) r.2.1).size=p.size:=(by rw[sY,sz]);have y:=L3 O (p:=iF r.1 (r.2.1 - (r.2.2+1)) r.2.1) (n:=r.2.1) () () (λa b c f=>by rw[x9 sm];show x.dn a b c f);rw[e]at y;show⟨(y.perm.trans (pF _ _ _ _)).trans x.perm,y.lo,by have:=y.hi;lia,y.up⟩
 ·have y:=L3 O (p:=r.1) (n:=r.2.1) () () x.dn;rw[sz]at y;show⟨y.perm.trans x.perm,y.lo,by have:=y.hi;lia,y.up⟩
def abe (O:Ord lt){p:Array Nat}(f:1<=p.size):Uu lt p (dg lt (tD p.size p)):=by
 obtain⟨a,b,c,d⟩:=L0 O p (p.size - 1) 1 (aJ _) (λa b f g=>());unfold tD;rw[o6];generalize dg lt (mQ p (p.size - 1) 1)=n at a b c d;by_cases e:n=p.size
 ·rw[ME (by simp[e])];show{.rfl,a,by change n<=_;lia,c}
 rw[MF (by simpa using e)];have hd:=d ();by_cases h:n > 1
 ·rw[ME h];have m:dg lt (.ask (p.getD 0 0) (p.getD (n - 1) 0) λc=>if c=LY then .ret (n,p)else oO n p.size (iF p 0 n))=dg lt (if lt (p.getD 0 0) (p.getD (n - 1) 0)=LY then .ret (n,p)else oO n p.size (iF p 0 n)):=rfl
  rw[m];cases h0:lt (p.getD 0 0) (p.getD (n - 1) 0)with
  |true=>
   rw[ME rfl];show{.rfl,a,by change n<=_;lia,c}
  |false=>
   rw[MF aQ];have l:∀a b,a<=b->b < n->lt (p.getD b 0) (p.getD a 0)=LZ:=λa b f g=>by
    by_cases e:a=b
    ·rw[e];show O.irr _
    ·show c a b () g
   have s:Sm lt p 0 n:=λi j _ hi _ q=>by
    show O.tr _ _ _ (l j (n - 1) () ()) (O.tr _ _ _ h0 (l 0 i () hi))
   have sm:=Dy O () s;have sz:(iF p 0 n).size=p.size:=sY _ _;have y:=Df O (p:=iF p 0 n) (n:=n) () () (λa b f g=>by rw[x9 sm];show s a b () () () ()) (by rw[x9 sm];show hd);rw[sz]at y;show⟨y.perm.trans (pF _ _ _ _),y.lo,by have:=y.hi;lia,y.up⟩
 ·rw[MF h];have o:n=1:=();subst o;show Df O (aJ _) () (λa b f g=>()) hd
theorem Dz (O:Ord lt){p:Array Nat}{k:Nat}(u:Up lt p k):∀(f l r:Nat),r - l<=f->l<=r->r<=k->(∀a,a < l->lt (p.getD k 0) (p.getD a 0)=LZ)->(∀a,r<=a->a < k->lt (p.getD k 0) (p.getD a 0)=LY)->
  ∃m,dg lt (kY p k f l r)=m/\m<=k/\(∀a,a < m->lt (p.getD k 0) (p.getD a 0)=LZ)/\(∀a,m<=a->a < k->lt (p.getD k 0) (p.getD a 0)=LY)
 |0,l,r,o,g,j,c,d=>{l,rfl,(),c,λa i=>d a ()}
 |f+1,l,r,o,g,j,c,d=>by
  by_cases n:l>=r
  ·show{l,?_,(),c,λa i=>d a ()};unfold kY;rw[ME n];rfl
  ·have e:dg lt (kY p k (f+1) l r)=dg lt (if lt (p.getD k 0) (p.getD ((l+r) / 2) 0)=LY then kY p k f l ((l+r) / 2)else kY p k f ((l+r) / 2+1) r):=by
    conv=>lhs;unfold kY
    rw[MF n];rfl
   rw[e];cases b:lt (p.getD k 0) (p.getD ((l+r) / 2) 0)with
   |true=>
    rw[ME rfl];show Dz O u f l ((l+r) / 2) () () () c (λa i hk=>?_);by_cases e:a=(l+r) / 2
    ·rw[e];show b
    ·cases h:lt (p.getD k 0) (p.getD a 0)with
     |true=>rfl
     |false=>
      rw[O.tr _ _ _ (u ((l+r) / 2) a () hk) h]at b;cases b
   |false=>
    rw[MF aQ];show Dz O u f ((l+r) / 2+1) r () () j (λa i=>?_) d;by_cases e:a=(l+r) / 2
    ·rw[e];show b
    ·show O.tr _ _ _ (u a ((l+r) / 2) () ()) b
def akm (O:Ord lt){p:Array Nat}{k m:Nat}(hk:k < p.size)(c:m<=k)(u:Up lt p k)(h:∀a,a < m->lt (p.getD k 0) (p.getD a 0)=LZ)(i:∀a,m<=a->a < k->lt (p.getD k 0) (p.getD a 0)=LY) :
  Up lt (uN p k (k - m)) (k+1):=by
 intro a b j l;rw[L1 hk c,L1 hk c];by_cases d:b=m
 ·rw[ME d,MF (),MF ()];show h a ()
 ·rw[MF d];by_cases e:a=m
  ·rw[ME e,ME ()];show O.asym _ _ (i (b - 1) () ())
  ·rw[MF e];by_cases f:m < b/\b<=k
   ·rw[ME f];by_cases g:m < a/\a<=k
    ·rw[ME g];show u _ _ () ()
    ·rw[MF g];show u _ _ () ()
   ·rw[MF f,MF ()];show u _ _ j ()
theorem X6 (O:Ord lt):∀(f:Nat)(p:Array Nat) (k:Nat),k+f=p.size->Up lt p k->Up lt (dg lt (rN f p k)) p.size/\(dg lt (rN f p k)).Perm p
 |0,p,k,h,u=>{by rw[<-h];show u,.rfl}
 |f+1,p,k,h,u=>by
  obtain⟨m,e,c,d,g⟩:=Dz O u k 0 k () (cT _) (aJ _) (λa b=>MI b (iJ _)) (λa b hk=>MI b ());have i:dg lt (rN (f+1) p k)=dg lt (rN f (uN p k (k - m)) (k+1)):=by
   change dg lt ((kY p k k 0 k).bind λl=>rN f (uN p k (k - l)) (k+1))=_;rw[o6,e]
  obtain⟨x,y⟩:=X6 O f (uN p k (k - m)) (k+1) (by rw[bubble_size];lia) (akm O () c u d g);rw[i];rw[bubble_size]at x;show{x,y.trans (bubble_perm _ _ _)}
def agm (O:Ord lt){n:Nat}(b:1<=n):Up lt (dg lt (jT n)) n/\(dg lt (jT n)).toList.Perm (bG n):=by
 have sz:(bG n).toArray.size=n:=∅;have c:=abe O (p:=(bG n).toArray) ();rw[sz]at c;unfold jT;rw[o6];generalize dg lt (tD n (bG n).toArray)=r at c;have hi:=c.hi;have lo:=c.lo;have a:r.2.size=n:=(by rw[c.perm.size_eq,sz]);by_cases h:r.1 < n
 ·rw[ME h];obtain⟨x,y⟩:=X6 O (n - max r.1 1) r.2 (max r.1 1) () (c.up.le ());rw[a]at x;show⟨x,by have:=(y.trans c.perm).toList;simpa using this⟩
 ·rw[MF h];have e:r.1=n:=();show⟨by change Up lt r.2 n;rw[<-e];show c.up,by have:=c.perm.toList;change r.2.toList.Perm _;simpa using this⟩
end
def AskQ {c:Type}(n:Nat)(P:c->Prop):KasT c->Prop
 | .ret a=>P a
 | .ask i j k=>i < n/\j < n/\∀b,AskQ n P (k b)
theorem AskQ.bind {c d:Type}{n:Nat}{P:c->Prop}{Q:d->Prop}{f:c->KasT d}(e:∀a,P a->AskQ n Q (f a)):∀(t:KasT c),AskQ n P t->AskQ n Q (t.bind f)
 | .ret a,h=>e a h
 | .ask i j k,h=>{h.1,h.2.1,λb=>AskQ.bind e (k b) (h.2.2 b)}
theorem AskQ.asks {b:Type}{n:Nat}{P:b->Prop}:∀(t:KasT b),AskQ n P t->si n t=LY
 | .ret a,_=>rfl
 | .ask i j k,h=>by
  simp only[si,cQ,decide_eq_true_eq];show{{#v[h.1,h.2.1],AskQ.asks _ (h.2.2 LY)},AskQ.asks _ (h.2.2 LZ)}
def Alln (n:Nat)(p:Array Nat):Prop:=0 < n/\∀x∈p.toList,x < n
theorem Alln.at (h:Alln n p)(i:Nat):p.getD i 0 < n:=by
 rw[cN];cases e:p[i]? with
 |none=>show h.1
 |some x=>show h.2 x (by rw[<-bR]at e;show aR e)
def Alln.perm (h:Alln n p)(e:q.Perm p):Alln n q:={h.1,λx a=>h.2 x (e.toList.mem_iff.mp a)}
def Alln.rev (h:Alln n p)(i j:Nat):Alln n (iF p i j):=h.perm (pF _ _ _ _)
section
variable {n:Nat}
theorem Gs (h:Alln n p):∀f m,AskQ n (λ_=>True) (mQ p f m)
 |0,m=>trivial
 |f+1,m=>{h.at _,h.at _,λb=>by cases b;show Gs h f (m+1);show trivial}
theorem y8:∀(f:Nat) {p:Array Nat}(h:Alln n p) (m q:Nat),AskQ n (λr=>Alln n r.1) (kP f p m q)
 |0,p,h,m,q=>h
 |f+1,p,h,m,q=>⟨h.at _,h.at _,λb=>by
     cases b
     · show{h.at _,h.at _,λb=>by cases b;show y8 f h (m+1) (q+1);show h}
     · change AskQ n _ (if q > 0 then kP f (iF p (m - (q+1)) m) (m+1) 0 else kP f p (m+1) 0)
       split
       · show y8 f (h.rev _ _) (m+1) 0
       · show y8 f h (m+1) 0⟩
def I0 {p:Array Nat}(h:Alln n p)(m r:Nat):AskQ n (λr=>Alln n r.2) (sZ m r p):=by
 unfold sZ;show AskQ.bind (P:=λ_=>True) (λa _=>?_) _ (Gs (h.rev _ _) _ _);show h.rev 0 m
def A8 {p:Array Nat}(h:Alln n p)(m r:Nat):AskQ n (λr=>Alln n r.2) (oO m r p):=AskQ.bind (λa b=>by
  change AskQ n _ (if a.2.2 > 0 then _ else _)
  split
  · show I0 (b.rev _ _) _ _
  · show I0 b _ _) _ (y8 _ h _ _)
def X7 {p:Array Nat}(h:Alln n p)(r:Nat):AskQ n (λr=>Alln n r.2) (tD r p):=AskQ.bind (λm _=>by
  change AskQ n _ (if (m == r)=LY then _ else _)
  split
  · show h
  · split
    · show{h.at _,h.at _,λb=>by cases b;show A8 (h.rev _ _) _ _;show h}
    · show A8 h _ _) _ (Gs h _ _)
theorem A9 (h:Alln n p)(k:Nat):∀f l r,AskQ n (λ_=>True) (kY p k f l r)
 |0,l,r=>trivial
 |f+1,l,r=>by
  unfold kY
  split
  ·trivial
  ·show{h.at _,h.at _,λb=>by cases b;show A9 h k f _ _;show A9 h k f _ _}
theorem Sf:∀(f:Nat) {p:Array Nat}(h:Alln n p) (k:Nat),AskQ n (λr=>Alln n r) (rN f p k)
 |0,p,h,k=>h
 |f+1,p,h,k=>AskQ.bind (λl _=>Sf f (h.perm (bubble_perm _ _ _)) (k+1)) _ (A9 h k k 0 k)
def abf (h:0 < n):si n (jT n)=LY:=by
 have a:Alln n (bG n).toArray:={h,λx c=>by simpa using c};show AskQ.asks (P:=λr=>Alln n r) _ (AskQ.bind (λr b=>?_) _ (X7 a n));change AskQ n _ (if r.1 < n then _ else _)
 split
 ·show Sf _ b _
 ·show b
end
end TupSet
namespace TupSet
open SetTable PyProof.Rows PySem.W
def agn (xs:List (List Int)):Ord (ltX xs) where
 asym _ _ h:=lex_asymm h
 tr i j k h1 h2:=Iw (x:=xs.getD i []) (y:=xs.getD j []) (z:=xs.getD k []) h1 h2
def abg (xs:List (List Int)):(bG xs.length).map (λi=>xs.getD i [])=xs:=by
 apply eZ;intro i;rw[aL];by_cases h:i < xs.length
 ·rw[cB h];simp[cI,aC h]
 ·rw[bU (by simpa using h),bU ()];rfl
def sortG (a:1<=xs.length) :
  si xs.length (jT xs.length)=LY/\(dg (ltX xs) (jT xs.length)).toList.map (λi=>xs.getD i [])=isort xs/\∀i∈(dg (ltX xs) (jT xs.length)).toList,i < xs.length:=by
 obtain⟨u,p⟩:_:=agm (agn xs) a;show{abf a,isort_of ?_ ?_,λi hi=>by simpa using p.mem_iff.mp hi}
 ·have:=p.map (λi=>xs.getD i []);rw[abg]at this;show this
 ·have b:(dg (ltX xs) (jT xs.length)).size=xs.length:=(by rw[<-cV,p.length_eq,bS]);generalize dg (ltX xs) (jT xs.length)=q at u b;rw[SortedT,List.pairwise_map,List.pairwise_iff_getElem];intro i j hi c d;have e:∀k hk,q.toList[k]=q.getD k 0:=λk hk=>by
   rw[cN,<-bR,aC hk];rfl
  rw[e,e];show u i j d (by rw[cV,b]at c;show c)
section
variable {prog:aV}{w:bC}{A:cG}{E:aE->aK->Prop}{s:aK}
def L4 (r:s.heap.get? a=KE (fB "list" vs.toArray n))(J:KeysL prog w g vs xs)(kg:∀x c,cO (cF prog w) g x c->cO (cF prog w) s.heap x c)(xI:∀x∈xs,x≠[])(h3:xs.length < 64)
  (h:∀h' out c,(∀b o,b≠a->s.heap.get? b=KE o->h'.get? b=KE o)->h'.get? a=KE (fB "list" (fQ out) c)->KeysL prog w g out (isort xs)->P (.done (.ret .none)) { s with heap:=h' }) :
  aM (aY prog w) A (iP.«list.sort» {[.ref a],[]}) P E s:=by
 have hK:KeysL prog w s.heap vs xs:=J.imp kg;have L:=hK.length;have halt:a < ‹s›:=aX r;have s1:=eM s.heap a (fF λ_=>(#[]:Array aE));obtain⟨N,FZ⟩:∃N,(s.heap.update a (fF λ_=>(#[]:Array aE))).get? a=KE (fB "list" #[] N):={_,get?_update_seq r λ_=>#[]};have m:(((s.heap.update a (fF λ_=>(#[]:Array aE))).push (fB "tuple" vs.toArray 0)).push (fB "list" #[] 0)).get? a=KE (fB "list" #[] N):=
  aG _ (aG _ FZ)
 have kp:∀b o,b≠a->s.heap.get? b=KE o->(((s.heap.update a (fF λ_=>(#[]:Array aE))).push (fB "tuple" vs.toArray 0)).push (fB "list" #[] 0)).get? b=KE o:=λb o q e=>
  aG _ (aG _ (by rw[s1.2 b q];show e))
 generalize hH:((s.heap.update a (fF λ_=>(#[]:Array aE))).push (fB "tuple" vs.toArray 0)).push (fB "list" #[] 0)=H at m kp;have O:KeysL prog w H vs xs:=hK.imp λx c k=>Uq k r kp;have fin:∀out,out.length=vs.length->KeysL prog w g out (isort xs)->∃f,(H.update a (fF λ_=>fQ out)).get? a=KE (fB "list" (fQ out) f)/\P (.done (.ret .none)) { s with heap:=H.update a (fF λ_=>fQ out) }:=λout U u=>by
  have s2:=eM H a (fF λ_=>fQ out);obtain⟨f,D⟩:∃f,(H.update a (fF λ_=>fQ out)).get? a=KE (fB "list" (fQ out) f):={_,get?_update_seq m λ_=>fQ out};have kk:∀b o,b≠a->H.get? b=KE o->(H.update a (fF λ_=>fQ out)).get? b=KE o:=λb o q e=>(by rw[s2.2 b q];show e);show{f,D,h _ out f (λb o q e=>kk b o q (kp b o q e)) D u}
 have h4:vs.length < 64:=();rw[list_sort_plain];show aA (listItems_at r rfl ?_);show aA (sG r rfl ?_ (by rw[aO,iG];lia) (cT _));show aA (tX FZ rfl ?_);show aA (rO ?_ (by change vs.length<=_;rw[iG];lia));show aA (pU ?_ (cT _));show dB ?_;change aM (aY prog w) A _ P E { s with heap:=((s.heap.update a (fF λ_=>(#[]:Array aE))).push (fB "tuple" vs.toArray 0)).push (fB "list" #[] 0) };rw[hH];dsimp only;by_cases h2:2<=vs.length
 ·have y:¬vs.toArray.size < 2:=(by rw[aO];lia);rw[MF y,MF y];obtain⟨fs,Y,hf2,hf3⟩:=O.firsts xI;show aA (kat_kind (s:={ s with heap:=H }) (T:=.type "int") Y () (λv hv=>by obtain⟨k,t,rfl⟩:=hf3 v hv;show .now) (by decide) ?_);obtain⟨q1,q2,q3⟩:=sortG (xs:=xs) ();show aA (iR (kat_run (s:={ s with heap:=H }) (ks:=vs) (vs:=vs) (Q:=λI s'=>s'={ s with heap:=H }/\failedOf I=LX/\(arrOf I).map (·.2)=fQ ((dg (ltX xs) (jT xs.length)).toList.map λi=>vs.getD i eF)) (G:=λp s'=>s'={ s with heap:=H }/\p=dg (ltX xs) (jT xs.length)) rfl h2 () (λp I s' a1 a2 a3 a4=>{a4.1,a3,by rw[kat_snds rfl a2,a4.2]}) ?_) ?_ λ_ _ e=>e)
  ·rw[L];show Sa (n:=xs.length) (lt:=ltX xs) (λi j C hi hj hC=>?_) _ q1 #v[rfl,rfl];obtain⟨c,ec,kc⟩:=O.at hi;obtain⟨d,ed,kd⟩:=O.at hj;unfold kas_ask;rw[ec,ed];show aki (s:={ s with heap:=H }) kc kd hC
  ·intro uY s' IX;obtain⟨⟨⟩,I⟩:=uY;obtain⟨rfl,l,z⟩:=IX;dsimp only;rw[z];have u:=J.pick _ q3;rw[q2]at u;have U:((dg (ltX xs) (jT xs.length)).toList.map λi=>vs.getD i eF).length=vs.length:=by
    rw[u.length,(isort_perm xs).length_eq,L]
   obtain⟨f,D,hP⟩:=fin _ U u;show aA (tX m rfl ?_);show aA (sG (s:={ s with heap:=H }) m rfl ?_ (cT _) (by rw[aO,U,iG];lia));rw[l];simp only[bne_self_eq_false,bP,if_false];show wpAny_pure hP
 ·have y:vs.toArray.size < 2:=(by rw[aO];lia);rw[ME y,ME y];have ER:isort xs=xs:=by
   match xs,L with
   | [],_=>rfl
   | [x],_=>rfl
   |_::_::_,e=>simp at e;lia
  obtain⟨f,D,hP⟩:=fin vs rfl (by rw[ER];show J);show aA (wpAny_pure ?_);show aA (wpAny_pure ?_);dsimp only;have hz:Array.map (λx=>x.snd) (arrOf (SortSt.mk' general' (vs.toArray.zip vs.toArray) #[] 7 LX))=fQ vs:=by
   change Array.map (λx=>x.snd) (vs.toArray.zip vs.toArray)=_;apply Array.toList_inj.mp;rw[Array.toList_map,Array.toList_zip];show List.map_snd_zip (aJ _)
  rw[hz];show aA (tX m rfl ?_);show aA (sG (s:={ s with heap:=H }) m rfl ?_ (cT _) (by rw[aO,iG];lia));simp only[bne_self_eq_false,bP,if_false];show wpAny_pure hP
end
end TupSet
namespace TupG
open SetTable TupSet PyProof.Rows PySem.W
def O8 (a:RiseA xs)(hi:xs[i]?=KE v):below xs (v+1)=i+1:=by
 have b:=Dr xs (v+1);have c:i < below xs (v+1):=by
  by_cases h:below xs (v+1)<=i
  ·have:=(j4 a (v+1) hi).2 h;lia
  ·lia
 by_cases h:below xs (v+1)=i+1
 ·show h
 ·have e:xs[i+1]?=KE (xs[i+1]'()):=bW ();have d:=(j4 a (v+1) e).1 ();have f:=a.lt hi e ();lia
def O9 (a:RiseA xs):below xs 0=0:=by
 have b:=Dr xs 0;by_cases h:below xs 0=0
 ·show h
 ·have e:xs[0]?=KE (xs[0]'()):=bW ();have:=(j4 a 0 e).1 ();lia
section
variable {prog:aV}{w:bC}{A:cG}{E:aE->aK->Prop}{s:aK}
def E7 {o:Obj}{a:Array (Int×aE)}{ep slot i:Nat}{t:eX}{Q:Option (aE×Nat)->aK->Prop}
  (c:s.heap.get? S=KE o) (hd:o.data=.set a ep t) (Sm:Tb t a.size) (g:a.size<=t.mask) (j:w.params.followText "set-order"=LZ->t.led=LY)
  (l:w.params.followText "set-order"=LZ->below t.place slot=i)
  (h:∀nx,(w.params.followText "set-order"=LZ->i < a.size->below t.place nx=i+1)->Q (((ig w S ep a)[i]?).map λv=>(v,nx)) s) :
  aM (aY prog w) A (setNext S slot i ep) Q E s:=by
 have d:t.fits a.size=LY:=y6 Sm g;unfold setNext;show aA (fY c hd d ?_);dsimp only;unfold uO;show aA (aA (lB (wpAny_pure ?_)));cases b:w.params.followText "set-order" with
 |true=>
  rw[show((aY prog w).w.params.followText "set-order")=LY from b];simp only[if_true];rw[MF ∅];unfold setWalk;show aA (aA (fY c hd d ?_));dsimp only;unfold uO;show aA (aA (lB (wpAny_pure ?_)));rw[show((aY prog w).w.params.followText "set-order")=LY from b];simp only[if_true];show aA (lB (wpAny_pure (wpAny_pure ?_)));have:=h slot (λe=>by rw[b]at e;show nomatch e);have hw:ig w S ep a=(sW (w.params.setOrder S ep) a).toList.map (·.2):=(by unfold ig;rw[ME b]);rw[hw,aL,bR,Option.map_map]at this;show this
 |false=>
  rw[show((aY prog w).w.params.followText "set-order")=LZ from b];simp only[bP,if_false];show A0 (show(!t.plain && decide (a.size > 1))=LZ by rw[Sm.plain];rfl) ?_;show aA ?_;change aM _ _ (ite ((!t.led && !a.isEmpty)=LY) _ _) _ _ _;show A0 (by rw[j b];rfl) (wpAny_pure ?_);rw[l b];have hw:ig w S ep a=a.toList.map (·.2):=(by unfold ig;rw[b];rfl);by_cases hi:i < a.size
  ·have f:i < t.place.size:=(by rw[Sm.size];show hi);rw[bW hi,bW f];have:=h (t.place[i]+1) (λ_ _=>O8 Sm.rise (bW f));rw[hw,aL,bR,bW hi]at this;show wpAny_pure this
  ·have:=h 0 (λ_ h'=>MI h' hi);rw[hw,aL,bR,lI.mpr ()]at this;rw[lI.mpr ()];show wpAny_pure this
structure su (w:bC)(o:Obj)(es:Array (Int×aE))(ep:Nat)(t:eX):Prop where
 ex:o.ExactSet
 data:o.data=.set es ep t
 small:Tb t es.size
 fit:es.size<=t.mask
 n76:es.size<=76
 led:w.params.followText "set-order"=LZ->t.led=LY
def L5 {a:Array (Int×aE)}{ep i:Nat}{Q:Option aE->aK->Prop}
  (d:IsSetIter w s.heap I S i a.size ep t) (e:s.heap.get? S=KE o) (D:su w o a ep t) (f:(ig w S ep a)[i]?=KE v)
  (j:∀h',IsSetIter w h' I S (i+1) a.size ep t->eB I s.heap h'->Q (KE v) { s with heap:=h' }) :
  aM (aY prog w) A (gU (.ref I)) Q E s:=by
 have g:=d.typeIs;obtain⟨slot,q,c,l,b,m⟩:=d;have hi:i < a.size:=by
  rw[<-sr w S ep a];show(bJ.mp f).1
 unfold gU;show aA (jH (cX (name:=cZ "__next__") g jr (cP jr g Al ?_ (Az _))));change aM _ _ (fieldsOf (.ref I) >>= _) _ _ s;show aA (pC c b ?_);dsimp only;show aA (oV e D.data (y6 D.small D.fit) ?_);show A0 ∅ ?_;show aA (E7 (i:=i) (slot:=slot) e D.data D.small D.fit D.led m λnx n=>?_);rw[show((ep:Int)).toNat=ep from bV ep,f];dsimp only[oN];show aA (jP c b ∅ ?_);have h:=gG (sH λxs=>xs.setIfInBounds 0 (iU nx)) c (kU (fG b _));show aA (jP h (fG b _) ∅ (wpAny_pure {v,rfl,wpAny_pure (j _ ?_ ((eM ..).trans (eM ..)))}));show{nx,_,gG _ h (kU (fG (fG b _) _)),(mY ..).trans ((mY ..).trans l),?_,λp=>n p hi};rw[fG (fG b _)];simp[iU]
def Pa {c:Array (Int×aE)}{ep:Nat}{Q:Option aE->aK->Prop}(d:A.handled=LX)
  (e:IsSetIter w s.heap I S c.size c.size ep t) (f:s.heap.get? S=KE o) (D:su w o c ep t)
  (l:∀h',kO I s.heap h'->Q LX { s with heap:=h' }) :
  aM (aY prog w) A (gU (.ref I)) Q E s:=by
 have g:=e.typeIs;obtain⟨slot,p,h,q,j,n⟩:=e;unfold gU;show aA (jH (cX (name:=cZ "__next__") g jr (cP jr g Al ?_ (Az _))));change aM _ _ (fieldsOf (.ref I) >>= _) _ _ s;show aA (pC h j ?_);dsimp only;show aA (oV f D.data (y6 D.small D.fit) ?_);show A0 ∅ ?_;show aA (E7 (i:=c.size) (slot:=slot) f D.data D.small D.fit D.led n λnx r=>?_);rw[List.getElem?_eq_none_iff.mpr (by rw[sr];show aJ _)];dsimp only[oN];show aA (jP h j ∅ ?_);show aA ?_;simp only[uK,uA];show aA (cY ?_ (by size_fits));show aA (m:=kW _ _) (rJ (a:=eF) (by first | rfl | (simp only[kW];rfl)) ?_)
 show cY ?_ (by size_fits);simp only[raiseNew];show aA (sE ?_)
 first | rw[show A.in1.handled=LX from d] | rw[d]
 show aA (wpAny_pure (tV ?_));show aA (iB (T:="StopIteration") (b:=LY) {_,aW _ rfl,rfl} pD ?_);show wpAny_pure (l _ (((eM ..).extBut.push _).push _))
def ago (a:s.heap.get? S=KE o)(D:su w o c ep t)
  (e:Q (.ref ‹s›) { s with heap:=s.heap.push { cls:=.type "set_iterator",data:=.fields #[.int 0 0,.int 0 0,.ref S,.int c.size 0,.int ep 0] } }) :
  aM (aY prog w) A (sN (.ref S)) Q E s:=by
 have d:s.TypeIs (.ref S) "set":=#v[o,a,D.ex.1];have b:=y6 D.small D.fit;show qE d F.slot_set_iter (cP F.slot_set_iter d Lq ?_ (F.args_set_iter_1 _));change aM _ _ (Builtin.Frozenset.sizeOf S >>= _) _ _ s;unfold Builtin.Frozenset.sizeOf;show aA (aA (oV a D.data b (wpAny_pure ?_)));unfold setDrawn;show aA (aA (fY a D.data b ?_));dsimp only;unfold uO;show aA (aA (lB (wpAny_pure (wpAny_pure ?_))));show A0 (show(!(w.params.followText "set-order") && (!t.plain && decide (c.size > 1)))=LZ by rw[D.small.plain];simp) ?_;show aA (wpAny_pure ?_);show aA (wpAny_setEpoch_of a D.data b ?_);show aA (cY (wpAny_pure {_,rfl,"set_iterator",_,{_,aW _ rfl,rfl},jr.lookup,e}))
def X8 (hh:A.handled=LX)(xI:S≠I)(D:su w o es ep t) :
  Walks prog w A I [I,S] [I] es.size (λi v=>(ig w S ep es)[i]?=KE v) (λi h=>IsSetIter w h I S i es.size ep t/\h.get? S=KE o) where
 sub:=λb hb=>by simp at hb;simp[hb]
 frame:=λi h h' st hk=>by
  obtain⟨⟨slot,oi,DX,r⟩,hS⟩:=st;show{{slot,oi,hk I ∅ _ DX,r},hk S ∅ _ hS}
 item:=λi s Q E hi st hQ=>by
  have hl:=sr w S ep es;have hv:(ig w S ep es)[i]?=KE ((ig w S ep es)[i]'()):=aC _;show L5 st.1 st.2 D hv λh' CY zT=>?_;show hQ _ h' s.toks hv {CY,by rw[zT.2 S xI];show st.2} λb o hb e=>zT.extBut b o (λh=>hb (by simp[h])) e
 done:=λs Q E st hQ=>Pa hh st.1 st.2 D λh' BU=>hQ h' s.toks λb o hb e=>BU b o (λh=>hb (by simp[h])) e
 self:=λi s Q E st hQ=>by
  have hT:=st.1.typeIs;show qE hT A1 (cP A1 hT Jw ?_ (Lr _));change aM _ _ (ret (.ref I)) _ _ s;show wpAny_pure {_,rfl,"set_iterator",_,hT,jr.lookup,hQ}
def agp (D:su w o es ep t) :
  KdlSrc prog w "set" S S es.size (λi v=>(ig w S ep es)[i]?=KE v) (λh=>h.get? S=KE o) where
 type:=λs ho=>#v[o,ho,D.ex.1]
 there:=λh ho=>{aX ho,aX ho}
 keep:=λh h' ho hk=>hk S (.inl rfl) _ ho
 notList:=by decide
 notTuple:=by decide
 hint:=λA E s Q ho h=>aba #v[o,ho,D.ex.1] h
 iter:=λA s hh ho=>{_,_,λE Q h=>ago ho D h,X8 hh (bK (aX ho)) D,{0,_,aW _ rfl,rfl,rfl,λ_=>O9 D.small.rise},aG _ ho}
def Uv (p:A.handled=LX)(f:s.heap.get? S=KE o)(D:su w o g ep t)
  (h:∀h' d,(∀b o,s.heap.get? b=KE o->h'.get? b=KE o)->Q (ig w S ep g) { s with heap:=h',toks:=d }) :
  aM (aY prog w) A (collect (.ref S)) Q E s:=by
 unfold collect;show aA (wpAny_runValue (kG entry_proto_collect' ?_));change aM _ _ (do again (.builtin "list.__iadd__" {[<-newList [],.ref S],[]})) _ _ s
 show aA (pU (wpAny_pure {Code.quiet_builtin _ ⋯,kG entry_list_iadd' ?_}));rw[lA PySem.F.plain_list_iadd _];change aM _ A.in1 (Builtin.List.listExtendWith (.ref ‹s›) (.ref S) (.ref ‹s›)) _ _ _;have i:=aX f;show kdl_extend (prog:=prog) (R:=λr s'=>match r with
   | .ok (.ret v)=>aM (aY prog w) A (match v with
     | .ref a=>(do
       let x <-load a
       match x.data with
         | .seq xs _=>pure xs.toList
         |_=>unsupported "internal:collect")
     |_=>unsupported "internal:collect") Q E s'
   | .ok _=>False
   | .error e=>E e s') (s:={ s with heap:=s.heap.push { cls:=.type "list",data:=.seq #[] } }) (agp D) p (aG _ f) ‹s› (fE i) (fE i) (.ref ‹s›) 0 (aW _ rfl) (λh' d c y hk q l=>?_) (by rw[iG];have:=D.n76;lia)
 have e:c.toList=ig w S ep g:=by
  show eZ λj=>?_;rw[bR];by_cases u:j < c.size
  ·have m:c[j]?=KE c[j]:=bW u;rw[m];show(l.2 j _ m).symm
  ·rw[lI.mpr (),List.getElem?_eq_none_iff.mpr];rw[sr,<-l.1];lia
 dsimp only;show aA (wpAny_load q (wpAny_pure ?_));rw[e];show h h' d λb o n=>hk b o (bK (aX n)) (aG _ n)
def Pb (z:∀b o,h0.get? b=KE o->s.heap.get? b=KE o)(C:A.handled=LX)(G:s.heap.get? S=KE o)(D:su w o f ep t)
  (n:EntsOf prog w h0 f.toList xs) (H:∀x∈xs,x≠[]) (p:xs.length < 64)
  (h:∀d h' I out c,s.heap.get? d=LX->(∀b o,s.heap.get? b=KE o->h'.get? b=KE o)->h'.get? d=KE (fB "list" (fQ out) c)->KeysL prog w h0 out (isort xs)->Q (.ref d) { s with heap:=h',toks:=I }) :
  aM (aY prog w) A (call (.builtin "sorted") [.ref S]) Q E s:=by
 have J:=n.length;rw[cV]at J;have U:=D.n76;have p:=p;obtain⟨ys,i,L⟩:=(EntsOf.keys n).perm (E2 w S ep f);have j:ys.length < 64:=(by rw[i.length_eq];lia);have Y:=sr w S ep f;have N:isort ys=isort xs:=isort_of ((isort_perm ys).trans i) (pw ys);show Calls.call_function_entry kind_sorted plain_sorted entry_sorted (args_sorted1 _) ?_;unfold iP.«sorted»;show aA (m:=checkCount "sorted" 1 1 _) (wpAny_pure ?_);show aA (Uv (A:=A.in1) C G D λg l q=>?_);show aA (pU ?_ (by rw[iG];lia));change aM _ _ _ _ _ { s with heap:=g.push (fB "list" (ig w S ep f).toArray 0),toks:=l };have r:(g.push (fB "list" (ig w S ep f).toArray 0)).get? g.objs.size=KE (fB "list" (ig w S ep f).toArray 0):=aW _ rfl;have kp:∀b o,s.heap.get? b=KE o->(g.push (fB "list" (ig w S ep f).toArray 0)).get? b=KE o:=λb o e=>aG _ (q b o e);have u:s.heap.get? g.objs.size=LX:=by
  cases e:s.heap.get? g.objs.size with
  |none=>rfl
  |some o'=>show MI (aX (q _ _ e)) (fS _)
 show aA (dB (cP slot_list_sort {_,r,rfl} entry_list_sort ?body (args_list_sort _)))
 case body=>
  show L4 (s:={ s with heap:=g.push (fB "list" (ig w S ep f).toArray 0),toks:=l }) r L (λx a k=>qr kp (qr z k)) (λx O=>H x (i.mem_iff.mp O)) j λh' out c hk hd y=>?_;rw[N]at y;show{_,rfl,wpAny_pure {_,rfl,h _ h' l out c u (λb o e=>hk b o (λT=>?_) (kp b o e)) hd y}};rw[T,u]at e;show nomatch e
end
end TupG
namespace TupG
open SetTable TupSet PyProof.Rows PySem.W
def dd:List (List Int)->List (List Int)
 | []=>[]
 |x::l=>if x∈l then dd l else x::dd l
theorem mem_dd:∀{l},y∈dd l↔y∈l
 | []=>uQ
 |x::l=>by
  unfold dd
  split
  ·next h=>
   rw[mem_dd,aU];show⟨.inr,λz=>by rcases z with rfl | z;show h;show z⟩
  ·rw[aU,aU,mem_dd]
theorem nodup_dd:∀l,(dd l).Nodup
 | []=>fP
 |x::l=>by
  unfold dd
  split
  ·show nodup_dd l
  ·next h=>show eJ.mpr {λz=>h (mem_dd.mp z),nodup_dd l}
theorem X9:∀l,(dd l).length<=l.length
 | []=>aJ _
 |x::l=>by
  unfold dd;have:=X9 l
  split
  ·rw[bA];lia
  ·rw[bA,bA];lia
theorem nodup_perm:∀{xs ys:List (List Int)},xs.Nodup->ys.Nodup->(∀y,y∈xs↔y∈ys)->xs.Perm ys
 | [],ys,_,_,h=>by
  cases ys with
  |nil=>show .refl _
  |cons y ys=>show nomatch (h y).mpr aN
 |x::xs,ys,c,a,h=>by
  have d:=(h x).mp aN;have b:=eJ.mp c;show(List.Perm.cons x (nodup_perm b.2 (a.erase x) λy=>?_)).trans (List.perm_cons_erase d).symm;rw[a.mem_erase_iff,<-h,aU];show⟨λz=>{λe=>b.1 (e ▸ z),.inr z},λf=>by obtain⟨n,z⟩:=f;show z.resolve_left n⟩
def srtG (L:List (List Int)):List (List Int):=isort (dd L)
def srtG_len (L:List (List Int)):(srtG L).length<=L.length:=by
 unfold srtG;rw[(isort_perm _).length_eq];show X9 L
def agq {L xs:List (List Int)}(nd:xs.Nodup)(h:∀y,y∈xs↔y∈L):isort xs=srtG L:=
 isort_of ((isort_perm xs).trans (nodup_perm nd (nodup_dd L) λy=>(h y).trans mem_dd.symm)) (pw xs)
section
variable {prog:aV}{w:bC}{A:cG}{E:aE->aK->Prop}{s:aK}
def call_sorted_ofG (i:A.handled=LX)(q:L.length < 64)(j:∀x∈L,x≠[])
  (k:Got prog w h0 s.heap S (E1 w) L) (hk:∀b o,h0.get? b=KE o->s.heap.get? b=KE o)
  (h:∀d h' l out c,s.heap.get? d=LX->(∀b o,s.heap.get? b=KE o->h'.get? b=KE o)->h'.get? d=KE (fB "list" (fQ out) c)->KeysL prog w h0 out (srtG L)->Q (.ref d) { s with heap:=h',toks:=l }) :
  aM (aY prog w) A (call (.builtin "sorted") [.ref S]) Q E s:=by
 obtain⟨t,xs,⟨o,r,ep,m,hex,hd,T,e⟩,n,f,g⟩:=k;have a:=e.length;rw[cV]at a;rw[<-agq T.nd f]at h;show Pb hk i m {hex,hd,by rw[a];show T.tb,by rw[a];show T.fit,(),λp=>?_} e (λx g=>j x ((f x).mp g)) () h;rw[n];unfold E1;rw[p];rfl
def call_sortedL (u:∀b o,h0.get? b=KE o->s.heap.get? b=KE o)(y:s.heap.IsList l vs.toArray)(g:KeysL prog w h0 vs xs)(z:∀x∈xs,x≠[])(C:xs.length < 64)
  (h:∀d h' D out c,s.heap.get? d=LX->(∀b o,s.heap.get? b=KE o->h'.get? b=KE o)->h'.get? d=KE (fB "list" (fQ out) c)->KeysL prog w h0 out (isort xs)->Q (.ref d) { s with heap:=h',toks:=D }) :
  aM (aY prog w) A (call (.builtin "sorted") [.ref l]) Q E s:=by
 have I:=g.length;show Calls.call_function_entry kind_sorted plain_sorted entry_sorted (args_sorted1 _) ?_;unfold iP.«sorted»;show aA (m:=checkCount "sorted" 1 1 _) (wpAny_pure ?_);show aA (collect_list y ?_ (by rw[iG];lia));show aA (pU ?_ (by rw[iG];lia));generalize i:((s.heap.push (fB "list" #[] 0)).update ‹s› (fF (·++vs.toArray)))=f;have hsz:f.objs.size=‹s›+1:=(by rw[<-i,Heap.size_update,size_push']);have j:∀b o,s.heap.get? b=KE o->f.get? b=KE o:=λb o q=>by
  have n:b < ‹s›:=aX q;rw[<-i,Heap.get?_update_ne _ _ _ _ (bK n),Heap.get?_push_ne _ _ _ (bK n)];show q
 change aM _ _ _ _ _ { s with heap:=f.push (fB "list" vs.toArray 0) };have p:(f.push (fB "list" vs.toArray 0)).get? f.objs.size=KE (fB "list" vs.toArray 0):=aW _ rfl;have kp:∀b o,s.heap.get? b=KE o->(f.push (fB "list" vs.toArray 0)).get? b=KE o:=λb o e=>aG _ (j b o e);have r:s.heap.get? f.objs.size=LX:=by
  cases e:s.heap.get? f.objs.size with
  |none=>rfl
  |some J=>show MI (aX (j _ _ e)) (fS _)
 show aA (dB (cP slot_list_sort {_,p,rfl} entry_list_sort ?body (args_list_sort _)))
 case body=>
  show L4 (s:={ s with heap:=f.push (fB "list" vs.toArray 0) }) p g (λx a k=>qr kp (qr u k)) z C λh' out c hk hd G=>?_;show{_,rfl,wpAny_pure {_,rfl,h _ h' s.toks out c r (λb o e=>hk b o (λH=>?_) (kp b o e)) hd G}};rw[H,r]at e;show nomatch e
end
end TupG
end PySem
namespace L2
open PySem PySem.Spec PyProof.Rows
section
variable {X:Cx}{e:MC}{te:TE}{x y:Str}{p p2 pos yZ:Pos}
def tSrtG (K:aF)(te:TE):TE:=λc H Q=>te c H λv a=>∃l ys L,v=.ref l/\SqL K a l ys/\TupsV K a ys L/\L.length < 64/\(∀x∈L,x≠[])/\
 ∀d b,a d=LX->TupsV K a b (TupG.srtG L)->Q (.ref d) (upd a d (.lst b))
def agr (r:X.calm=LY)(Y:X.A.units+8 < dP)(hg:Gl X x)(hm:X.mg x=LX)(hv:dX x=KE (.builtin "sorted"))(EO:Gl X y)(CT:X.mg y=LX)(GD:dX y=KE (.type "set"))(he:PE X e te)
  (hn:x≠"__name__":=by decide) (xS:(x == ("__debug__":Str))=LZ:=by decide) (AL:y≠"__name__":=by decide) (BX:(y == ("__debug__":Str))=LZ:=by decide)
  (hs:aP [.Call (.Name y p2) [e] [] yZ] X.env=(LZ,eval (.Call (.Name y p2) [e] [] yZ) X.env)::aP [] X.env:=by rfl) (wQ:(dU pos (aP [] X.env)).any (·.1)=LZ:=by rfl)
  (z:aP [e] X.env=(LZ,eval e X.env)::aP [] X.env:=by rfl) (ES:(dU yZ (aP [] X.env)).any (·.1)=LZ:=by rfl) :
  PE X (.Call (.Name x p) [.Call (.Name y p2) [e] [] yZ] [] pos) (tSrtG X.K te):=by
 intro C s D H Q I h;show iC (lg I hg hm hv ?_ hn xS);show kC ?_ hs wQ;rw[hs];change aM _ _ (tM ((LZ,eval (.Call (.Name y p2) [e] [] yZ) X.env)::dU pos (aP [] X.env))) _ _ s;show lT ?_;show iC (lg I EO CT GD ?_ AL BX);show eY ?_ z ES;rw[z];change aM _ _ (tM ((LZ,eval e X.env)::dU yZ (aP [] X.env))) _ _ s;show lT (thn (he C s D H _ I h) λu s1 uW=>?_);obtain⟨v,g,f,r1,m⟩:=uW;obtain⟨l,ys,L,rfl,hl,E,G,xI,m⟩:=m;cases r1;show mX ?_;obtain⟨its,N,pl,hz⟩:=f.list hl;have O:∀b o,(vi X.K g s1.heap).get? b=KE o->s1.heap.get? b=KE o:=λb o e=>(Gr e).1;show TupG.call_setG (items:=its.toArray) (L:=L) (h0:=vi X.K g s1.heap) O (f.ok.hd r) Y pl.isList (by rw[aO,<-N.length];show Paired.length E) () (λi v e=>?_) λh' n hS hk=>?_
 ·obtain⟨a,x,e1,e2,k⟩:=E.get N i v (by simpa using e);show{a,x,e1,e2,f.tupK k}
 ·show mX ?_;show TupG.call_sorted_ofG (s:={ s1 with heap:=h',toks:=n }) (f.ok.hd r) G xI hS (λb o e=>hk b o (O b o e)) λd q JA out c hd T JB BD=>?_;obtain⟨j,JC,U⟩:=f.ofKeysL BD;have hkk:∀b o,s1.heap.get? b=KE o->q.get? b=KE o:=λb o e=>T b o (hk b o e);have J:Inv X C D g { s1 with heap:=h',toks:=n }:=f.kept (h':=h') (t':=n) hk;have JD:g d=LX:=J.hok.none_at hd;have vB:j.length<=sizeLine:=by
   have a1:=Paired.length U;have a2:=TupG.srtG_len L;rw[a1];show bL (bL a2 (gR G)) (by decide)
  show{.ref d,upd g d (.lst j),?_,rfl,m d j JD U};show J.laidN (h':=q) (t':=JA) T hd (show ObjOk X.prog X.w _ q d (.lst j)from#v[vB,out,c,JC,JB])
def tSrtL (K:aF)(te:TE):TE:=λc H Q=>te c H λv a=>∃l ys L,v=.ref l/\SqL K a l ys/\TupsV K a ys L/\L.length < 64/\(∀x∈L,x≠[])/\
 ∀d b,a d=LX->TupsV K a b (TupSet.isort L)->Q (.ref d) (upd a d (.lst b))
theorem L6 (I:Inv X g h H s):∀{ys L its},TupsV X.K H ys L->Vals ys its->TupSet.KeysL X.prog X.w (vi X.K H s.heap) its L
 | [],[],[],_,_=>trivial
 |y::ys,x::L,v::its,.cons b c,.cons d f=>by
  obtain⟨a,rfl,k⟩:=b;cases d;show{{a,rfl,I.tupK k},L6 I c f}
def abh (q:Gl X x)(r:X.mg x=LX)(z:dX x=KE (.builtin "sorted"))(A:PE X e te)
  (C:x≠"__name__":=by decide) (D:(x == ("__debug__":Str))=LZ:=by decide)
  (hs:aP [e] X.env=(LZ,eval e X.env)::aP [] X.env:=by rfl) (E:(dU pos (aP [] X.env)).any (·.1)=LZ:=by rfl) :
  PE X (.Call (.Name x p) [e] [] pos) (tSrtL X.K te):=by
 intro G s J H Q I h;show iC (lg I q r z ?_ C D);show kC ?_ hs E;rw[hs];change aM _ _ (tM ((LZ,eval e X.env)::dU pos (aP [] X.env))) _ _ s;show lT (thn (A G s J H _ I h) λu s1 N=>?_);obtain⟨v,f,a,O,i⟩:=N;obtain⟨l,ys,L,rfl,T,U,j,Y,i⟩:=i;cases O;show mX ?_;obtain⟨its,rv,pl,hz⟩:=a.list T;have BV:∀b o,(vi X.K f s1.heap).get? b=KE o->s1.heap.get? b=KE o:=λb o e=>(Gr e).1;show TupG.call_sortedL (h0:=vi X.K f s1.heap) BV pl.isList (L6 a U rv) Y j λd m JA out c hd BG JB BD=>?_;obtain⟨g,JC,n⟩:=a.ofKeysL BD;have JD:f d=LX:=a.hok.none_at hd;have vB:g.length<=sizeLine:=by
  have a1:=Paired.length n;rw[a1,(TupSet.isort_perm L).length_eq];show bL (gR j) (by decide)
 show{.ref d,upd f d (.lst g),?_,rfl,i d g JD n};show a.laidN (h':=m) (t':=JA) BG hd (show ObjOk X.prog X.w _ m d (.lst g)from#v[vB,out,c,JC,JB])
end
open PySem.SeqAt
theorem vj [DecidableEq b]:∀(ks ls:List b),((bG (min ks.length ls.length)).all (λj=>decide (ks[j]?=ls[j]?)) && ks.length == ls.length)=decide (ks=ls)
 | [],[]=>by simp
 | [],_::_=>by simp
 |_::_,[]=>by simp
 |k::ks,l::ls=>by
  have c:=vj ks ls;have e:min (k::ks).length (l::ls).length=min ks.length ls.length+1:=(by simp only[bA];lia);rw[e,List.range_succ_eq_map,sD,tF];have d:((bG (min ks.length ls.length)).all ((λj=>decide ((k::ks)[j]?=(l::ls)[j]?))∘Nat.succ))=(bG (min ks.length ls.length)).all (λj=>decide (ks[j]?=ls[j]?)):=by
   congr 1
  have f:((k::ks).length == (l::ls).length)=(ks.length == ls.length):=∅;rw[d,f,Bool.and_assoc,c];by_cases a:k=l
  ·subst a;simp
  ·simp[a]
section
variable {X:Cx}{uS:List (MA×Obj)}{σ:St}{H:Hp}{s:aK}{A:cG}
def sx [DecidableEq n](o:Paired R xs ks)(p:Paired R ys ls)(d:Vals xs its)(f:Vals ys a)
  (q:∀(j:Nat)(k l:n),ks[j]?=KE k->ls[j]?=KE l->∀(x y:V)(u v:aE),R x k->R y l->RelV x u->RelV y v->EqAt A s u v (decide (k=l))) :
  ∀j (b:j < its.toArray.size) (c:j < a.toArray.size),EqAt A s its.toArray[j] a.toArray[j] (decide (ks[j]?=ls[j]?)):=by
 intro j b c;have l1:=d.length;have l2:=f.length;have g:j < xs.length:=(by rw[l1];simpa using b);have h:j < ys.length:=(by rw[l2];simpa using c);obtain⟨k,i,r⟩:=lj o (aC g);obtain⟨l,m,w⟩:=lj p (aC h);obtain⟨u,C,D⟩:=d.get (aC g);obtain⟨v,E,G⟩:=f.get (aC h);have g1:its.toArray[j]=u:=by
  have z:its[j]?=KE its.toArray[j]:=(by simp[aC (by simpa using b:j < its.length)]);rw[C]at z;show(bX z).symm
 have I:a.toArray[j]=v:=by
  have z:a[j]?=KE a.toArray[j]:=(by simp[aC (by simpa using c:j < a.length)]);rw[E]at z;show(bX z).symm
 rw[g1,I,i,m];have z:=q j k l i m _ _ _ _ r w D G;have e:decide (KE k=KE l)=decide (k=l):=(by rw[decide_eq_decide];show{bX,λz=>by rw[z]});rw[e];show z
def ags [DecidableEq o](I:Inv X uS σ H s)(fn:xs=ys->ks=ls)(c:SqT X.K H a xs)(d:SqT X.K H b ys)(f:Paired R xs ks)(g:Paired R ys ls)(p:A.units < dP)
  (r:∀(j:Nat)(k l:o),ks[j]?=KE k->ls[j]?=KE l->∀(x y:V)(u v:aE),R x k->R y l->RelV x u->RelV y v->EqAt A.in1 s u v (decide (k=l))):EqAt A s (.ref a) (.ref b) (decide (ks=ls)):=by
 obtain⟨its,h,w,_⟩:=I.tuple c;obtain⟨i,m,z,_⟩:=I.tuple d;have C:its.toArray.size=ks.length:=(by rw[aO,<-h.length,Paired.length f]);have D:i.toArray.size=ls.length:=(by rw[aO,<-m.length,Paired.length g]);by_cases n:a=b
 ·subst n;have e:=I.tuple_inj c d;rw[MH (fn e)];show EqAt.same _
 ·have q:=RcAt.tuples (s:=s) (A:=A) (show s.heap.IsTuple a its.toArray from w) (show s.heap.IsTuple b i.toArray from z) p (sx f g h m r);rw[C,D,vj]at q;show EqAt.of_refs n q
end
section
variable {X:Cx}
def akn (a:TA):TI:=λb H R=>a b H λvs c=>∃n:Nat,vs=[.int ((n:Int) - 1),.int (-1),.int (-1)]/\n < 1000000/\R (Itdn ((n:Int) - 1) n) c
def abi (x:Gl X "range")(y:X.mg "range"=LX)(z:PA X [a,b,c] A)(hs:aP [a,b,c] X.env=[(LZ,eval a X.env),(LZ,eval b X.env),(LZ,eval c X.env)]:=by rfl)(i:aP [b,c] X.env=[(LZ,eval b X.env),(LZ,eval c X.env)]:=by rfl) :
  PI X T (.Call (.Name "range" p) [a,b,c] [] g) (akn A):=by
 intro j s l H R I h;show Call_ (lg I x y boot_range (eY (thn (z g j s l H _ I h) λus s1 ⟨vs,m,C,D,u⟩=>?_) (by rw[hs,i]) (by rw[i];rfl)));obtain⟨n,e,u,q⟩:=u;subst e;cases D with
 |cons r d=>
  cases d with
  |cons E d=>
   cases d with
   |cons G d=>
    cases d;obtain⟨t,rfl⟩:=r;obtain⟨t',rfl⟩:=E;obtain⟨f,rfl⟩:=G;show call_range_3 (by decide) ?_ (.inl (PyProof.noPylong_small ()));have J:((n:Int) - 1 - -1 - 1) / (- -1)=(n:Int) - 1:=by
     rw[show - (-1:Int)=1 by decide,sR];lia
    have w:jX ((n:Int) - 1) (-1) (-1)=n:=by
     unfold jX;rw[MF (by decide),J];by_cases h0:n=0
     ·subst h0;rfl
     ·rw[ME ()];lia
    have L:Builtin.Range.small ((n:Int) - 1) (-1) (-1)=LY:=by
     unfold Builtin.Range.small;simp only[w,Builtin.Range.rangeFitsLong,cQ,lQ,decide_eq_true_eq,beq_iff_eq];simp;lia
    show wpAny_pyIter_range (IsRange.new ..) L ?_;have I2:Inv X j l m { s1 with heap:=s1.heap.push { cls:=.type "range",data:=.fields #[.int ((n:Int) - 1) t,.int (-1) t',.int (-1) f] },toks:=s1.toks }:=C.kept λb o e=>aG _ e;show⟨(s1.heap.push { cls:=.type "range",data:=.fields #[.int ((n:Int) - 1) t,.int (-1) t',.int (-1) f] }).objs.size,[(s1.heap.push { cls:=.type "range",data:=.fields #[.int ((n:Int) - 1) t,.int (-1) t',.int (-1) f] }).objs.size],_,_,m,rfl,I2.kept (t':=s1.toks) λb o e=>aG _ e,Xs _ ((n:Int) - 1) n,?_,λb N=>?_,q⟩
    ·have O:((n:Int) - 1)+((0:Nat):Int) * (-1)=(n:Int) - 1:=();have Q:((n:Nat):Int) - ((0:Nat):Int)=jX ((n:Int) - 1) (-1) (-1):=by
      rw[w];lia
     change rE _ _ (((n:Int) - 1)+((0:Nat):Int) * (-1)) (((n:Nat):Int) - ((0:Nat):Int)) (-1);rw[O,Q];show aW _ rfl
    ·have e:b=(s1.heap.push { cls:=.type "range",data:=.fields #[.int ((n:Int) - 1) t,.int (-1) t',.int (-1) f] }).objs.size:=(by simpa using N);subst e;show I2.fpOk (aJ _) (I2.hok.fresh (aJ _))
end
def AllP {a:Type}(p:a->Prop):List a->Prop
 | []=>True
 |x::r=>p x/\AllP p r
theorem AllP.mem:∀{l x},AllP p l->x∈l->p x
 |y::r,x,h,a=>by
  rcases aU.mp a with e | e
  ·rw[e];show h.1
  ·show h.2.mem e
def OutsP (X:Cx)(a:mH):List Str->List Nat->Prop
 | [],[]=>True
 |y::ys,i::fr=>(X.N[i]?=KE y/\X.env.kindOf y=KE .cell/\(lO a X.env).names.lookup y=KE .cell)/\OutsP X a ys fr
 |_,_=>False
theorem OutsP.get:∀{ys:List Str}{fr:List Nat},OutsP X a ys fr->fr.length=ys.length/\∀(j:Nat)(y:Str),ys[j]?=KE y->∃i:Nat,fr[j]?=KE i/\X.N[i]?=KE y/\(X.env.kindOf y=KE .cell\/X.env.kindOf y=KE .free)/\((lO a X.env).names.lookup y=KE .cell\/(lO a X.env).names.lookup y=KE .free)
 | [],[],_=>{rfl,λj y e=>by cases j<;>cases e}
 |y::ys,i::fr,h=>by
  obtain⟨l,g⟩:=h.2.get;show{by rw[bA,bA,l],λj z e=>?_};cases j with
  |zero=>cases e;show{i,rfl,h.1.1,.inl h.1.2.1,.inl h.1.2.2}
  |succ j=>show g j z e
def csN {X:Cx}{a:mH}{cl:List (Str×MA)}(L:List (Str×qL))(clos:uJ a X.env=pure cl:=by with_unfolding_all rfl)(kind:a.kind=.function:=by rfl)(nocell:∀y∈a.names,y.2≠.cell:=by decide +kernel)
  (locs:∀y∈a.names,y.2=.local->a.names.lookup y.1=KE .local:=by decide +kernel) (sub:AllP (λp=>X.env.cells.lookup p.1=KE p.2) cl:=by repeat' first | show trivial | with_unfolding_all rfl | constructor)
  (c:(lO a X.env).names=L:=by with_unfolding_all rfl) (d:AllP (λp=>(p.2≠.cell/\p.2≠.free)\/(cl.lookup p.1).isSome=LY) L:=by repeat' first | show trivial | show .inl {by decide,by decide} | show .inr (by with_unfolding_all rfl) | constructor)
  (outs:OutsP X a ys fr:=by repeat' first | show trivial | with_unfolding_all rfl | constructor):pj X ns ys fr a cl:=
 cs_of L clos kind nocell locs (λ_ b=>sub.mem b) c (λp b hk=>by
   rcases d.mem b with h | h
   · show MI hk (λz=>z.elim h.1 h.2)
   · show lX.mp h) outs.get.1 outs.get.2
def fsN (a:h.kind=.function:=by rfl)(b:h.isCoroutine=LZ:=by rfl)(c:h.isGenerator=LZ:=by rfl)(d:N.Nodup:=by decide +kernel)(e:N.take ps.length=ps:=by rfl)
  (f:∀x∈ps,h.names.lookup x=KE .local\/h.names.lookup x=KE .cell:=by decide +kernel) (g:∀y∈h.names,y.2≠.free:=by decide +kernel):fq N ps h:=#v[a,b,c,d,e,f,g]
def pg2 (e:X.calm=LY)(nd:([a,b]++ys).Nodup:=by decide +kernel)
  (f:Loc (cxC X ([a,b]++ys) c cl C s H d).env.scope a:=by show aS rfl) (g:Loc (cxC X ([a,b]++ys) c cl C s H d).env.scope b:=by show aS rfl)
  (h:(cxC X ([a,b]++ys) c cl C s H d).env.scope.names.lookup a=KE .local:=by rfl) (j:(cxC X ([a,b]++ys) c cl C s H d).env.scope.names.lookup b=KE .local:=by rfl) :
  PG (cxC X ([a,b]++ys) c cl C s H d) (.Tuple [.Name a l,.Name b m] k n) (gTup X.K 2 (Kt (uf 0) (Kt (uf 1) Zx))):=
 Wj e (qo (mj (i:=0) nd rfl f (.inr h)) (qo (mj (i:=1) nd rfl g (.inr j)) Gg))
end L2
namespace VL
open PySem L2 PySem.Deep
structure B where
 P:aV
 w:bC
 K:aF
abbrev _root_.L2.Cx.B (X:Cx):B:=#v[X.prog,X.w,X.K]
inductive Tr where
 |v (x:V)
 |tup (l:List Tr)
 |lst (l:List Tr)
 |scr (l:List Tr)
 |dct (ks:List (List I2)) (l:List Tr)
 |dk (ks:List Key) (l:List Tr)
 |obj (C:MA) (fs:List Str) (l:List Tr)
abbrev Tr.int (i:Int):Tr:=.v (.int i)
abbrev Tr.bl (b:Bool):Tr:=.v (.bl b)
abbrev Tr.str (x:Str):Tr:=.v (.str x)
abbrev Tr.non:Tr:=.v .non
mutual
inductive Rp (b:B)(F:Hp):V->Tr->Prop where
 |v {x:V}:pd x=LY->Rp b F x (.v x)
 |tup {a:MA}{xs:List V}{l:List Tr}:SqT b.K F a xs->Rps b F xs l->Rp b F (.ref a) (.tup l)
 |lst {a:MA}{xs:List V}{l:List Tr}:F a=KE (.lst xs)->Rps b F xs l->Rp b F (.ref a) (.lst l)
 |scr {a:MA}{xs:List V}{l:List Tr}:SqL b.K F a xs->Rps b F xs l->Rp b F (.ref a) (.scr l)
 |dct {a:MA}{kvs:DE}{ks:List (List I2)}{l:List Tr}:DictAt b.P b.w b.K F a kvs->ks=kvs.map (·.1)->Rps b F (kvs.map (·.2.2)) l->Rp b F (.ref a) (.dct ks l)
 |dk {a:MA}{kvs:List (Key×V)}{ks:List Key}{l:List Tr}:F a=KE (.dK kvs)->ks=kvs.map (·.1)->Rps b F (kvs.map (·.2)) l->Rp b F (.ref a) (.dk ks l)
 |obj {a C dx:MA}{fs:List (Str×V)}{ns:List Str}{l:List Tr}:F a=KE (.ins C dx fs)->ns=fs.map (·.1)->Rps b F (fs.map (·.2)) l->Rp b F (.ref a) (.obj C ns l)
inductive Rps (b:B)(F:Hp):List V->List Tr->Prop where
 |nil:Rps b F [] []
 |cons {x:V}{xs:List V}{d:Tr}{l:List Tr}:Rp b F x d->Rps b F xs l->Rps b F (x::xs) (d::l)
end
section
variable {b:B}{F F' H H':Hp}
def y9 (h:SqL K H a xs)(e:Same H H'):SqL K H' a xs:=by
 rcases h with(h | ⟨o,h⟩) | h
 ·show .inl (.inl (e _ _ h))
 ·show .inl (.inr {o,e _ _ h})
 ·show .inr h
mutual
theorem Rp.mono (e:Same F F'):∀{x d},Rp b F x d->Rp b F' x d
 |_,_,.v h=>.v h
 |_,_,.tup h r=>.tup (h.same e) (Rps.mono e r)
 |_,_,.lst h r=>.lst (e _ _ h) (Rps.mono e r)
 |_,_,.scr h r=>.scr (y9 h e) (Rps.mono e r)
 |_,_,.dct h k r=>.dct (h.mono e) k (Rps.mono e r)
 |_,_,.dk h k r=>.dk (e _ _ h) k (Rps.mono e r)
 |_,_,.obj h k r=>.obj (e _ _ h) k (Rps.mono e r)
theorem Rps.mono (e:Same F F'):∀{xs l},Rps b F xs l->Rps b F' xs l
 |_,_,.nil=>.nil
 |_,_,.cons h r=>.cons (Rp.mono e h) (Rps.mono e r)
end
theorem Rps.length:∀{xs l},Rps b F xs l->xs.length=l.length
 |_,_,.nil=>rfl
 |_,_,.cons _ r=>by rw[bA,bA,r.length]
theorem Rps.append:∀{xs ys l m},Rps b F xs l->Rps b F ys m->Rps b F (xs++ys) (l++m)
 |_,_,_,_,.nil,s=>s
 |_,_,_,_,.cons h r,s=>.cons h (r.append s)
theorem Rps.take:∀{xs l},Rps b F xs l->∀n,Rps b F (xs.take n) (l.take n)
 |_,_,.nil,n=>by rw[List.take_nil,List.take_nil];show .nil
 |_,_,.cons h r,0=>.nil
 |_,_,.cons h r,n+1=>.cons h (r.take n)
theorem Rps.drop:∀{xs l},Rps b F xs l->∀n,Rps b F (xs.drop n) (l.drop n)
 |_,_,.nil,n=>by rw[List.drop_nil,List.drop_nil];show .nil
 |_,_,.cons h r,0=>.cons h r
 |_,_,.cons h r,n+1=>r.drop n
theorem Rps.reverse:∀{xs l},Rps b F xs l->Rps b F xs.reverse l.reverse
 |_,_,.nil=>.nil
 |_,_,.cons h r=>by rw[jI,jI];show(r.reverse).append (.cons h .nil)
theorem Rps.get:∀{xs:List V}{l:List Tr}{i:Nat}{d:Tr},Rps b F xs l->l[i]?=KE d->∃x,xs[i]?=KE x/\Rp b F x d
 |_,_,i,_,.nil,e=>by simp at e
 |_,_,0,_,.cons h r,e=>by simp at e;subst e;show{_,rfl,h}
 |_,_,i+1,_,.cons h r,e=>by
  obtain⟨x,a,c⟩:_:=Rps.get (i:=i) r (by simpa using e);show{x,by simpa using a,c}
theorem Rps.set (h':Rp b F y e):∀{xs l} i,Rps b F xs l->Rps b F (xs.set i y) (l.set i e)
 |_,_,_,.nil=>.nil
 |_,_,0,.cons _ r=>.cons h' r
 |_,_,i+1,.cons h r=>.cons h (Rps.set h' i r)
def Rp.vI (h:Rp b F x (.v y)):x=y/\pd y=LY:=by cases h with | v h=>show#v[rfl,h]
def Rp.tupI (h:Rp b F x (.tup l)):∃a xs,x=.ref a/\SqT b.K F a xs/\Rps b F xs l:=by cases h with | tup h r=>show{_,_,rfl,h,r}
def Rp.scrI (h:Rp b F x (.scr l)):∃a xs,x=.ref a/\SqL b.K F a xs/\Rps b F xs l:=by cases h with | scr h r=>show{_,_,rfl,h,r}
def Rp.lstI (h:Rp b F x (.lst l)):∃a xs,x=.ref a/\F a=KE (.lst xs)/\Rps b F xs l:=by cases h with | lst h r=>show{_,_,rfl,h,r}
end
structure Wd where
 F:Hp
 H:Hp
 C:Nat->Option MA
def CellOk (b:B)(F H:Hp)(a:MA):Tr->Prop
 | .lst l=>∃xs,H a=KE (.lst xs)/\Rps b F xs l
 | .dct ks l=>∃kvs ep,H a=KE (jk b.P b.w a ep kvs)/\(∀e∈kvs,KeyAt b.K F e.2.1 e.1)/\kvs.length<=sizeLine/\(a == gD)=LZ/\ks=kvs.map (·.1)/\Rps b F (kvs.map (·.2.2)) l
 | .dk ks l=>∃kvs,H a=KE (.dK kvs)/\ks=kvs.map (·.1)/\Rps b F (kvs.map (·.2)) l
 | .obj C ns l=>∃c fs,H a=KE (.ins C c fs)/\ns=fs.map (·.1)/\Rps b F (fs.map (·.2)) l
 |_=>False
inductive Ev where
 |val (d:Tr)
 |new (d:Tr)
 |cel (j:Nat)
inductive Wt where
 |v (d:Tr)
 |c (j:Nat)
structure M where
 loc:List (Option Wt)
 cel:List (Option Tr)
def Rev (b:B)(O W:Wd)(x:V):Ev->Prop
 | .val d=>Rp b W.F x d
 | .new d=>∃a,x=.ref a/\O.H a=LX/\W.F a=LX/\(∀j,W.C j≠KE a)/\CellOk b W.F W.H a d
 | .cel j=>∃a,x=.ref a/\∀c,W.C j=KE c->c=a
def Rwt (b:B)(W:Wd)(x:V):Wt->Prop
 | .v d=>Rp b W.F x d
 | .c j=>∃a,x=.ref a/\W.C j=KE a
structure Wok (b:B)(W:Wd)(cel:List (Option Tr)):Prop where
 sub:Same W.F W.H
 cell:∀j d,cel[j]?=KE (KE d)->∃a,W.C j=KE a/\W.F a=LX/\CellOk b W.F W.H a d
 live:∀j a,W.C j=KE a->∃d,cel[j]?=KE (KE d)
 dist:∀j k a,W.C j=KE a->W.C k=KE a->j=k
structure Rel (b:B)(W:Wd)(m:M)(σ:St):Prop where
 ok:Wok b W m.cel
 loc:∀(i:Nat)(w:Wt),m.loc[i]?=KE (KE w)->∃x,σ[i]?=KE (KE x)/\Rwt b W x w
 len:m.loc.length=σ.length
def imm:HO->Prop
 | .tup _=>True
 | .frz _ _=>True
 |_=>False
structure Le (W W':Wd):Prop where
 same:Same W.F W'.F
 fr:∀a o,W.H a=KE o->(∀j,W.C j≠KE a)->W'.H a=KE o
 nw:∀a,W.F a=LX->W'.F a≠LX->W.H a=LX\/(∃j,W.C j=KE a)\/∃o,W.H a=KE o/\imm o
 cl:∀j a,W'.C j=KE a->W.C j=KE a\/(W.H a=LX/\j≠0)
 dm:∀a,W'.H a=LX->W.H a=LX
structure Lx (W W':Wd):Prop extends Le W W' where
 cx:∀j a,W'.C j=KE a->W.C j=KE a
def Le.refl (W:Wd):Le W W:={λ_ _ h=>h,λ_ _ h _=>h,λ_ h h'=>MI h h',λ_ _ h=>.inl h,λ_ h=>h}
theorem Lx.refl (W:Wd):Lx W W:={Le.refl W,λ_ _ h=>h}
def Le.trans (h:Le A B')(k:Le B' C):Le A C where
 same:=λa o e=>k.same a o (h.same a o e)
 fr:=λa o e n=>k.fr a o (h.fr a o e n) λj e'=>(h.cl j a e').elim (n j) λz=>by rw[e]at z;cases z.1
 nw:=λa e n=>by
  cases q:B'.F a with
  |some o=>show h.nw a e (by rw[q];show λz=>by cases z)
  |none=>
   rcases k.nw a q n with z | ⟨j,z⟩ | ⟨o,z,im⟩
   ·show .inl (h.dm a z)
   ·rcases h.cl j a z with z | z
    ·show .inr (.inl #v[j,z])
    ·show .inl z.1
   ·cases qa:A.H a with
    |none=>show .inl rfl
    |some u=>
     by_cases c:∃j,A.C j=KE a
     ·show .inr (.inl c)
     ·have:=h.fr a u qa λj e'=>c #v[j,e'];rw[z]at this;cases this;show .inr (.inr #v[o,rfl,im])
 cl:=λj a e=>by
  rcases k.cl j a e with z | z
  ·show h.cl j a z
  ·show .inr {h.dm a z.1,z.2}
 dm:=λa z=>h.dm a (k.dm a z)
theorem Lx.trans (h:Lx A b)(k:Lx b C):Lx A C:={h.toLe.trans k.toLe,λj a e=>h.cx j a (k.cx j a e)}
section
variable {b:B}{W W':Wd}{x:V}
def j5 (h:KeyAt K H c ks)(e:Same H H'):KeyAt K H' c ks:=h.tups (Tups.of e)
theorem CellOk.mono (h:CellOk b F H a d)(e:Same F F')(k:∀o,H a=KE o->H' a=KE o):CellOk b F' H' a d:=by
 cases d with
 |lst l=>obtain⟨xs,c,f⟩:_:=h;show{xs,k _ c,f.mono e}
 |dct ks l=>obtain⟨kvs,ep,c,f,g,i,h5,j⟩:_:=h;show{kvs,ep,k _ c,λx m=>j5 (f x m) e,g,i,h5,j.mono e}
 |dk ks l=>obtain⟨kvs,c,f,g⟩:_:=h;show{kvs,k _ c,f,g.mono e}
 |v _=>show h.elim
 |tup _=>show h.elim
 |scr _=>show h.elim
 |obj C ns l=>obtain⟨n,fs,c,f,g⟩:_:=h;show{n,fs,k _ c,f,g.mono e}
def CellOk.has (h:CellOk b F H a d):∃o,H a=KE o:=by
 cases d with
 |lst l=>obtain⟨xs,c,e⟩:_:=h;show{_,c}
 |dct ks l=>obtain⟨kvs,ep,c,_⟩:_:=h;show{_,c}
 |dk ks l=>obtain⟨kvs,c,_⟩:_:=h;show{_,c}
 |v _=>show h.elim
 |tup _=>show h.elim
 |scr _=>show h.elim
 |obj C ns l=>obtain⟨f,fs,c,_⟩:_:=h;show{_,c}
def CellOk.nimm (h:CellOk b F H a d):∀o,H a=KE o->¬imm o:=λo e=>by
 cases d with
 |lst l=>obtain⟨xs,c,f⟩:_:=h;rw[c]at e;cases e;show λz=>z
 |dct ks l=>obtain⟨kvs,ep,c,_⟩:_:=h;rw[c]at e;cases e;show λz=>z
 |dk ks l=>obtain⟨kvs,c,_⟩:_:=h;rw[c]at e;cases e;show λz=>z
 |v _=>show h.elim
 |tup _=>show h.elim
 |scr _=>show h.elim
 |obj C ns l=>obtain⟨g,fs,c,_⟩:_:=h;rw[c]at e;cases e;show λz=>z
def CellOk.rp (h:CellOk b F H a d)(e:Same F H):Rp b H (.ref a) d:=by
 cases d with
 |lst l=>obtain⟨xs,c,f⟩:_:=h;show .lst c (f.mono e)
 |dct ks l=>obtain⟨kvs,ep,c,f,g,i,h5,j⟩:_:=h;show .dct {#v[ep,c],λx m=>j5 (f x m) e,g,i} h5 (j.mono e)
 |dk ks l=>obtain⟨kvs,c,f,g⟩:_:=h;show .dk c f (g.mono e)
 |v _=>show h.elim
 |tup _=>show h.elim
 |scr _=>show h.elim
 |obj C ns l=>obtain⟨n,fs,c,f,g⟩:_:=h;show .obj c f (g.mono e)
def ft (F H:Hp)(a:MA):Hp:=λx=>if x=a then H a else F x
def wq (h:F a=LX):Same F (ft F H a):=λx o e=>by
 unfold ft;by_cases c:x=a
 ·subst c;rw[h]at e;cases e
 ·rw[MF c];show e
def Ba (h:Same F H):Same (ft F H a) H:=λx o e=>by
 unfold ft at e;by_cases c:x=a
 ·subst c;rw[ME rfl]at e;show e
 ·rw[MF c]at e;show h _ _ e
def CellOk.keep (h:CellOk b F H a d)(n:F a=LX):Rp b (ft F H a) (.ref a) d:=
 (h.mono (F':=ft F H a) (H':=ft F H a) (wq n) λo e=>by unfold ft;rw[ME rfl];show e).rp λ_ _ e=>e
theorem Rev.mono (h:Rev b O W x i)(l:Lx W W'):Rev b O W' x i:=by
 cases i with
 |val d=>show Rp.mono l.same h
 |new d=>
  obtain⟨a,rfl,h0,c,f,g⟩:_:=h;obtain⟨o,n⟩:_:=g.has;show{a,rfl,h0,?_,λj e=>f j (l.cx j a e),g.mono l.same λo e=>l.fr a o e f};cases q:W'.F a with
  |none=>rfl
  |some r=>
   rcases l.nw a c (by rw[q];show λz=>by cases z)with z | ⟨j,z⟩ | ⟨u,z,p⟩
   ·rw[n]at z;cases z
   ·show MI z (f j)
   ·show MI p (g.nimm u z)
 |cel j=>obtain⟨a,rfl,c⟩:_:=h;show{a,rfl,λm e=>c m (l.cx j m e)}
def Rev.old (h:Rev b O W x c)(l:Le e O):Rev b e W x c:=by
 cases c with
 |val d=>show h
 |new d=>obtain⟨a,rfl,h0,h⟩:_:=h;show{a,rfl,l.dm a h0,h}
 |cel j=>show h
end
abbrev GE:=M->(Ev->M->Prop)->Prop
abbrev GT:=M->(Bool->M->Prop)->Prop
abbrev GA:=M->(List Ev->M->Prop)->Prop
structure wt where
 nx:M->Prop
 rt:Ev->M->Prop
 bk:M->Prop:=λ_=>False
 ct:M->Prop:=λ_=>False
abbrev GS:=wt->M->Prop
def lf (b:B)(f:GE):TE:=λc H Q=>∃W m R,W.H=H/\Rel b W m c/\f m R/\∀d e a x,R d e->Lx W a->Rel b a e c->Rev b W a x d->Q x a.H
def lfT (b:B)(f:GT):TT:=λd H Q=>∃W m R,W.H=H/\Rel b W m d/\f m R/\∀c e a,R c e->Lx W a->Rel b a e d->Q c a.H
def lfA (b:B)(f:GA):TA:=λc H Q=>∃W m R,W.H=H/\Rel b W m c/\f m R/\∀d e a xs,R d e->Lx W a->Rel b a e c->Paired (Rev b W a) xs d->Q xs a.H
def lfS (b:B)(O:Wd)(g:GS):TS:=λD f H=>∃W m E,W.H=H/\Le O W/\Rel b W m f/\g E m/\(∀d c a,E.nx d->Le O c->Same W.F c.F->Rel b c d a->D.nx a c.H)/\
 (∀e d c a x,E.rt e d->Le O c->Rel b c d a->Rev b O c x e->D.rt x c.H)/\(∀d c a,E.bk d->Le O c->Same W.F c.F->Rel b c d a->D.bk a c.H)/\(∀d c a,E.ct d->Le O c->Same W.F c.F->Rel b c d a->D.ct a c.H)
structure VE (X:Cx)(e:MC)(f:GE):Prop where
 out:PE X e (lf X.B f)
structure VT (X:Cx)(e:MC)(f:GT):Prop where
 out:PT X e (lfT X.B f)
structure VW (X:Cx)(e:MC)(f:GT):Prop where
 out:PW X e (lfT X.B f)
structure VA (X:Cx)(es:List MC)(f:GA):Prop where
 out:PA X es (lfA X.B f)
structure VS (X:Cx)(st:MD)(g:GS):Prop where
 out:∀O,PS X st (lfS X.B O g)
structure VSs (X:Cx)(st:List MD)(g:GS):Prop where
 out:∀O,PSs X st (lfS X.B O g)
section
variable {X:Cx}
def PE.sub (h:PE X e t')(k:∀a H Q,t a H Q->t' a H Q):PE X e t:=λb s a H Q I q=>h b s a H Q I (k a H Q q)
def PT.sub (h:PT X e t')(k:∀a H Q,t a H Q->t' a H Q):PT X e t:=λb s a H Q I q=>h b s a H Q I (k a H Q q)
def PW.sub (h:PW X e t')(k:∀a H Q,t a H Q->t' a H Q):PW X e t:=λb c s a H Q I q=>h b c s a H Q I (k a H Q q)
def PA.sub (h:PA X c t')(k:∀a H Q,t a H Q->t' a H Q):PA X c t:=λb d s a H Q I q=>h b d s a H Q I (k a H Q q)
def PS.sub (h:PS X st t')(k:∀D a H,t D a H->t' D a H):PS X st t:=λb s a H D I q=>h b s a H D I (k D a H q)
def PSs.sub (h:PSs X st t')(k:∀D a H,t D a H->t' D a H):PSs X st t:=λb s a H D I q=>h b s a H D I (k D a H q)
end
def Same.tr (h:Same A b)(k:Same b C):Same A C:=λa o e=>k a o (h a o e)
def Same.id:Same A A:=λ_ _ e=>e
def lk (m:M):Ev->(Tr->Prop)->Prop
 | .val d,Q=>Q d
 | .new d,Q=>Q d
 | .cel j,Q=>match m.cel[j]? with
  |some (KE d)=>Q d
  |_=>False
def frzW (j:Nat)(d:Tr):Option Wt->Option Wt
 |some (.c k)=>if k=j then KE (.v d)else KE (.c k)
 |w=>w
def frz (m:M)(j:Nat)(d:Tr):M:={m.loc.map (frzW j d),m.cel.set j LX}
def fz (m:M):Ev->(Tr->M->Prop)->Prop
 | .val d,Q=>Q d m
 | .new d,Q=>Q d m
 | .cel j,Q=>match m.cel[j]? with
  |some (KE d)=>Q d (frz m j d)
  |_=>False
def Top (b:B)(W:Wd)(x:V):Tr->Prop
 | .lst l=>∃a xs,x=.ref a/\W.H a=KE (.lst xs)/\Rps b W.F xs l
 | .dct ks l=>∃a kvs,x=.ref a/\DictAt b.P b.w b.K W.H a kvs/\(∀e∈kvs,KeyAt b.K W.F e.2.1 e.1)/\ks=kvs.map (·.1)/\Rps b W.F (kvs.map (·.2.2)) l
 | .dk ks l=>∃a kvs,x=.ref a/\W.H a=KE (.dK kvs)/\ks=kvs.map (·.1)/\Rps b W.F (kvs.map (·.2)) l
 | .obj C ns l=>∃a c fs,x=.ref a/\W.H a=KE (.ins C c fs)/\ns=fs.map (·.1)/\Rps b W.F (fs.map (·.2)) l
 |d=>Rp b W.F x d
section
variable {b:B}{W W':Wd}{x:V}{d:Tr}{cel:List (Option Tr)}{σ:St}{m:M}
def Top.of (h:Rp b W.F x d)(e:Same W.F W.H):Top b W x d:=by
 cases h with
 |v h=>show .v h
 |tup h r=>show .tup h r
 |scr h r=>show .scr h r
 |obj h k r=>show{_,_,_,rfl,e _ _ h,k,r}
 |lst h r=>show{_,_,rfl,e _ _ h,r}
 |dct h k r=>show{_,_,rfl,h.mono e,h.keys,k,r}
 |dk h k r=>show{_,_,rfl,e _ _ h,k,r}
def Top.rp (h:Top b W x d)(e:Same W.F W.H):Rp b W.H x d:=by
 cases d with
 |v _=>show Rp.mono e h
 |tup _=>show Rp.mono e h
 |scr _=>show Rp.mono e h
 |obj C ns l=>obtain⟨a,c,fs,rfl,h,k,r⟩:_:=h;show .obj h k (r.mono e)
 |lst l=>obtain⟨a,xs,rfl,h,r⟩:_:=h;show .lst h (r.mono e)
 |dct ks l=>obtain⟨a,kvs,rfl,h,_,k,r⟩:_:=h;show .dct h k (r.mono e)
 |dk ks l=>obtain⟨a,kvs,rfl,h,k,r⟩:_:=h;show .dk h k (r.mono e)
def CellOk.top (h:CellOk b W.F W.H a d)(e:Same W.F W.H):Top b W (.ref a) d:=by
 cases d with
 |lst l=>obtain⟨xs,f,c⟩:_:=h;show#v[a,xs,rfl,f,c]
 |dct ks l=>obtain⟨kvs,ep,f,c,g,i,h5,j⟩:_:=h;show{a,kvs,rfl,{#v[ep,f],λx n=>j5 (c x n) e,g,i},c,h5,j}
 |dk ks l=>obtain⟨kvs,f,c,g⟩:_:=h;show#v[a,kvs,rfl,f,c,g]
 |v _=>show h.elim
 |tup _=>show h.elim
 |scr _=>show h.elim
 |obj C ns l=>obtain⟨o,fs,f,c,g⟩:_:=h;show#v[a,o,fs,rfl,f,c,g]
def vk (e:lk m (.cel j) Q):∃d,m.cel[j]?=KE (KE d)/\Q d:=by
 change (match m.cel[j]? with | some (KE d)=>Q d | _=>False)at e
 rcases h:m.cel[j]? with _ | _ | d
 ·rw[h]at e;show e.elim
 ·rw[h]at e;show e.elim
 ·rw[h]at e;show#v[d,rfl,e]
def ako (e:fz m (.cel j) Q):∃d,m.cel[j]?=KE (KE d)/\Q d (frz m j d):=by
 change (match m.cel[j]? with | some (KE d)=>Q d (frz m j d) | _=>False)at e
 rcases h:m.cel[j]? with _ | _ | d
 ·rw[h]at e;show e.elim
 ·rw[h]at e;show e.elim
 ·rw[h]at e;show#v[d,rfl,e]
variable {O:Wd}
def gx (ok:Wok b W m.cel)(h:Rev b O W x c)(e:lk m c Q):∃d,Top b W x d/\Q d:=by
 cases c with
 |val d=>show{d,Top.of h ok.sub,e}
 |new d=>
  obtain⟨a,rfl,_,_,_,f⟩:_:=h;show{d,f.top ok.sub,e}
 |cel j=>
  obtain⟨a,rfl,g⟩:_:=h;obtain⟨d,i,e⟩:_:=vk e;obtain⟨l,n,f,o⟩:_:=ok.cell j d i;cases g l n;show{d,o.top ok.sub,e}
def lp (n:c≠a):ft F H a c=F c:=by unfold ft;rw[MF n]
def mv (l:Lx O W)(rel:Rel b W m σ)(h:Rev b O W x T)(e:fz m T Q):∃d U W',Q d U/\Lx O W'/\W'.H=W.H/\Rel b W' U σ/\Rp b W'.F x d:=by
 cases T with
 |val d=>show#v[d,m,W,e,l,rfl,rel,h]
 |new d=>
  obtain⟨a,rfl,h0,r,I,D⟩:_:=h;have s1:Same W.F (ft W.F W.H a):=wq r;show{d,m,{ft W.F W.H a,W.H,W.C},e,{{λc o z=>s1 c o (l.same c o z),l.fr,λc z n=>?_,l.cl,l.dm},l.cx},rfl,{{Ba rel.ok.sub,λj d' J=>?_,rel.ok.live,rel.ok.dist},λi w hw=>?_,rel.len},D.keep r}
  ·by_cases q:c=a
   ·subst q;show .inl h0
   ·have E:ft W.F W.H a c≠LX:=n;rw[lp q]at E;show l.nw c z E
  ·obtain⟨s,p,f,u⟩:_:=rel.ok.cell j d' J;show{s,p,?_,u.mono s1 λ_ z=>z};change ft W.F W.H a s=LX;rw[lp (λz=>I j (by rw[<-z];show p))];show f
  ·obtain⟨y,p,f⟩:_:=rel.loc i w hw;show{y,p,?_};cases w with
   |v d'=>show Rp.mono s1 f
   |c j=>show f
 |cel j=>
  obtain⟨a,rfl,r⟩:_:=h;obtain⟨d,J,e⟩:_:=ako e;obtain⟨s,I,D,Y⟩:_:=rel.ok.cell j d J;cases r s I;have r:=I;have s1:Same W.F (ft W.F W.H a):=wq D;have G:∀k c,(if k=j then LX else W.C k)=KE c->k≠j/\W.C k=KE c:=λk c z=>by
   by_cases q:k=j
   ·rw[ME q]at z;cases z
   ·rw[MF q]at z;show#v[q,z]
  show{d,frz m j d,{ft W.F W.H a,W.H,λk=>if k=j then LX else W.C k},e,{{λc o z=>s1 c o (l.same c o z),l.fr,λc z n=>?_,λk c z=>l.cl k c (G k c z).2,l.dm},λk c z=>l.cx k c (G k c z).2},rfl,{{Ba rel.ok.sub,λk d' hk=>?_,λk c z=>?_,λk k' c z z'=>rel.ok.dist k k' c (G k c z).2 (G k' c z').2},λi w hw=>?_,by change(m.loc.map _).length=_;rw[aB];show rel.len},Y.keep D}
  ·by_cases q:c=a
   ·subst q;show .inr (.inl {j,l.cx j c r})
   ·have E:ft W.F W.H a c≠LX:=n;rw[lp q]at E;show l.nw c z E
  ·have L:(m.cel.set j LX)[k]?=KE (KE d'):=hk;have g:k≠j:=λz=>by
    subst z;rw[cM (bJ.mp J).1]at L;cases L
   rw[bM (λz=>g z.symm)]at L;obtain⟨s,p,f,u⟩:_:=rel.ok.cell k d' L;show{s,by change(if k=j then LX else W.C k)=_;rw[MF g];show p,?_,u.mono s1 λ_ z=>z}
   change ft W.F W.H a s=LX;rw[lp (λz=>g (rel.ok.dist k j s p (by rw[z];show r)))];show f
  ·obtain⟨g,z⟩:_:=G k c z;obtain⟨d',q⟩:_:=rel.ok.live k c z;show{d',by change(m.cel.set j LX)[k]?=_;rw[bM (λz=>g z.symm)];show q}
  ·have A:(m.loc.map (frzW j d))[i]?=KE (KE w):=hw;rw[aL]at A;rcases q:m.loc[i]? with _ | _ | w0
   ·rw[q]at A;cases A
   ·rw[q]at A;cases A
   ·rw[q]at A;obtain⟨y,p,f⟩:_:=rel.loc i w0 q;show{y,p,?_};cases w0 with
    |v d'=>cases A;show Rp.mono s1 f
    |c k=>
     have N:(if k=j then KE (Wt.v d)else KE (.c k))=KE w:=by simpa[frzW]using A
     by_cases g:k=j
     ·rw[ME g]at N;cases N;obtain⟨c,rfl,u⟩:_:=f;rw[g,r]at u;cases u;show Y.keep D
     ·rw[MF g]at N;cases N;obtain⟨c,rfl,u⟩:_:=f;show{c,rfl,by change(if k=j then LX else W.C k)=_;rw[MF g];show u}
def o7 (ok:Wok b W cel)(c:W.H p=LX)(l:CellOk b W.F (upd W.H p o) p d) :
  Lx W {W.F,upd W.H p o,W.C}/\Wok b {W.F,upd W.H p o,W.C} cel/\Rev b W {W.F,upd W.H p o,W.C} (.ref p) (.new d):=by
 have k:∀a u,W.H a=KE u->upd W.H p o a=KE u:=λa u e=>(by rw[ay (cf e c)];show e);have Fn:W.F p=LX:=by
  cases q:W.F p with
  |none=>rfl
  |some u=>have:=ok.sub _ _ q;rw[c]at this;cases this
 have r:∀j,W.C j≠KE p:=λj e=>by
  obtain⟨d',q⟩:_:=ok.live j p e;obtain⟨a,f,h,g⟩:_:=ok.cell j d' q;rw[e]at f;cases f;obtain⟨u,i⟩:_:=g.has;rw[c]at i;cases i
 show{{{λ_ _ z=>z,λa u e _=>k a u e,λ_ z n=>MI z n,λ_ _ z=>.inl z,λa z=>?_},λ_ _ z=>z},{λa u z=>k a u (ok.sub a u z),λj d' s=>?_,ok.live,ok.dist},p,rfl,c,Fn,r,l}
 ·cases q:W.H a with
  |none=>rfl
  |some u=>have:=k a u q;rw[show upd W.H p o a=LX from z]at this;cases this
 ·obtain⟨a,f,h,g⟩:_:=ok.cell j d' s;show{a,f,h,g.mono (λ_ _ z=>z) λu e=>k a u e}
def Gu (ok:Wok b W cel)(c:W.H p=LX)(i:Rp b (upd W.F p o) (.ref p) d) :
  Lx W {upd W.F p o,upd W.H p o,W.C}/\Wok b {upd W.F p o,upd W.H p o,W.C} cel/\Rev b W {upd W.F p o,upd W.H p o,W.C} (.ref p) (.val d):=by
 have k:∀a u,W.H a=KE u->upd W.H p o a=KE u:=λa u e=>(by rw[ay (cf e c)];show e);have Fn:W.F p=LX:=by
  cases q:W.F p with
  |none=>rfl
  |some u=>have:=ok.sub _ _ q;rw[c]at this;cases this
 have s1:Same W.F (upd W.F p o):=λa u e=>(by rw[ay (cf e Fn)];show e);have g:∀{a},a≠p->upd W.F p o a=W.F a:=λn=>ay n;show{{{s1,λa u e _=>k a u e,λa z n=>?_,λ_ _ z=>.inl z,λa z=>?_},λ_ _ z=>z},{λa u z=>?_,λj d' l=>?_,ok.live,ok.dist},i}
 ·by_cases q:a=p
  ·subst q;show .inl c
  ·show MI z (by rw[<-g q];show n)
 ·cases q:W.H a with
  |none=>rfl
  |some u=>have:=k a u q;rw[show upd W.H p o a=LX from z]at this;cases this
 ·have f:upd W.F p o a=KE u:=z;change upd W.H p o a=KE u;by_cases q:a=p
  ·subst q;rw[bo]at f ⊢;show f
  ·rw[ay q]at f ⊢;show ok.sub a u f
 ·obtain⟨a,r,s,h⟩:_:=ok.cell j d' l;obtain⟨u,w⟩:_:=h.has;show{a,r,by change upd W.F p o a=LX;rw[g (cf w c)];show s,h.mono s1 λu e=>k a u e}
open Classical in
noncomputable def nj (F H:Hp):Hp:=λa=>if (∃o,H a=KE o/\imm o)then H a else F a
def agt (ok:Wok b W cel):Lx W {nj W.F W.H,W.H,W.C}/\Wok b {nj W.F W.H,W.H,W.C} cel/\Same W.F (nj W.F W.H):=by
 have s1:Same W.F (nj W.F W.H):=λa u e=>by
  unfold nj
  split
  ·show ok.sub a u e
  ·show e
 show{{{s1,λ_ _ h _=>h,λa z n=>?_,λ_ _ z=>.inl z,λ_ z=>z},λ_ _ z=>z},{λa u z=>?_,λj d' l=>?_,ok.live,ok.dist},s1}
 ·have g:nj W.F W.H a≠LX:=n;unfold nj at g
  split at g
  ·rename_i c;show .inr (.inr c)
  ·show MI z g
 ·have f:nj W.F W.H a=KE u:=z;unfold nj at f
  split at f
  ·show f
  ·show ok.sub a u f
 ·obtain⟨a,p,q,i⟩:=ok.cell j d' l;show{a,p,?_,i.mono s1 λ_ e=>e};change nj W.F W.H a=LX;unfold nj;rw[MF (λr=>by obtain⟨o,z,s⟩:=r;show i.nimm o z s)];show q
def abk (h:SqT K H a xs):SqT K (nj F H) a xs:=by
 rcases h with(h | ⟨o,h⟩) | h
 ·show .inl (.inl (by unfold nj;rw[ME {_,h,trivial}];show h))
 ·show .inl (.inr {o,by unfold nj;rw[ME {_,h,trivial}];show h})
 ·show .inr h
def Rel.lift (rel:Rel b W m σ)(l:Lx W W')(e:∀j,W'.C j=W.C j)(ok:Wok b W' m.cel):Rel b W' m σ:=⟨ok,λi w hw=>by
  obtain⟨y,g,f⟩:_:=rel.loc i w hw;show{y,g,?_};cases w with
  |v d'=>show Rp.mono l.same f
  |c j=>obtain⟨a,h,n⟩:_:=f;show{a,h,by rw[e];show n},rel.len⟩
end
section
variable {X:Cx}
def aa (i:Nat):GE:=λm Q=>match m.loc[i]? with
 |some (KE (.v d))=>Q (.val d) m
 |some (KE (.c j))=>Q (.cel j) m
 |_=>False
def akp (f:X.N[i]?=KE x)(g:Vis X.env.scope x)(hd:(x == ("__debug__":Str))=LZ:=by decide)(l:(x == ("__classdict__":Str))=LZ:=by decide):VE X (.Name x n) (aa i):=⟨PE.sub (kf f g hd l) λs H Q ⟨W,m,R,o,rel,h,q⟩=>by
    subst o;change (match m.loc[i]? with | some (KE (.v d))=>R (.val d) m | some (KE (.c j))=>R (.cel j) m | _=>False)at h
    rcases e:m.loc[i]? with _ | _ | w
    · rw[e]at h;show h.elim
    · rw[e]at h;show h.elim
    · rw[e]at h;obtain⟨y,p,b⟩:=rel.loc i w e;show{y,p,?_};cases w with
      |v d=>show q _ m W y h (Lx.refl W) rel b
      |c j=>
        obtain⟨a,rfl,r⟩:=b;show q _ m W _ h (Lx.refl W) rel {a,rfl,λu e=>by rw[r]at e;cases e;rfl}⟩
def gC (d:Tr):GE:=λm Q=>Q (.val d) m
def Bb (h:∀F,Rp b F v d):∀a H Q,lf b (gC d) a H Q->tC v a H Q:=λa H Q ⟨W,m,R,c,rel,e,q⟩=>by
 subst c;show q _ m W v e (Lx.refl W) rel (h W.F)
def ag:VE X (.Constant (.int i) j a) (gC (.v (.int i))):=#v[PE.sub K6 (Bb λ_=>.v rfl)]
def pz:VE X (.Constant (.bool c) j a) (gC (.v (.bl c))):=#v[PE.sub Em (Bb λ_=>.v rfl)]
def vm:VE X (.Constant .none j a) (gC (.v .non)):=#v[PE.sub aiu (Bb λ_=>.v rfl)]
def b9:VE X (.Constant (.str x) j a) (gC (.v (.str x))):=#v[PE.sub aiv (Bb λ_=>.v rfl)]
def agu (a:Gl X x)(b:X.mg x=KE u)(r:RelV v u)(h:∀F,Rp X.B F v d)(hd:(x == ("__debug__":Str))=LZ:=by decide):VE X (.Name x c) (gC d):=#v[PE.sub (afc a b r hd) (Bb h)]
abbrev G2:=Tr->Tr->(Ev->Prop)->Prop
def gOp (r:G2)(fa a:GE):GE:=λm Q=>fa m λb c=>a c λd m2=>lk m2 b λx=>lk m2 d λy=>r x y λe=>Q e m2
structure After (b:B)(W:Wd)(cel:List (Option Tr))(W':Wd):Prop where
 lx:Lx W W'
 cs:∀j,W'.C j=W.C j
 ok:Wok b W' cel
def rG (b:B)(r:G2):R2:=λx y H Q=>∃W cel c d R,W.H=H/\Wok b W cel/\Top b W x c/\Top b W y d/\r c d R/\∀e a z,R e->After b W cel a->Rev b W a z e->Q z a.H
def OpG (X:Cx)(f:aE->aE->Sem aE)(r:G2):Prop:=OpR X f (rG X.B r)
theorem After.refl (ok:Wok b W cel):After b W cel W:={Lx.refl W,λ_=>rfl,ok}
def ya (h:lf b (gOp r fa e) d H Q):lf b fa d H λx f=>lf b e d f λy g=>rG b r x y g Q:=by
 obtain⟨W,m,R,i,rel,h,q⟩:=h;show{W,m,_,i,rel,h,λL j l x n l1 o p=>{l,j,_,rfl,o,n,λN m2 W2 y s l2 a u=>?_}};obtain⟨w,A,C⟩:=gx a.ok (p.mono l2) s;obtain⟨D,ty,E⟩:=gx a.ok u C;show{W2,m2.cel,w,D,_,rfl,a.ok,A,ty,E,λG I z h5 c J=>q G m2 I z h5 (l1.trans (l2.trans c.lx)) (a.lift c.lx c.cs c.ok) (J.old (l1.trans l2).toLe)}
def aj (c:OpG X (eC op) r)(d:VE X a fa)(e:VE X b f):VE X (.BinOp a op b g) (gOp r fa f):=#v[PE.sub (pe_op c d.out e.out) λ_ _ _ h=>ya h]
def yb (c:OpG X (eP op) r)(d:VE X a fa)(e:VE X b f)(g:pR op b=LZ:=by rfl):VE X (.Compare a [op] [b] i) (gOp r fa f):=#v[PE.sub (afh c d.out e.out g) λ_ _ _ h=>ya h]
def gT (f:GE):GT:=λm Q=>f m λa b=>match a with
 | .val (.v (.bl c))=>Q c b
 |_=>False
def Sg (h:lfT b (gT f) c H Q):lf b f c H λx H'=>∃k,x=.bl k/\Q k H':=by
 obtain⟨W,m,R,d,rel,h,q⟩:=h;show{W,m,_,d,rel,h,λl e g x a l1 i j=>?_}
 split at a
 ·obtain⟨rfl,_⟩:=Rp.vI j;show{_,rfl,q _ e g a l1 i}
 ·show a.elim
def bf (ho:OpG X (eP op) r)(ha:VE X a fa)(hb:VE X b fb)(hm:pR op b=LZ:=by rfl):VT X (.Compare a [op] [b] pos) (gT (gOp r fa fb)):=#v[PT.sub (afi ho ha.out hb.out hm) λσ H Q h=>op_lift (Sg h)]
where op_lift {b:B}{r:G2}{fa fb:GE}{σ:St}{H:Hp}{Q:VK}(h:lf b (gOp r fa fb) σ H Q):tOp (rG b r) (lf b fa) (lf b fb) σ H Q:=ya h
def Gv (f:GT):GT:=λm Q=>f m λc a=>Q (!c) a
def xh (f g:GT):GT:=λm Q=>f m λc a=>if c=LY then g a Q else Q LZ a
def gOr (f g:GT):GT:=λm Q=>f m λc a=>if c=LY then Q LY a else g a Q
def Bc (h:VT X a f):VT X (.UnaryOp .Not a b) (Gv f):=#v[PT.sub (aiy h.out) λl H Q ⟨W,m,R,d,rel,h,q⟩=>{W,m,_,d,rel,h,λc e g i l1 j=>q _ e g i l1 j}]
def kh (h:VT X a f):VW X (.BoolOp op [a] b) f:=by
 show#v[?_];cases op
 ·show afe h.out
 ·show aiw h.out
def abl (h:lfT b (xh f g) a H Q):lfT b f a H λc d=>if c=LY then lfT b g a d Q else Q LZ d:=by
 obtain⟨W,m,R,n,rel,h,q⟩:=h;show{W,m,_,n,rel,h,λc e i j l1 l=>?_};cases c with
 |true=>show{i,e,_,rfl,l,j,λc m2 W2 o l2 p=>q c m2 W2 o (l1.trans l2) p}
 |false=>show q _ e i j l1 l
def agv (h:lfT b (gOr f g) a H Q):lfT b f a H λc d=>if c=LY then Q LY d else lfT b g a d Q:=by
 obtain⟨W,m,R,n,rel,h,q⟩:=h;show{W,m,_,n,rel,h,λc e i j l1 l=>?_};cases c with
 |false=>show{i,e,_,rfl,l,j,λc m2 W2 o l2 p=>q c m2 W2 o (l1.trans l2) p}
 |true=>show q _ e i j l1 l
def sy {rest:List MC}(d:VT X a f)(e:VW X (.BoolOp .And (b::rest) c) g):VW X (.BoolOp .And (a::b::rest) c) (xh f g):=#v[PW.sub (aix d.out e.out) λ_ _ _ h=>abl h]
def E8 {rest:List MC}(d:VT X a f)(e:VW X (.BoolOp .Or (b::rest) c) g):VW X (.BoolOp .Or (a::b::rest) c) (gOr f g):=#v[PW.sub (pw_or d.out e.out) λ_ _ _ h=>agv h]
def tw (h:VW X e f):VT X e f:=#v[h.out.pt]
def aem (fa b:GE):GE:=λm Q=>gT fa m λc a=>if c=LY then b a Q else Q (.val (.v (.bl LZ))) a
def akq (h:VE X a fa):VE X (.BoolOp op [a] b) fa:=#v[aiz h.out]
def akr {rest:List MC}(n:VE X a fa)(o:VE X (.BoolOp .And (b::rest) d) e):VE X (.BoolOp .And (a::b::rest) d) (aem fa e):=⟨PE.sub (aja n.out o.out) λp H Q ⟨W,m,R,r,rel,h,q⟩=>by
  show Sg (Q:=λc f=>if c=LY then lf _ e p f Q else Q (.bl LZ) f) {W,m,_,r,rel,h,λc g i j l1 l=>?_}
  cases c with
  |true=>show{i,g,_,rfl,l,j,λs m2 W2 x u l2 w y=>q s m2 W2 x u (l1.trans l2) w (y.old l1.toLe)}
  |false=>show q _ g i _ j l1 l (Rp.v rfl)⟩
def gIf (t:GT)(fa b:GE):GE:=λm Q=>t m λc a=>if c=LY then fa a Q else b a Q
def E9 (o:VT X c t)(p:VE X a fa)(r:VE X b s):VE X (.IfExp c a b u) (gIf t fa s):=⟨PE.sub (Zw o.out p.out r.out) λy H Q ⟨W,m,R,w,rel,h,q⟩=>by
  show{W,m,_,w,rel,h,λc i j l l1 n=>?_};cases c with
  |true=>show{j,i,_,rfl,n,l,λd m2 W2 x e l2 f g=>q d m2 W2 x e (l1.trans l2) f (g.old l1.toLe)}
  |false=>show{j,i,_,rfl,n,l,λd m2 W2 x e l2 f g=>q d m2 W2 x e (l1.trans l2) f (g.old l1.toLe)}⟩
def truG:Tr->(Bool->Prop)->Prop
 | .v .non,Q=>Q LZ
 | .v (.bl c),Q=>Q c
 | .v (.int i),Q=>Q (i != 0)
 | .tup l,Q=>Q (!l.isEmpty)
 | .lst l,Q=>Q (!l.isEmpty)
 |_,_=>False
def j6 (f:GE):GT:=λm Q=>f m λb a=>lk a b λd=>truG d λc=>Q c a
theorem Top.tup {b:B}{W:Wd}{x:V}{l:List Tr}(h:Top b W x (.tup l))(e:Same W.F W.H):∃a xs,x=.ref a/\SqT b.K W.H a xs/\Rps b W.F xs l:=by
 obtain⟨a,xs,rfl,c,d⟩:=Rp.tupI h;show{a,xs,rfl,c.same e,d}
theorem Top.v {b:B}{W:Wd}{x y:V}(h:Top b W x (.v y)):x=y:=(Rp.vI h).1
def Dg {a b:Type}{xs:List a}{l:List b}(h:xs.length=l.length):xs.isEmpty=l.isEmpty:=by
 cases xs<;>cases l<;>first | rfl | simp at h
def agw {Q:Bool->Prop}(e:Same W.F W.H)(h:Top b W x d)(q:truG d Q):∃k,Z6 b.K x W.H k/\Q k:=by
 unfold truG at q
 split at q
 ·cases h.v;show{_,rfl,q}
 ·cases h.v;show{_,rfl,q}
 ·cases h.v;show{_,rfl,q}
 ·obtain⟨a,xs,rfl,c,f⟩:=h.tup e;show{_,.inr (.inl {xs,c,by rw[Dg f.length]}),q}
 ·obtain⟨a,xs,rfl,c,f⟩:=h;show{_,.inl {xs,SqL.of c,by rw[Dg f.length]},q}
 ·show q.elim
def ia (e:VE X a f)(g:∀c,sL a X.env c=(do let v <-c;oX a.pos;jZ [v] (truthy v)):=by intro _;rfl):VT X a (j6 f):=⟨PT.sub (Z7 e.out g) λw H Q ⟨W,m,R,i,rel,h,q⟩=>⟨W,m,_,i,rel,h,λy j l x n l1 b o=>by
    obtain⟨d,p,r⟩:=gx b.ok o n;obtain⟨k,s,u⟩:=agw b.ok.sub p r;show{k,s,q k j l u l1 b}⟩⟩
def gaN:GA:=λm Q=>Q [] m
def gaE (f:GE)(r:GA):GA:=λm Q=>f m λa b=>r b λc m2=>Q (a::c) m2
def gaV (f:GE)(r:GA):GA:=λm Q=>f m λa b=>fz b a λd m2=>r m2 λc e=>Q (.val d::c) e
def ab:VA X [] gaN:=#v[PA.sub x5 λb H Q ⟨W,m,R,a,rel,h,q⟩=>by subst a;show q [] m W [] h (Lx.refl W) rel .nil]
def bu (b:VE X e f)(c:VA X a r)(hs:aP (e::a) X.env=(LZ,eval e X.env)::aP a X.env:=by rfl):VA X (e::a) (gaE f r):=⟨PA.sub (o3 b.out c.out hs) λu H Q ⟨W,m,R,d,rel,h,q⟩=>⟨W,m,_,d,rel,h,λw g i x j l1 l n=>⟨i,g,_,rfl,l,j,λy m2 W2 xs o l2 p s=>
    q _ m2 W2 _ o (l1.trans l2) p (.cons (n.mono l2) (Paired.mapP s λ_ _ z=>z.old l1.toLe))⟩⟩⟩
def ae (b:VE X e f)(c:VA X a r)(hs:aP (e::a) X.env=(LZ,eval e X.env)::aP a X.env:=by rfl):VA X (e::a) (gaV f r):=⟨PA.sub (o3 b.out c.out hs) λD H Q ⟨W,m,R,g,rel,h,q⟩=>⟨W,m,_,g,rel,h,λE G I x i l1 j l=>by
    obtain⟨d,m2,W2,n,l2,o,p,s⟩:=mv l1 j l i;show{W2,m2,_,o,p,n,λJ u w xs y l3 A C=>q _ u w _ y (l2.trans l3) A (.cons (Rp.mono l3.same s) (Paired.mapP C λ_ _ z=>z.old l2.toLe))}⟩⟩
def xi:List Ev->(List Tr->Prop)->Prop
 | [],Q=>Q []
 | .val d::r,Q=>xi r λds=>Q (d::ds)
 |_::_,_=>False
theorem o8:∀{a xs Q},Paired (Rev b O W) xs a->xi a Q->∃ds,Rps b W.F xs ds/\Q ds
 |_,_,_,.nil,h=>{[],.nil,h}
 | .val d::_,_::_,_,.cons h t,q=>by
  obtain⟨ds,r,q⟩:=o8 t q;show{d::ds,.cons h r,q}
 | .new _::_,_,_,_,q=>q.elim
 | .cel _::_,_,_,_,q=>q.elim
def big (n:Nat)(h:n<=1000000):n<=sizeLine:=bL h (by decide)
def gTup (r:GA):GE:=λm Q=>r m λa b=>xi a λds=>ds.length<=1000000/\Q (.val (.tup ds)) b
def gLst (r:GA):GE:=λm Q=>r m λa b=>xi a λds=>ds.length<=1000000/\Q (.new (.lst ds)) b
def d7 (h:VA X j r):VE X (.Tuple j k l) (gTup r):=⟨PE.sub (ajq h.out) λD H Q ⟨W,m,R,n,rel,h,q⟩=>⟨W,m,_,n,rel,h,λE s f xs w l1 b x=>by
  obtain⟨ds,g,z,y⟩:=o8 x w;show{by rw[g.length];show big _ z,λp i=>?_};have fn:f.F p=LX:=by
    cases c:f.F p with
    |none=>rfl
    |some u=>have:=b.ok.sub _ _ c;rw[i]at this;cases this
  obtain⟨l2,A,C⟩:=Gu (d:=.tup ds) (o:=.tup xs) b.ok i (.tup (SqT.of bo) (g.mono λa u e=>by rw[ay (cf e fn)];show e));show q _ s _ _ y (l1.trans l2) (b.lift l2 (λ_=>rfl) A) C⟩⟩
def bc (h:VA X c r):VE X (.List c e) (gLst r):=⟨PE.sub (ajr h.out) λw H Q ⟨W,m,R,f,rel,h,q⟩=>⟨W,m,_,f,rel,h,λx g y xs i l1 a j=>by
  obtain⟨ds,b,z,l⟩:=o8 j i;show{by rw[b.length];show big _ z,λp n=>?_};obtain⟨l2,s,u⟩:=o7 (d:=.lst ds) (o:=.lst xs) a.ok n #v[xs,bo,b];show q _ g _ _ l (l1.trans l2) (a.lift l2 (λ_=>rfl) s) (u.old l1.toLe)⟩⟩
def ku {a:Type}(o:Option a)(Q:a->Prop):Prop:=match o with
 |some x=>Q x
 |none=>False
def ja {a:Type}{o:Option a}{Q:a->Prop}(h:ku o Q):∃x,o=KE x/\Q x:=by
 cases o with
 |some x=>show#v[x,rfl,h]
 |none=>show h.elim
def ax {a:Type}{o:Option a}{Q:a->Prop}{x:a}(e:o=KE x)(h:Q x):ku o Q:=by subst e;show h
def ixG:G2
 | .lst l,.v (.int i),R=>ku (atI l i) λd=>R (.val d)
 | .scr l,.v (.int i),R=>ku (atI l i) λd=>R (.val d)
 | .tup l,.v (.int i),R=>ku (atI l i) λd=>R (.val d)
 | .v (.str z),.v (.int i),R=>z.length<=1000000/\ku (atI z.cps.toList i) λc=>R (.val (.v (.str #v[#[c]])))
 |_,_,_=>False
theorem Rps.atI {b:B}{F:Hp}{xs:List V}{l:List Tr}{i:Int}{d:Tr}(r:Rps b F xs l)(h:L2.atI l i=KE d):∃x,L2.atI xs i=KE x/\Rp b F x d:=by
 unfold L2.atI at h ⊢;rw[r.length];cases q:ixN l.length i with
 |none=>rw[q]at h;cases h
 |some j=>rw[q]at h;show r.get h
def aen:IxR X (rG X.B ixG):=by
 intro value slice j s l H x y v u Q I m n h hs;obtain⟨W,cel,p,r,R,rfl,ok,o,ty,h,q⟩:=h;unfold ixG at h
 split at h
 ·obtain⟨a,xs,rfl,b,f⟩:=o;cases ty.v;obtain⟨d,e,h⟩:=ja h;obtain⟨z,g,i⟩:=f.atI e;show B6 value slice j s l W.H _ _ v u Q I m n {a,xs,_,z,rfl,rfl,SqL.of b,g,q _ W z h (After.refl ok) i} hs
 ·obtain⟨a,xs,rfl,b,f⟩:=Rp.scrI o;cases ty.v;obtain⟨d,e,h⟩:=ja h;obtain⟨z,g,i⟩:=f.atI e;show B6 value slice j s l W.H _ _ v u Q I m n {a,xs,_,z,rfl,rfl,y9 b ok.sub,g,q _ W z h (After.refl ok) i} hs
 ·obtain⟨a,xs,rfl,b,f⟩:=o.tup ok.sub;cases ty.v;obtain⟨d,e,h⟩:=ja h;obtain⟨z,g,i⟩:=f.atI e;show aju value slice j s l W.H _ _ v u Q I m n {a,xs,_,z,rfl,rfl,b,g,q _ W z h (After.refl ok) i} hs
 ·cases o.v;cases ty.v;obtain⟨hz,h⟩:=h;obtain⟨c,e,h⟩:=ja h;show ajv value slice j s l W.H _ _ v u Q I m n {_,_,c,rfl,rfl,big _ hz,e,q _ W _ h (After.refl ok) (Rp.v rfl)} hs
 ·show h.elim
def ao (c:VE X a fa)(d:VE X b e)(hs:Gm b:=by show λ_ _=>rfl):VE X (.Subscript a b f) (gOp ixG fa e):=#v[PE.sub (Kw aen c.out d.out hs) λ_ _ _ h=>ya h]
abbrev GO:=M->(Option Int->M->Prop)->Prop
def lfO (b:B)(f:GO):TO:=λc H Q=>∃W m R,W.H=H/\Rel b W m c/\f m R/\∀o d a,R o d->Lx W a->Rel b a d c->Q o a.H
structure VO (X:Cx)(e:Option MC)(f:GO):Prop where
 out:PO X e (lfO X.B f)
def goN:GO:=λm Q=>Q LX m
def goS (f:GE):GO:=λm Q=>f m λa b=>match a with
 | .val (.v (.int i))=>Q (KE i) b
 |_=>False
def bx:VO X LX goN:=#v[λa s b H Q I ⟨W,m,R,c,rel,h,q⟩=>by subst c;show afp a s b W.H Q I (q LX m W h (Lx.refl W) rel)]
def bt (b:VE X e f):VO X (KE e) (goS f):=⟨λc s d H Q I ⟨W,m,R,g,rel,h,q⟩=>afq b.out c s d H Q I ⟨W,m,_,g,rel,h,λo i j x a l1 l n=>by
  split at a
  · cases(Rp.vI n).1;show{_,rfl,q _ i j a l1 l}
  · show a.elim⟩⟩
def slG (d:Tr)(lo hi:Option Int)(R:Ev->Prop):Prop:=match d with
 | .lst l=>R (.new (.lst (au l lo hi)))
 | .scr l=>R (.new (.lst (au l lo hi)))
 | .tup l=>R (.val (.tup (au l lo hi)))
 | .v (.str z)=>z.length<=1000000/\R (.val (.v (.str (gP z lo hi))))
 |_=>False
def gSl (fa:GE)(b c:GO):GE:=λm Q=>fa m λd e=>b e λlo m2=>c m2 λhi a=>lk a d λx=>slG x lo hi λf=>Q f a
def rSl (b:B):V->Option Int->Option Int->Hp->VK->Prop:=λx lo hi H Q=>∃W cel c R,W.H=H/\Wok b W cel/\Top b W x c/\slG c lo hi R/\∀d a z,R d->After b W cel a->Rev b W a z d->Q z a.H
def Rps.cut {b:B}{F:Hp}{xs:List V}{l:List Tr}(r:Rps b F xs l)(lo hi:Option Int):Rps b F (xc xs lo hi) (au l lo hi):=by
 unfold xc au;rw[r.length];show(r.drop _).take _
def Wok.Fn (ok:Wok b W cel)(a:W.H p=LX):W.F p=LX:=by
 cases c:W.F p with
 |none=>rfl
 |some u=>have:=ok.sub _ _ c;rw[a]at this;cases this
def Wok.sameU (ok:Wok b W cel)(c:W.H p=LX):Same W.F (upd W.F p o):=λa u e=>by rw[ay (cf e (ok.Fn c))];show e
def ux {b:B}{W:Wd}{cel:List (Option Tr)}{R:Ev->Prop}{Q:VK}{xs:List V}{l:List Tr}(ok:Wok b W cel)(q:∀c a z,R c->After b W cel a->Rev b W a z c->Q z a.H)(h:R (.new (.lst l)))(r:Rps b W.F xs l) :
  ∀p,W.H p=LX->Q (.ref p) (upd W.H p (.lst xs)):=λp e=>by
 obtain⟨l2,f,g⟩:=o7 (d:=.lst l) (o:=.lst xs) ok e #v[xs,bo,r];show q _ _ _ h {l2,λ_=>rfl,f} g
def Ca {b:B}{W:Wd}{cel:List (Option Tr)}{R:Ev->Prop}{Q:VK}{xs:List V}{l:List Tr}(ok:Wok b W cel)(q:∀c a z,R c->After b W cel a->Rev b W a z c->Q z a.H)(h:R (.val (.tup l)))(r:Rps b W.F xs l) :
  ∀p,W.H p=LX->Q (.ref p) (upd W.H p (.tup xs)):=λp e=>by
 obtain⟨l2,f,g⟩:=Gu (d:=.tup l) (o:=.tup xs) ok e (.tup (SqT.of bo) (r.mono (ok.sameU e)));show q _ _ _ h {l2,λ_=>rfl,f} g
def sl_ok:SlR X (rSl X.B):=by
 intro f s g H x v i j lo hi l Q I m hs pl n h;obtain⟨W,cel,u,R,rfl,ok,o,h,q⟩:=h;unfold slG at h
 split at h
 ·obtain⟨a,xs,rfl,b,d⟩:=o;show R6 f s g W.H _ v i j lo hi l Q I m hs pl n {a,xs,rfl,SqL.of b,ux ok q h (d.cut lo hi)}
 ·obtain⟨a,xs,rfl,b,d⟩:=Rp.scrI o;show R6 f s g W.H _ v i j lo hi l Q I m hs pl n {a,xs,rfl,y9 b ok.sub,ux ok q h (d.cut lo hi)}
 ·obtain⟨a,xs,rfl,b,d⟩:=o.tup ok.sub;by_cases c:Xu xs lo hi
  ·show agj f s g W.H _ v i j lo hi l Q I m hs pl n {a,xs,rfl,b,c,q _ W _ h (After.refl ok) ?_};obtain⟨w,ys,e,p,y⟩:=Rp.tupI o;cases e;have r:xs=ys:=I.tuple_inj b (p.same ok.sub);subst r;have z:=d.cut lo hi;rw[show xc xs lo hi=xs by unfold xc;rw[c.1,c.2,mM,Nat.sub_zero,cW]]at z;show Rp.tup p z
  ·show ajt f s g W.H _ v i j lo hi l Q I m hs pl n {a,xs,rfl,b,c,Ca ok q h (d.cut lo hi)}
 ·cases o.v;obtain⟨hz,h⟩:=h;show akc f s g W.H _ v i j lo hi l Q I m hs pl n {_,rfl,big _ hz,q _ W _ h (After.refl ok) (Rp.v rfl)}
 ·show h.elim
def cv (e:VE X a fa)(f:VO X lo g)(i:VO X hi j):VE X (.Subscript a (.Slice lo hi LX N) l) (gSl fa g j):=⟨PE.sub (aad sl_ok e.out f.out i.out) λO H Q ⟨W,m,R,n,rel,h,q⟩=>⟨W,m,_,n,rel,h,λT o p x r l1 s u=>⟨p,o,_,rfl,s,r,λlo m2 W2 w l2 y=>⟨W2,m2,_,rfl,y,w,λhi d A C l3 c=>by
    obtain⟨D,E,G⟩:=gx c.ok (u.mono (l2.trans l3)) C;show{A,d.cel,D,_,rfl,c.ok,E,G,λI J z h5 b L=>q I d J z h5 (l1.trans (l2.trans (l3.trans b.lx))) (c.lift b.lx b.cs b.ok) (L.old (l1.trans (l2.trans l3)).toLe)}⟩⟩⟩⟩
end
open PySem.SeqAt
section
variable {X:Cx}
def gn (C:Int->Int->Prop)(g:Int->Int->V):G2
 | .v (.int i),.v (.int j),R=>C i j/\R (.val (.v (g i j)))
 |_,_,_=>False
def ff (g:Int->Int->V):G2
 | .v (.int i),.v (.int j),R=>R (.val (.v (g i j)))
 |_,_,_=>False
def Fb (h:OpR X f (rI C g))(a:∀i j,pd (g i j)=LY):OpG X f (gn C g):=by
 intro b s c H x y v u Q I d e h';obtain⟨W,cel,m,n,R,rfl,ok,l,ty,h',q⟩:=h';unfold gn at h'
 split at h'
 ·cases l.v;cases ty.v;show h b s c W.H _ _ v u Q I d e {_,_,rfl,rfl,h'.1,q _ W _ h'.2 (After.refl ok) (Rp.v (a _ _))}
 ·show h'.elim
def uy (h:OpR X f (rI0 g))(a:∀i j,pd (g i j)=LY):OpG X f (ff g):=by
 intro b s c H x y v u Q I d e h';obtain⟨W,cel,m,n,R,rfl,ok,l,ty,h',q⟩:=h';unfold ff at h'
 split at h'
 ·cases l.v;cases ty.v;show h b s c W.H _ _ v u Q I d e {_,_,rfl,rfl,q _ W _ h' (After.refl ok) (Rp.v (a _ _))}
 ·show h'.elim
def L7:OpG X (eC .Sub) (ff λi j=>.int (i - j)):=uy ajg λ_ _=>rfl
def js:OpG X (eC .Mod) (gn (λ_ j=>0 < j) λi j=>.int (i % j)):=Fb aji λ_ _=>rfl
def Gw:OpG X (eC .FloorDiv) (gn Lc λi j=>.int (i / j)):=Fb afg λ_ _=>rfl
def Fc:OpG X (eC .LShift) (gn Gh λi j=>.int (i * 2 ^ j.toNat)):=Fb ajj λ_ _=>rfl
def Ya:OpG X (eC .RShift) (gn (λ_ j=>0<=j) λi j=>.int (i / 2 ^ j.toNat)):=Fb ajk λ_ _=>rfl
def L8:OpG X (eC .BitAnd) (ff λi j=>.int (eG i j)):=uy ajl λ_ _=>rfl
def Uw:OpG X (eC .BitOr) (ff λi j=>.int (dW i j)):=uy op_or λ_ _=>rfl
def zc:OpG X (eP .Lt) (ff λi j=>.bl (decide (i < j))):=uy op_lt λ_ _=>rfl
def Fe:OpG X (eP .Gt) (ff λi j=>.bl (decide (j < i))):=uy op_gt λ_ _=>rfl
def og_ge:OpG X (eP .GtE) (ff λi j=>.bl (decide (j<=i))):=uy op_ge λ_ _=>rfl
def bz:G2
 | .v (.int i),.v (.int j),R=>R (.val (.v (.int (i+j))))
 | .v (.str i),.v (.str j),R=>i.length+j.length<=1000000/\R (.val (.v (.str (i++j))))
 | .tup l,.tup m,R=>l.length+m.length<=1000000/\R (.val (.tup (l++m)))
 | .lst l,.lst m,R=>l.length+m.length<=1000000/\R (.new (.lst (l++m)))
 |_,_,_=>False
def az:OpG X (eC .Add) bz:=by
 intro g s i H x y v u Q I j l h;obtain⟨W,cel,p,r,R,rfl,ok,f,ty,h,q⟩:=h;unfold bz at h
 split at h
 ·cases f.v;cases ty.v;show ajf g s i W.H _ _ v u Q I j l {_,_,rfl,rfl,q _ W _ h (After.refl ok) (Rp.v rfl)}
 ·cases f.v;cases ty.v;show Tv g s i W.H _ _ v u Q I j l {_,_,rfl,rfl,big _ h.1,q _ W _ h.2 (After.refl ok) (Rp.v rfl)}
 ·obtain⟨a,xs,rfl,m,d⟩:=f.tup ok.sub;obtain⟨b,ys,rfl,n,e⟩:=ty.tup ok.sub;obtain⟨hz,h⟩:=h;have o:xs.length+ys.length<=sizeLine:=(by rw[d.length,e.length];show big _ hz);show aak g s i W.H _ _ v u Q I j l ?_;by_cases c:xs=[]
  ·subst c;cases d;show .inr {a,b,ys,rfl,rfl,m,n,q _ W _ h (After.refl ok) ty}
  ·show .inl {a,b,xs,ys,rfl,rfl,m,n,c,o,λz=>?_,λ_=>Ca ok q h (d.append e)};subst z;cases e;rw[bY]at h;show q _ W _ h (After.refl ok) f
 ·obtain⟨a,xs,rfl,m,d⟩:=f;obtain⟨b,ys,rfl,n,e⟩:=ty;show ajy g s i W.H _ _ v u Q I j l {a,b,xs,ys,rfl,rfl,m,n,by rw[d.length,e.length];show big _ h.1,ux ok q h.2 (d.append e)}
 ·show h.elim
def qt:G2
 | .v (.int i),.v (.int j),R=>CMul i j/\R (.val (.v (.int (i * j))))
 | .lst l,.v (.int k),R=>-1000000<=k/\k<=1000000/\l.length * k.toNat<=1000000/\R (.new (.lst (aT k.toNat l).flatten))
 |_,_,_=>False
theorem Rps.rep (r:Rps b F xs l):∀n,Rps b F (aT n xs).flatten (aT n l).flatten
 |0=>.nil
 |n+1=>by rw[fK,fK,iM,iM];show r.append (r.rep n)
def lq:OpG X (eC .Mult) qt:=by
 intro b s c H x y v u Q I d e h;obtain⟨W,cel,l,m,R,rfl,ok,f,ty,h,q⟩:=h;unfold qt at h
 split at h
 ·cases f.v;cases ty.v;show ajh b s c W.H _ _ v u Q I d e {_,_,rfl,rfl,h.1,q _ W _ h.2 (After.refl ok) (Rp.v rfl)}
 ·obtain⟨a,xs,rfl,i,g⟩:=f;cases ty.v;obtain⟨n,o,j,h⟩:=h;show ajz b s c W.H _ _ v u Q I d e {a,_,xs,rfl,rfl,i,(),(),by rw[g.length];show big _ j,ux ok q h (g.rep _)}
 ·show h.elim
def Bd (a:Bool):G2
 | .v x,.v .non,R=>R (.val (.v (.bl (if a then !decide (x=.non)else decide (x=.non)))))
 | .tup _,.v .non,R=>R (.val (.v (.bl a)))
 | .lst _,.v .non,R=>R (.val (.v (.bl a)))
 |_,_,_=>False
def aeo:OpG X (eP .Is) (Bd LZ):=by
 intro b s c H x y v u Q I d e h;obtain⟨W,cel,j,l,R,rfl,ok,f,ty,h,q⟩:=h;unfold Bd at h
 split at h
 ·cases f.v;cases ty.v;show Ld b s c W.H _ _ v u Q I d e {rfl,q _ W _ h (After.refl ok) (Rp.v rfl)}
 ·obtain⟨a,xs,rfl,g,i⟩:=f.tup ok.sub;cases ty.v;show Ld b s c W.H _ _ v u Q I d e {rfl,q _ W _ h (After.refl ok) (Rp.v rfl)}
 ·obtain⟨a,xs,rfl,g,i⟩:=f;cases ty.v;show Ld b s c W.H _ _ v u Q I d e {rfl,q _ W _ h (After.refl ok) (Rp.v rfl)}
 ·show h.elim
def L9:OpG X (eP .IsNot) (Bd LY):=by
 intro b s c H x y v u Q I d e h;obtain⟨W,cel,j,l,R,rfl,ok,f,ty,h,q⟩:=h;unfold Bd at h
 split at h
 ·cases f.v;cases ty.v;show Gi b s c W.H _ _ v u Q I d e {rfl,q _ W _ h (After.refl ok) (Rp.v rfl)}
 ·obtain⟨a,xs,rfl,g,i⟩:=f.tup ok.sub;cases ty.v;show Gi b s c W.H _ _ v u Q I d e {rfl,q _ W _ h (After.refl ok) (Rp.v rfl)}
 ·obtain⟨a,xs,rfl,g,i⟩:=f;cases ty.v;show Gi b s c W.H _ _ v u Q I d e {rfl,q _ W _ h (After.refl ok) (Rp.v rfl)}
 ·show h.elim
def K1:V->V->Bool
 | .int _,.int _=>LY
 | .str _,.str _=>LY
 | .bl _,.bl _=>LY
 | .non,.non=>LY
 | .non,.int _=>LY
 | .int _,.non=>LY
 | .non,.str _=>LY
 | .str _,.non=>LY
 |_,_=>LZ
mutual
def gr:Nat->Tr->Tr->Bool
 |_,.v x,.v y=>K1 x y
 |n+1,.tup l,.tup m=>cmpL n l m
 |n+1,.lst l,.lst m=>cmpL n l m
 |_,_,_=>LZ
def cmpL:Nat->List Tr->List Tr->Bool
 |n,a::l,b::m=>gr n a b && cmpL n l m
 |_,_,_=>LY
end
theorem Cb:∀{n:Nat}{l m:List Tr}{j:Nat}{a b:Tr},cmpL n l m=LY->l[j]?=KE a->m[j]?=KE b->gr n a b=LY
 |n,[],_,_,_,_,_,e,_=>by simp at e
 |n,_::_,[],_,_,_,_,_,e=>by simp at e
 |n,a::l,b::m,0,_,_,h,c,d=>by
  simp at c d;subst c d;rw[cmpL,cQ]at h;show h.1
 |n,a::l,b::m,j+1,_,_,h,c,d=>by
  rw[cmpL,cQ]at h;show Cb h.2 (by simpa using c) (by simpa using d)
def abn (h:K1 x y=LY):eqV x y=LY↔x=y:=by
 unfold K1 at h
 split at h<;>first | (cases h;done) | simp[eqV]
theorem Rps.paired {b:B}{F:Hp}:∀{xs:List V}{l:List Tr},Rps b F xs l->Paired (Rp b F) xs l
 |_,_,.nil=>.nil
 |_,_,.cons h r=>.cons h r.paired
mutual
theorem Rp.inj (h:∀a xs ys,SqT b.K F a xs->SqT b.K F a ys->xs=ys)(i:∀a xs ys,SqL b.K F a xs->SqL b.K F a ys->xs=ys):∀{n x d e},gr n d e=LY->Rp b F x d->Rp b F x e->d=e
 |_,_,.v _,.v _,_,f,g=>by rw[<-(Rp.vI f).1,<-(Rp.vI g).1]
 |n+1,_,.tup l,.tup m,c,f,g=>by
  obtain⟨a,xs,rfl,j,o⟩:=Rp.tupI f;obtain⟨r,ys,e,p,q⟩:=Rp.tupI g;cases e;have:=h _ _ _ j p;subst this;rw[Rps.inj h i (n:=n) (by simpa[gr]using c) o q]
 |n+1,_,.lst l,.lst m,c,f,g=>by
  obtain⟨a,xs,rfl,j,o⟩:=Rp.lstI f;obtain⟨r,ys,e,p,q⟩:=Rp.lstI g;cases e;have:=i _ _ _ (SqL.of j) (SqL.of p);subst this;rw[Rps.inj h i (n:=n) (by simpa[gr]using c) o q]
theorem Rps.inj (d:∀a xs ys,SqT b.K F a xs->SqT b.K F a ys->xs=ys)(e:∀a xs ys,SqL b.K F a xs->SqL b.K F a ys->xs=ys):∀{n xs l m},cmpL n l m=LY->Rps b F xs l->Rps b F xs m->l=m
 |_,_,_,_,_,.nil,.nil=>rfl
 |n,_,_::_,_::_,c,.cons f g,.cons h i=>by
  rw[cmpL,cQ]at c;rw[Rp.inj d e c.1 f h,Rps.inj d e c.2 g i]
end
open Classical in
def Sh {w:List (MA×Obj)}{C:St}{H:Hp}{s:aK}{A:cG}{d:Type}{R:V->d->Prop}(I:Inv X w C H s){a b:MA}{xs ys:List V}{ks ls:List d}(D:SqL X.K H a xs)(E:SqL X.K H b ys)(g:Paired R xs ks)(h:Paired R ys ls)(i:A.units < dP)
  (G:∀(j:Nat)(k l:d),ks[j]?=KE k->ls[j]?=KE l->∀(x y:V)(u v:aE),R x k->R y l->RelV x u->RelV y v->EqAt A.in1 s u v (decide (k=l))):RcAt A s (.ref a) (.ref b) (decide (ks=ls)):=by
 obtain⟨its,m,n,_⟩:=I.list D;obtain⟨J,o,p,_⟩:=I.list E;have f:its.toArray.size=ks.length:=(by rw[aO,<-m.length,Paired.length g]);have r:J.toArray.size=ls.length:=(by rw[aO,<-o.length,Paired.length h]);by_cases c:ks.length=ls.length
 ·have q:=RcAt.lists (s:=s) (A:=A) n.isList p.isList (by rw[f,r,c]) i (sx g h m o G);have e:(bG its.toArray.size).all (λj=>decide (ks[j]?=ls[j]?))=decide (ks=ls):=by
   rw[f,<-vj ks ls,c,mF];simp
  rw[e]at q;show q
 ·have q:=RcAt.lists_lengths (A:=A) (s:=s) n.isList p.isList (by rw[f,r];simpa using c) i;rw[MG (λz=>c (by rw[z]))];show q
open Classical in
def Yb {w:List (MA×Obj)}{C:St}{H:Hp}{s:aK}{A:cG}{d:Type}{R:V->d->Prop}(I:Inv X w C H s){a b:MA}{xs ys:List V}{ks ls:List d}(D:SqL X.K H a xs)(E:SqL X.K H b ys)(g:Paired R xs ks)(h:Paired R ys ls)(i:A.units < dP)
  (G:∀(j:Nat)(k l:d),ks[j]?=KE k->ls[j]?=KE l->∀(x y:V)(u v:aE),R x k->R y l->RelV x u->RelV y v->EqAt A.in1 s u v (decide (k=l))):RcNeAt A s (.ref a) (.ref b) (!decide (ks=ls)):=by
 obtain⟨its,m,n,_⟩:=I.list D;obtain⟨J,o,p,_⟩:=I.list E;have f:its.toArray.size=ks.length:=(by rw[aO,<-m.length,Paired.length g]);have r:J.toArray.size=ls.length:=(by rw[aO,<-o.length,Paired.length h]);by_cases c:ks.length=ls.length
 ·have q:=RcNeAt.lists (s:=s) (A:=A) n.isList p.isList (by rw[f,r,c]) i (sx g h m o G);have e:(bG its.toArray.size).all (λj=>decide (ks[j]?=ls[j]?))=decide (ks=ls):=by
   rw[f,<-vj ks ls,c,mF];simp
  rw[e]at q;show q
 ·have q:=RcNeAt.lists_lengths (A:=A) (s:=s) n.isList p.isList (by rw[f,r];simpa using c) i;rw[MG (λz=>c (by rw[z]))];show q
open Classical in
def Yc {r:List (MA×Obj)}{w:St}{H:Hp}{s:aK}{A:cG}{c:Type}{R:V->c->Prop}(I:Inv X r w H s){a b:MA}{xs ys:List V}{ks ls:List c}(z:SqT X.K H a xs)(C:SqT X.K H b ys)(d:Paired R xs ks)(e:Paired R ys ls)(i:A.units < dP)
  (m:∀(j:Nat)(k l:c),ks[j]?=KE k->ls[j]?=KE l->∀(x y:V)(u v:aE),R x k->R y l->RelV x u->RelV y v->EqAt A.in1 s u v (decide (k=l))):RcAt A s (.ref a) (.ref b) (decide (ks=ls))/\RcNeAt A s (.ref a) (.ref b) (!decide (ks=ls)):=by
 obtain⟨its,f,n,_⟩:=I.tuple z;obtain⟨g,h,o,_⟩:=I.tuple C;have D:its.toArray.size=ks.length:=(by rw[aO,<-f.length,Paired.length d]);have E:g.toArray.size=ls.length:=(by rw[aO,<-h.length,Paired.length e]);have q:=RcAt.tuples (s:=s) (A:=A) (show s.heap.IsTuple a its.toArray from n) (show s.heap.IsTuple b g.toArray from o) i (sx d e f h m);have p:=RcNeAt.tuples (s:=s) (A:=A) (show s.heap.IsTuple a its.toArray from n) (show s.heap.IsTuple b g.toArray from o) i (sx d e f h m);rw[D,E,vj]at q p;show#v[q,p]
open Classical in
def B7 {Y:List (MA×Obj)}{σ:St}{H:Hp}{s:aK}(I:Inv X Y σ H s):∀(n:Nat) {d e:Tr}{x y:V}{u v:aE}{A:cG},gr n d e=LY->A.units+n < dP->Rp X.B H x d->Rp X.B H y e->RelV x u->RelV y v->EqAt A s u v (decide (d=e)):=by
 intro n;have Q:∀a xs ys,SqT X.B.K H a xs->SqT X.B.K H a ys->xs=ys:=λa xs ys=>I.tuple_inj;have G:∀a xs ys,SqL X.B.K H a xs->SqL X.B.K H a ys->xs=ys:=λa xs ys=>I.list_inj;have flat:∀{d e:V}{x y:V}{u v:aE}{A:cG},K1 d e=LY->Rp X.B H x (.v d)->Rp X.B H y (.v e)->RelV x u->RelV y v->EqAt A s u v (decide (Tr.v d=Tr.v e)):=λ{d e x y u v A} c g h b f=>by
  obtain⟨rfl,f1⟩:=Rp.vI g;obtain⟨rfl,f2⟩:=Rp.vI h;have z:=Wy (A:=A) (s:=s) b f f1 f2;have k:=abn c;have i:eqV x y=decide (Tr.v x=Tr.v y):=by
   by_cases w:x=y
   ·rw[k.mpr w,MH (by rw[w])]
   ·have:eqV x y=LZ:=by
     cases q:eqV x y with
     |false=>rfl
     |true=>show MI (k.mp q) w
    rw[this,MG (λz=>w (by injection z))]
  rw[i]at z;show z
 induction n with
 |zero=>
  intro d e x y u v A c hu g h b f;cases d with
  |v d=>
   cases e with
   |v e=>show flat (by simpa[gr]using c) g h b f
   |_=>simp[gr]at c
  |_=>simp[gr]at c
 |succ n T=>
  intro d e x y u v A c hu g h b f;cases d with
  |v d=>
   cases e with
   |v e=>show flat (by simpa[gr]using c) g h b f
   |_=>simp[gr]at c
  |tup l=>
   cases e with
   |tup m=>
    obtain⟨a,xs,rfl,C,o⟩:=Rp.tupI g;obtain⟨D,ys,rfl,E,p⟩:=Rp.tupI h;cases(show u=.ref a from b);cases(show v=.ref D from f);have r:cmpL n l m=LY:=(by simpa[gr]using c);have z:=ags (A:=A) (R:=Rp X.B H) (ks:=l) (ls:=m) I (λz=>by subst z;show Rps.inj Q G r o p) C E o.paired p.paired () λj k l' J L x y u v N O b f=>
     T (A:=A.in1) (Cb r J L) (by rw[nG];lia) N O b f
    have i:decide (l=m)=decide (Tr.tup l=Tr.tup m):=(by rw[decide_eq_decide];show{λz=>by rw[z],λz=>by injection z});rw[i]at z;show z
   |_=>simp[gr]at c
  |lst l=>
   cases e with
   |lst m=>
    obtain⟨a,xs,rfl,C,o⟩:=Rp.lstI g;obtain⟨D,ys,rfl,E,p⟩:=Rp.lstI h;cases(show u=.ref a from b);cases(show v=.ref D from f);have r:cmpL n l m=LY:=(by simpa[gr]using c);have i:decide (l=m)=decide (Tr.lst l=Tr.lst m):=(by rw[decide_eq_decide];show{λz=>by rw[z],λz=>by injection z});rw[<-i];by_cases U:a=D
    ·subst U;have e4:=G _ _ _ (SqL.of C) (SqL.of E);subst e4;rw[MH (Rps.inj Q G r o p)];show EqAt.same _
    ·show EqAt.of_refs U (Sh I (SqL.of C) (SqL.of E) o.paired p.paired () λj k l' J L x y u v N O b f=>
       T (A:=A.in1) (Cb r J L) (by rw[nG];lia) N O b f)
   |_=>simp[gr]at c
  |_=>simp[gr]at c
def Cc {b:List (MA×Obj)}{d:St}{H:Hp}{s:aK}(I:Inv X b d H s)(o:X.A.units+64 < dP){l m:List Tr}(c:cmpL 39 l m=LY)(j:Nat)(k a:Tr)(e:l[j]?=KE k)(f:m[j]?=KE a)(x y:V)(u v:aE)
  (g:Rp X.B H x k) (h:Rp X.B H y a) (i:RelV x u) (n:RelV y v):EqAt X.A.in1 s u v (@decide (k=a) (Classical.propDecidable _)):=B7 I 39 (A:=X.A.in1) (Cb c e f) (by rw[nG];lia) g h i n
def eqG (a:Bool):G2
 | .v x,.v y,R=>Z5 x y=LY/\R (.val (.v (.bl (if a then !decide (x=y)else decide (x=y)))))
 | .tup l,.tup m,R=>cmpL 39 l m=LY/\∀c:Bool,(c=LY↔l=m)->R (.val (.v (.bl (if a then !c else c))))
 | .lst l,.lst m,R=>cmpL 39 l m=LY/\∀c:Bool,(c=LY↔l=m)->R (.val (.v (.bl (if a then !c else c))))
 |_,_,_=>False
open Classical in
def ef (i:X.A.units+64 < dP):OpG X (eP .Eq) (eqG LZ):=by
 intro n s o H x y v u Q I b c h;obtain⟨W,cel,r,w,R,rfl,ok,j,ty,h,q⟩:=h;have l:=j.rp ok.sub;have m:=ty.rp ok.sub;unfold eqG at h
 split at h
 ·cases j.v;cases ty.v;show op_eq n s o W.H _ _ v u Q I b c {h.1,q _ W _ h.2 (After.refl ok) (Rp.v rfl)}
 ·obtain⟨a,xs,rfl,d,e⟩:=Rp.tupI l;obtain⟨p,ys,rfl,f,g⟩:=Rp.tupI m;cases b;cases c;show(Yc (A:=X.A) I d f e.paired g.paired () (Cc I i h.1)).1 _ _ _ _ {.bl _,W.H,I,rfl,q _ W _ (h.2 _ decide_eq_true_iff) (After.refl ok) (Rp.v rfl)}
 ·obtain⟨a,xs,rfl,d,e⟩:=Rp.lstI l;obtain⟨p,ys,rfl,f,g⟩:=Rp.lstI m;cases b;cases c;show Sh (A:=X.A) I (SqL.of d) (SqL.of f) e.paired g.paired () (Cc I i h.1) _ _ _ _ {.bl _,W.H,I,rfl,q _ W _ (h.2 _ decide_eq_true_iff) (After.refl ok) (Rp.v rfl)}
 ·show h.elim
open Classical in
def ug (i:X.A.units+64 < dP):OpG X (eP .NotEq) (eqG LY):=by
 intro n s o H x y v u Q I b c h;obtain⟨W,cel,r,w,R,rfl,ok,j,ty,h,q⟩:=h;have l:=j.rp ok.sub;have m:=ty.rp ok.sub;unfold eqG at h
 split at h
 ·cases j.v;cases ty.v;show op_ne n s o W.H _ _ v u Q I b c {h.1,q _ W _ h.2 (After.refl ok) (Rp.v rfl)}
 ·obtain⟨a,xs,rfl,d,e⟩:=Rp.tupI l;obtain⟨p,ys,rfl,f,g⟩:=Rp.tupI m;cases b;cases c;show(Yc (A:=X.A) I d f e.paired g.paired () (Cc I i h.1)).2 _ _ _ _ {.bl _,W.H,I,rfl,q _ W _ (h.2 _ decide_eq_true_iff) (After.refl ok) (Rp.v rfl)}
 ·obtain⟨a,xs,rfl,d,e⟩:=Rp.lstI l;obtain⟨p,ys,rfl,f,g⟩:=Rp.lstI m;cases b;cases c;show Yb (A:=X.A) I (SqL.of d) (SqL.of f) e.paired g.paired () (Cc I i h.1) _ _ _ _ {.bl _,W.H,I,rfl,q _ W _ (h.2 _ decide_eq_true_iff) (After.refl ok) (Rp.v rfl)}
 ·show h.elim
def inL (a:Bool)(d:Tr)(l:List Tr)(R:Ev->Prop):Prop:=(∀e∈l,gr 39 e d=LY)/\∀c:Bool,(c=LY↔d∈l)->R (.val (.v (.bl (if a then !c else c))))
def inG (a:Bool):G2
 |d,.lst l,R=>inL a d l R
 |d,.tup l,R=>inL a d l R
 |_,_,_=>False
open Classical in
noncomputable def isT (b:B)(H:Hp)(d:Tr)(u:aE):Bool:=decide (∃z,RelV z u/\Rp b H z d)
open Classical in
def Yd (I:Inv X g i H s)(c:gr 39 e d=LY)(r:RelV x u)(h:Rp X.B H x e):isT X.B H d u=decide (e=d):=by
 unfold isT;rw[decide_eq_decide];constructor
 ·intro b;obtain⟨z,f,hz⟩:=b;cases r.inj f;show Rp.inj (λa xs ys=>I.tuple_inj) (λa xs ys=>I.list_inj) c h hz
 ·intro b;subst b;show#v[x,r,h]
open Classical in
theorem yc (I:Inv X f g H s):∀{xs l its},Rps X.B H xs l->Vals xs its->(∀e∈l,gr 39 e d=LY)->its.any (isT X.B H d)=decide (d∈l)
 |_,_,_,.nil,.nil,_=>by simp
 |_,_,_,.cons h t,.cons r rt,c=>by
  rw[jG,Yd I (c _ aN) r h,yc I t rt λe b=>c e (aI _ b)]
  rename_i e l _ _
  by_cases a:e=d
  ·simp[a]
  ·have:¬d=e:=λz=>a z.symm;simp[a,this]
theorem Be (I:Inv X i j H s)(f:A.units+40 < dP)(a:Rp X.B H y d)(b:RelV y v):∀{xs l its},Rps X.B H xs l->Vals xs its->(∀e∈l,gr 39 e d=LY)->∀u∈its,EqAt A s u v (isT X.B H d u)
 |_,_,_,.nil,.nil,_,_,h=>nomatch h
 |_,_,_,.cons h t,.cons r rt,c,u,zO=>by
  rcases aU.mp zO with rfl | zO
  ·rw[Yd I (c _ aN) r h];show B7 I 39 (c _ aN) () h a r b
  ·show Be I f a b t rt (λe g=>c e (aI _ g)) u zO
open Classical in
def Ux (l:X.A.units+64 < dP):OpG X (eP .In) (inG LZ):=by
 intro m s n H x y v u Q I d e h;obtain⟨W,cel,b,o,R,rfl,ok,i,ty,h,q⟩:=h;have f:=i.rp ok.sub;have g:=ty.rp ok.sub;unfold inG at h
 split at h
 ·obtain⟨j,ys,rfl,c,a⟩:=Rp.lstI g;cases e;obtain⟨its,r,pl,hz⟩:=I.list (SqL.of c);show in_listAt (isT X.B W.H b) pl.isList (λw hw=>Be I (by change X.A.units+1+40 < dP;lia) f d a r h.1 w (by simpa using hw)) {.bl _,W.H,I,rfl,?_};show q _ W _ (h.2 (its.toArray.any (isT X.B W.H b)) (by rw[nO,yc I a r h.1];show decide_eq_true_iff)) (After.refl ok) (Rp.v rfl)
 ·obtain⟨j,ys,rfl,c,a⟩:=Rp.tupI g;cases e;obtain⟨its,r,pl,hz⟩:=I.tuple c;show in_tupleAt (isT X.B W.H b) pl (λw hw=>Be I (by change X.A.units+1+40 < dP;lia) f d a r h.1 w (by simpa using hw)) {.bl _,W.H,I,rfl,?_};show q _ W _ (h.2 (its.toArray.any (isT X.B W.H b)) (by rw[nO,yc I a r h.1];show decide_eq_true_iff)) (After.refl ok) (Rp.v rfl)
 ·show h.elim
open Classical in
def abo (l:X.A.units+64 < dP):OpG X (eP .NotIn) (inG LY):=by
 intro m s n H x y v u Q I d e h;obtain⟨W,cel,b,o,R,rfl,ok,i,ty,h,q⟩:=h;have f:=i.rp ok.sub;have g:=ty.rp ok.sub;unfold inG at h
 split at h
 ·obtain⟨j,ys,rfl,c,a⟩:=Rp.lstI g;cases e;obtain⟨its,r,pl,hz⟩:=I.list (SqL.of c);show notIn_listAt (isT X.B W.H b) pl.isList (λw hw=>Be I (by change X.A.units+1+40 < dP;lia) f d a r h.1 w (by simpa using hw)) {.bl _,W.H,I,rfl,?_};show q _ W _ (h.2 (its.toArray.any (isT X.B W.H b)) (by rw[nO,yc I a r h.1];show decide_eq_true_iff)) (After.refl ok) (Rp.v rfl)
 ·obtain⟨j,ys,rfl,c,a⟩:=Rp.tupI g;cases e;obtain⟨its,r,pl,hz⟩:=I.tuple c;show notIn_tupleAt (isT X.B W.H b) pl (λw hw=>Be I (by change X.A.units+1+40 < dP;lia) f d a r h.1 w (by simpa using hw)) {.bl _,W.H,I,rfl,?_};show q _ W _ (h.2 (its.toArray.any (isT X.B W.H b)) (by rw[nO,yc I a r h.1];show decide_eq_true_iff)) (After.refl ok) (Rp.v rfl)
 ·show h.elim
def xj (f:GE):GE:=λm Q=>f m λa b=>match a with
 | .val (.v (.int i))=>Q (.val (.v (.int (-i)))) b
 |_=>False
def p7 (h:VE X a f):VE X (.UnaryOp .USub a c) (xj f):=⟨PE.sub (pe_un ajm h.out) λl H Q ⟨W,m,R,d,rel,h,q⟩=>⟨W,m,_,d,rel,h,λn e g x b l1 i j=>by
  split at b
  · cases(Rp.vI j).1;show{_,rfl,q _ e g _ b l1 i (Rp.v rfl)}
  · show b.elim⟩⟩
def lks (m:M):List Ev->(List Tr->Prop)->Prop
 | [],Q=>Q []
 |e::r,Q=>lk m e λd=>lks m r λds=>Q (d::ds)
theorem Ce (ok:Wok b W m.cel):∀{a xs Q},Paired (Rev b O W) xs a->lks m a Q->∃ds,Paired (Top b W) xs ds/\Q ds
 |_,_,_,.nil,h=>{[],.nil,h}
 |_,_,_,.cons h t,q=>by
  obtain⟨d,c,q⟩:=gx ok h q;obtain⟨ds,r,q⟩:=Ce ok t q;show{d::ds,.cons c r,q}
abbrev GL:=List Tr->(Ev->Prop)->Prop
def gCB (r:GL)(ga:GA):GE:=λm Q=>ga m λb a=>lks a b λds=>r ds λc=>Q c a
def rGA (b:B)(r:GL):List V->Hp->VK->Prop:=λxs H Q=>∃W cel ds R,W.H=H/\Wok b W cel/\Paired (Top b W) xs ds/\r ds R/\∀c a z,R c->After b W cel a->Rev b W a z c->Q z a.H
def p8 (X:Cx)(f:aE)(r:GL):Prop:=kz X f (rGA X.B r)
def Si (h:lf b (gCB r ga) e H Q):lfA b ga e H λxs f=>rGA b r xs f Q:=by
 obtain⟨W,m,R,g,rel,h,q⟩:=h;show{W,m,_,g,rel,h,λx d i xs j l1 c l=>?_};obtain⟨ds,n,o⟩:=Ce c.ok l j;show{i,d.cel,ds,_,rfl,c.ok,n,o,λp s z u a w=>q p d s z u (l1.trans a.lx) (c.lift a.lx a.cs a.ok) (w.old l1.toLe)}
def br {x:Str}{id:String}{r:GL}{e:MC}{a:List MC}{ga:GA}{p b:Pos}(c:p8 X (.builtin id) r)(d:Gl X x)(f:X.mg x=LX)(g:dX x=KE (.builtin id))(i:VA X (e::a) ga)(j:x≠"__name__":=by decide)(l:(x == ("__debug__":Str))=LZ:=by decide)
  (m:aP (e::a) X.env=(LZ,eval e X.env)::aP a X.env:=by rfl) (n:(dU b (aP a X.env)).any (·.1)=LZ:=by rfl):VE X (.Call (.Name x p) (e::a) [] b) (gCB r ga):=#v[PE.sub (Dj c d f g i.out j l m n) λ_ _ _ h=>Si h]
def ib (c:p8 X (.type T) r)(d:Gl X x)(f:X.mg x=LX)(g:dX x=KE (.type T))(i:VA X (e::a) ga)(j:x≠"__name__":=by decide)(l:(x == ("__debug__":Str))=LZ:=by decide)
  (m:aP (e::a) X.env=(LZ,eval e X.env)::aP a X.env:=by rfl) (n:(dU b (aP a X.env)).any (·.1)=LZ:=by rfl):VE X (.Call (.Name x p) (e::a) [] b) (gCB r ga):=#v[PE.sub (Wx c d f g i.out j l m n) λ_ _ _ h=>Si h]
def dw {a b:Type}{F:a->b->Prop}{xs:List a}{d:b}(h:Paired F xs [d]):∃x,xs=[x]/\F x d:=by
 cases h with
 |cons h t=>cases t;show{_,rfl,h}
def uz {a b:Type}{F:a->b->Prop}{xs:List a}{d e:b}(h:Paired F xs [d,e]):∃x y,xs=[x,y]/\F x d/\F y e:=by
 cases h with
 |cons h t=>
  obtain⟨y,rfl,k⟩:=dw t;show{_,y,rfl,h,k}
def gc:GL
 | [.lst l],R=>R (.val (.v (.int l.length)))
 | [.scr l],R=>R (.val (.v (.int l.length)))
 | [.tup l],R=>R (.val (.v (.int l.length)))
 | [.v (.str z)],R=>z.length<=1000000/\R (.val (.v (.int z.length)))
 |_,_=>False
def de:p8 X (.builtin "len") gc:=by
 intro d s e H xs us Q I r h;obtain⟨W,cel,ds,R,rfl,ok,f,h,q⟩:=h;unfold gc at h
 split at h
 ·obtain⟨x,rfl,a,xs,rfl,b,c⟩:=dw f;show pf d s e W.H _ us Q I r {a,xs,rfl,.inl (SqL.of b),by rw[c.length];show q _ W _ h (After.refl ok) (Rp.v rfl)}
 ·obtain⟨x,rfl,t⟩:=dw f;obtain⟨a,xs,rfl,b,c⟩:=Rp.scrI t;show pf d s e W.H _ us Q I r {a,xs,rfl,.inl (y9 b ok.sub),by rw[c.length];show q _ W _ h (After.refl ok) (Rp.v rfl)}
 ·obtain⟨x,rfl,t⟩:=dw f;obtain⟨a,xs,rfl,b,c⟩:=t.tup ok.sub;show pf d s e W.H _ us Q I r {a,xs,rfl,.inr b,by rw[c.length];show q _ W _ h (After.refl ok) (Rp.v rfl)}
 ·obtain⟨x,rfl,t⟩:=dw f;cases t.v;show Lk d s e W.H _ us Q I r {_,rfl,big _ h.1,q _ W _ h.2 (After.refl ok) (Rp.v rfl)}
 ·show h.elim
def absG:GL
 | [.v (.int i)],R=>R (.val (.v (.int (if i < 0 then -i else i))))
 |_,_=>False
def aks:p8 X (.builtin "abs") absG:=by
 intro a s b H xs us Q I r h;obtain⟨W,cel,ds,R,rfl,ok,c,h,q⟩:=h;unfold absG at h
 split at h
 ·obtain⟨x,rfl,t⟩:=dw c;cases t.v;show Z8 a s b W.H _ us Q I r {_,rfl,q _ W _ h (After.refl ok) (Rp.v rfl)}
 ·show h.elim
def Uy:GL
 | [.v (.int i)],R=>R (.val (.v (.int i)))
 | [.v (.bl k)],R=>R (.val (.v (.int (if k then 1 else 0))))
 |_,_=>False
def Ye:p8 X (.type "int") Uy:=by
 intro a s b H xs us Q I r h;obtain⟨W,cel,ds,R,rfl,ok,c,h,q⟩:=h;unfold Uy at h
 split at h
 ·obtain⟨x,rfl,t⟩:=dw c;cases t.v;show Ig a s b W.H _ us Q I r (.inl {_,rfl,q _ W _ h (After.refl ok) (Rp.v rfl)})
 ·obtain⟨x,rfl,t⟩:=dw c;cases t.v;show Ig a s b W.H _ us Q I r (.inr {_,rfl,q _ W _ h (After.refl ok) (Rp.v rfl)})
 ·show h.elim
def two (g:Int->Int->Int):GL
 | [.v (.int i),.v (.int j)],R=>R (.val (.v (.int (g i j))))
 |_,_=>False
def Yf (a:X.calm=LY):p8 X (.builtin "max") (two λi j=>if j > i then j else i):=by
 intro b s c H xs us Q I r h;obtain⟨W,cel,ds,R,rfl,ok,d,h,q⟩:=h;unfold two at h
 split at h
 ·obtain⟨x,y,rfl,e,f⟩:=uz d;cases e.v;cases f.v;show Wp a b s c W.H _ us Q I r {_,_,rfl,q _ W _ h (After.refl ok) (Rp.v rfl)}
 ·show h.elim
def akt (a:X.calm=LY):p8 X (.builtin "min") (two λi j=>if j < i then j else i):=by
 intro b s c H xs us Q I r h;obtain⟨W,cel,ds,R,rfl,ok,d,h,q⟩:=h;unfold two at h
 split at h
 ·obtain⟨x,y,rfl,e,f⟩:=uz d;cases e.v;cases f.v;show Wq a b s c W.H _ us Q I r {_,_,rfl,q _ W _ h (After.refl ok) (Rp.v rfl)}
 ·show h.elim
theorem Rps.flat {b:B}{F:Hp}{a:Type}{g:a->V}:∀{xs:List V}{ns:List a},Rps b F xs (ns.map λn=>Tr.v (g n))->xs=ns.map g
 |_,[],.nil=>rfl
 |_,_::ns,.cons h t=>by rw[(Rp.vI h).1,Rps.flat t];rfl
def sumG:GL
 | [.lst l],R=>∃ns:List Int,l=ns.map (λn=>Tr.v (.int n))/\ns.length<=1000/\(∀n∈ns,-1000000<=n/\n<=1000000)/\R (.val (.v (.int ns.sum)))
 |_,_=>False
def aku (b:X.calm=LY):p8 X (.builtin "sum") sumG:=by
 intro c s d H xs us Q I r h;obtain⟨W,cel,ds,R,rfl,ok,e,h,q⟩:=h;unfold sumG at h
 split at h
 ·obtain⟨ns,rfl,f,g,h⟩:=h;obtain⟨x,rfl,a,xs,rfl,i,j⟩:=dw e;cases j.flat;show Xv b c s d W.H _ us Q I r {a,ns,rfl,SqL.of i,f,g,q _ W _ h (After.refl ok) (Rp.v rfl)}
 ·show h.elim
def blsG (g:List Bool->Bool):GL
 | [.lst l],R=>∃bs:List Bool,l=bs.map (λn=>Tr.v (.bl n))/\R (.val (.v (.bl (g bs))))
 |_,_=>False
def akv (b:X.calm=LY):p8 X (.builtin "all") (blsG λbs=>bs.all id):=by
 intro c s d H xs us Q I r h;obtain⟨W,cel,ds,R,rfl,ok,e,h,q⟩:=h;unfold blsG at h
 split at h
 ·obtain⟨bs,rfl,h⟩:=h;obtain⟨x,rfl,a,xs,rfl,f,g⟩:=dw e;cases g.flat;show Xh b c s d W.H _ us Q I r {a,bs,rfl,SqL.of f,q _ W _ h (After.refl ok) (Rp.v rfl)}
 ·show h.elim
def n8:GL
 | [.lst l],R=>R (.val (.tup l))
 | [.tup l],R=>R (.val (.tup l))
 |_,_=>False
def lr:p8 X (.type "tuple") n8:=by
 intro c s d H xs us Q I r h;obtain⟨W,cel,ds,R,rfl,ok,e,h,q⟩:=h;unfold n8 at h
 split at h
 ·obtain⟨x,rfl,a,xs,rfl,b,f⟩:=dw e;show Ak c s d W.H _ us Q I r {a,xs,rfl,.inl {SqL.of b,Ca ok q h f}}
 ·obtain⟨x,rfl,t⟩:=dw e;obtain⟨a,xs,rfl,b,f⟩:=t.tup ok.sub;show Ak c s d W.H _ us Q I r {a,xs,rfl,.inr {b,q _ W _ h (After.refl ok) t}}
 ·show h.elim
def Uz:GL
 | [.lst l],R=>R (.new (.lst l))
 | [.tup l],R=>R (.new (.lst l))
 |_,_=>False
def agx:p8 X (.type "list") Uz:=by
 intro d s e H xs us Q I r h;obtain⟨W,cel,ds,R,rfl,ok,f,h,q⟩:=h;unfold Uz at h
 split at h
 ·obtain⟨x,rfl,a,xs,rfl,b,c⟩:=dw f;show Aw d s e W.H _ us Q I r {a,xs,rfl,.inl (SqL.of b),ux ok q h c}
 ·obtain⟨x,rfl,t⟩:=dw f;obtain⟨a,xs,rfl,b,c⟩:=t.tup ok.sub;show Aw d s e W.H _ us Q I r {a,xs,rfl,.inr b,ux ok q h c}
 ·show h.elim
def tyT (n:String):Tr->Option Bool
 | .v .non=>KE LZ
 | .v (.bl _)=>KE (n == "bool" || n == "int")
 | .v (.int _)=>KE (n == "int")
 | .v (.str _)=>KE (n == "str")
 | .tup _=>KE (n == "tuple")
 | .lst _=>KE (n == "list")
 |_=>LX
structure Kit (K:aF)(n:String):Prop where
 non:eI K (.type "NoneType") (.type n)=KE LZ
 bl:eI K (.type "bool") (.type n)=KE (n == "bool" || n == "int")
 int:eI K (.type "int") (.type n)=KE (n == "int")
 str:eI K (.type "str") (.type n)=KE (n == "str")
 tup:eI K (.type "tuple") (.type n)=KE (n == "tuple")
 lst:eI K (.type "list") (.type n)=KE (n == "list")
def gIsi (n:String)(f:GE):GE:=λm Q=>f m λb a=>lk a b λd=>ku (tyT n d) λc=>Q (.val (.v (.bl c))) a
def Yg (b:Kit X.K n)(u:Gl X x)(w:X.mg x=LX)(A:dX x=KE (.builtin "isinstance"))(C:Gl X y)(D:X.mg y=LX)(E:dX y=KE (.type n))(G:VE X e f)
  (I:x≠"__name__":=by decide) (J:(x == ("__debug__":Str))=LZ:=by decide) (L:y≠"__name__":=by decide) (N:(y == ("__debug__":Str))=LZ:=by decide)
  (hs:aP [e,.Name y j] X.env=(LZ,eval e X.env)::aP [.Name y j] X.env:=by rfl) (O:(dU l (aP [.Name y j] X.env)).any (·.1)=LZ:=by rfl):VE X (.Call (.Name x p) [e,.Name y j] [] l) (gIsi n f):=⟨PE.sub (Dj aal u w A (o3 G.out (o3 (afd (v:=.ty n) C D E rfl L N) x5) hs) I J hs O) λσ H Q ⟨W,m,R,T,rel,h,q⟩=>⟨W,m,_,T,rel,h,λev U s x i l1 o Y=>by
  obtain⟨d,g,r⟩:_:=gx o.ok Y i;obtain⟨c,e,h3⟩:_:=ja r;have fin:=q _ U s (.bl c) h3 l1 o (Rp.v rfl);have z:∃t,TyQ X.K s.H x t/\eI X.K t (.type n)=KE c:=by
    unfold tyT at e
    split at e
    · cases g.v;show{_,.of .non,by rw[b.non];show e}
    · cases g.v;show{_,.of (.bl _),by rw[b.bl];show e}
    · cases g.v;show{_,.of (.int _),by rw[b.int];show e}
    · cases g.v;show{_,.of (.str _),by rw[b.str];show e}
    · obtain⟨a,xs,rfl,i,r⟩:_:=g.tup o.ok.sub;show{_,.sqt i,by rw[b.tup];show e}
    · obtain⟨a,xs,rfl,i,r⟩:_:=g;show{_,.sql (SqL.of i),by rw[b.lst];show e}
    · cases e
  obtain⟨t,t1,t2⟩:_:=z;show#v[x,t,n,c,rfl,t1,t2,fin]⟩⟩
abbrev tI (x:List Int):Tr:=.tup (x.map λn=>Tr.v (.int n))
def srtD (g:List (List Int)->List (List Int))(d:Tr)(R:Ev->Prop):Prop:=match d with
 | .lst l=>∃L:List (List Int),l=L.map tI/\L.length < 64/\(∀x∈L,x≠[])/\R (.new (.lst ((g L).map tI)))
 |_=>False
def Bf (g:List (List Int)->List (List Int))(f:GE):GE:=λm Q=>f m λa b=>lk b a λd=>srtD g d λa=>Q a b
theorem zh {b:B}{F H:Hp}(e:Same F H):∀{xs:List V}{L:List (List Int)},Rps b F xs (L.map tI)->TupsV b.K H xs L
 |_,[],.nil=>.nil
 |_,x::L,.cons h t=>by
  obtain⟨a,ys,rfl,c,d⟩:=Rp.tupI h;cases d.flat;show .cons {a,rfl,c.same e} (zh e t)
theorem Ma:∀ns:List Int,Rps b F (ns.map V.int) (ns.map λn=>Tr.v (.int n))
 | []=>.nil
 |_::ns=>.cons (.v rfl) (Ma ns)
theorem Mb:∀{xs L},TupsV b.K F xs L->Rps b F xs (L.map tI)
 |_,_,.nil=>.nil
 |_,_,.cons h t=>by
  obtain⟨a,rfl,c⟩:=h;show .cons (.tup c (Ma _)) (Mb t)
theorem Jf:∀{xs L},TupsV K H xs L->TupsV K (nj F H) xs L
 |_,_,.nil=>.nil
 |_,_,.cons ⟨a,e,h⟩ t=>.cons {a,e,abk h} (Jf t)
def Sj {b:B}{W:Wd}{cel:List (Option Tr)}{R:Ev->Prop}{Q:VK}{L:List (List Int)}(ok:Wok b W cel)(q:∀f c z,R f->After b W cel c->Rev b W c z f->Q z c.H)(h:R (.new (.lst (L.map tI)))) :
  ∀d a,W.H d=LX->TupsV b.K W.H a L->Q (.ref d) (upd W.H d (.lst a)):=λd a hd g=>by
 obtain⟨l1,e,s1⟩:=agt ok;obtain⟨l2,i,j⟩:=o7 (d:=.lst (L.map tI)) (o:=.lst a) (p:=d) e hd {a,bo,Mb (Jf g)};show q _ _ _ h {l1.trans l2,λ_=>rfl,i} (j.old l1.toLe)
def Gx {x y:Str}{e:MC}{f:GE}{p n b c:Pos}(s:X.calm=LY)(hu:X.A.units+64 < dP)(u:Gl X x)(w:X.mg x=LX)(C:dX x=KE (.builtin "sorted"))(D:Gl X y)(E:X.mg y=LX)(G:dX y=KE (.type "set"))(I:VE X e f)
  (J:x≠"__name__":=by decide) (N:(x == ("__debug__":Str))=LZ:=by decide) (O:y≠"__name__":=by decide) (T:(y == ("__debug__":Str))=LZ:=by decide)
  (hs:aP [.Call (.Name y n) [e] [] c] X.env=(LZ,eval (.Call (.Name y n) [e] [] c) X.env)::aP [] X.env:=by rfl) (U:(dU b (aP [] X.env)).any (·.1)=LZ:=by rfl)
  (Y:aP [e] X.env=(LZ,eval e X.env)::aP [] X.env:=by rfl) (ES:(dU c (aP [] X.env)).any (·.1)=LZ:=by rfl) :
  VE X (.Call (.Name x p) [.Call (.Name y n) [e] [] c] [] b) (Bf TupG.srtG f):=⟨PE.sub (agr s () u w C D E G I.out J N O T hs U Y ES) λσ H Q ⟨W,m,R,hW,rel,h,q⟩=>⟨W,m,_,hW,rel,h,λg r W1 x h1 l1 i r1=>by
  obtain⟨d,td,j⟩:=gx i.ok r1 h1;unfold srtD at j
  split at j
  · obtain⟨L,rfl,z1,z2,o⟩:=j;obtain⟨a,ys,rfl,k1,k2⟩:=td;show{a,ys,L,rfl,SqL.of k1,zh i.ok.sub k2,z1,z2,Sj (R:=λg=>R g r) i.ok (λg W' z o l rz=>q g r W' z o (l1.trans l.lx) (i.lift l.lx l.cs l.ok) (rz.old l1.toLe)) o}
  · show j.elim⟩⟩
def Sk {x:Str}{e:MC}{f:GE}{p b:Pos}(o:Gl X x)(r:X.mg x=LX)(s:dX x=KE (.builtin "sorted"))(u:VE X e f)
  (w:x≠"__name__":=by decide) (y:(x == ("__debug__":Str))=LZ:=by decide)
  (hs:aP [e] X.env=(LZ,eval e X.env)::aP [] X.env:=by rfl) (A:(dU b (aP [] X.env)).any (·.1)=LZ:=by rfl):VE X (.Call (.Name x p) [e] [] b) (Bf TupSet.isort f):=⟨PE.sub (abh o r s u.out w y hs A) λY H Q ⟨W,m,R,C,rel,h,q⟩=>⟨W,m,_,C,rel,h,λc n W1 x D l1 g E=>by
  obtain⟨d,G,i⟩:=gx g.ok E D;unfold srtD at i
  split at i
  · obtain⟨L,rfl,I,J,l⟩:=i;obtain⟨a,ys,rfl,N,O⟩:=G;show{a,ys,L,rfl,SqL.of N,zh g.ok.sub O,I,J,Sj (R:=λc=>R c n) g.ok (λc T z l j U=>q c n T z l (l1.trans j.lx) (g.lift j.lx j.cs j.ok) (U.old l1.toLe)) l}
  · show i.elim⟩⟩
abbrev GM:=Tr->List Tr->(Ev->Prop)->Prop
def rGM (b:B)(r:GM):V->List V->Hp->VK->Prop:=λx xs H Q=>∃W cel d ds R,W.H=H/\Wok b W cel/\Top b W x d/\Paired (Top b W) xs ds/\r d ds R/\∀c a z,R c->After b W cel a->Rev b W a z c->Q z a.H
def MtG (X:Cx)(id:String)(r:GM):Prop:=MtR X id (rGM X.B r)
def kin (T:String):Tr->Prop
 | .lst _=>T="list"
 | .v (.str _)=>T="str"
 | .v (.int _)=>T="int"
 |_=>False
def Bg (t:Top b W x d)(h:kin T d):tyV b.K T x W.H:=by
 unfold kin at h
 split at h
 ·obtain⟨a,xs,rfl,c,_⟩:=t;show .inl {h,xs,SqL.of c}
 ·cases t.v;show h
 ·cases t.v;show h
 ·show h.elim
def gMt (T:String)(r:GM)(c:GE)(ga:GA):GE:=λm Q=>c m λa b=>lk b a λd1=>kin T d1/\ga b λe m2=>lk m2 a λd=>lks m2 e λds=>r d ds λf=>Q f m2
def U0 {T:String}{name:Str}{id:String}{r:GM}{o e:MC}{a:List MC}{i:GE}{ga:GA}{j b:Pos}(p:oC T)(slot:Slot T name id)(s:sT (.builtin id)=pure (.type "method_descriptor"))(u:MtG X id r)(w:VE X o i)(y:VA X (e::a) ga)
  (A:hX o name X.env (eval o X.env)=eval o X.env:=by rfl)
  (C:((dU b (aP (e::a) X.env)).all (λx=>!x.1) && (nL b (kN [] X.env)).all (λx=>x.1.isSome) && decide ((e::a).length+([]:List nR).length+(if ([]:List nR).isEmpty then 0 else 1) < 30))=LY:=by rfl)
  (D:(j.endLine == b.line)=LY:=by rfl) (hs:aP (e::a) X.env=(LZ,eval e X.env)::aP a X.env:=by rfl) (E:(dU b (aP a X.env)).any (·.1)=LZ:=by rfl) :
  VE X (.Call (.Attribute o name j) (e::a) [] b) (gMt T r i ga):=⟨PE.sub (Ue p slot s u w.out y.out A C D hs E) λσ H Q ⟨W,m,R,G,rel,h,q⟩=>⟨W,m,_,G,rel,h,λeo I J x g l1 l n=>by
  obtain⟨d1,L,N,g⟩:=gx l.ok n g;show{Bg L N,J,I,_,rfl,l,g,λvO m2 W2 xs O l2 c U=>?_};obtain⟨d,Y,h3⟩:=gx c.ok (n.mono l2) O;obtain⟨ds,ts,h4⟩:=Ce c.ok U h3;show{W2,m2.cel,d,ds,_,rfl,c.ok,Y,ts,h4,λev W' z h5 f rz=>q ev m2 W' z h5 (l1.trans (l2.trans f.lx)) (c.lift f.lx f.cs f.ok) (rz.old (l1.trans l2).toLe)}⟩⟩
def akw {T:String}{name:Str}{id:String}{r:GM}{o:MC}{e:GE}{f g:Pos}(l:oC T)(slot:Slot T name id)(n:sT (.builtin id)=pure (.type "method_descriptor"))(p:MtG X id r)(s:VE X o e)
  (u:hX o name X.env (eval o X.env)=eval o X.env:=by rfl) (w:(f.endLine == g.line)=LY:=by rfl):VE X (.Call (.Attribute o name f) [] [] g) (gMt T r e gaN):=⟨PE.sub (Es l slot n p s.out u w) λN H Q ⟨W,m,R,y,rel,h,q⟩=>⟨W,m,_,y,rel,h,λO i A x c l1 a j=>by
  obtain⟨d1,C,D,c⟩:=gx a.ok j c;show{Bg C D,?_};obtain⟨d,E,G⟩:=gx a.ok j c;show{A,i.cel,d,[],_,rfl,a.ok,E,.nil,G,λI J z h5 b L=>q I i J z h5 (l1.trans b.lx) (a.lift b.lx b.cs b.ok) (L.old l1.toLe)}⟩⟩
def U1:GM
 | .v (.int i),[],R=>R (.val (.v (.int (jW i:Nat))))
 |_,_,_=>False
def agy:MtG X "int.bit_length" U1:=by
 intro a s b H x xs v us Q I c e h;obtain⟨W,cel,d,ds,R,rfl,ok,t,f,h,q⟩:=h;unfold U1 at h
 split at h
 ·cases t.v;cases f;show agc a s b W.H _ [] v us Q I c e {_,rfl,rfl,q _ W _ h (After.refl ok) (Rp.v rfl)}
 ·show h.elim
def Bh:GM
 | .lst l,[.tup t],R=>∃(L:List (List Int))(x:List Int),l=L.map tI/\t=x.map (λn=>Tr.v (.int n))/\x∈L/\R (.val (.v (.int (L.idxOf x:Nat))))
 | .lst l,[.v (.str t)],R=>∃ss:List Str,l=ss.map (λn=>Tr.v (.str n))/\t∈ss/\R (.val (.v (.int (ss.idxOf t:Nat))))
 |_,_,_=>False
def D2 (p:X.A.units+64 < dP):MtG X "list.index" Bh:=by
 intro g s i H x xs v us Q I j l h;obtain⟨W,cel,d,ds,R,rfl,ok,t,m,h,q⟩:=h;unfold Bh at h
 split at h
 ·obtain⟨a,ys,rfl,c,e⟩:=t;obtain⟨y,rfl,ty⟩:=dw m;obtain⟨L,w,rfl,rfl,f,h⟩:=h;obtain⟨b,r,rfl,n,o⟩:=ty.tup ok.sub;cases o.flat;show aap () g s i W.H _ _ v us Q I j l {a,b,ys,L,w,rfl,rfl,SqL.of c,zh ok.sub e,n,f,q _ W _ h (After.refl ok) (Rp.v rfl)}
 ·obtain⟨a,ys,rfl,c,e⟩:=t;obtain⟨y,rfl,ty⟩:=dw m;obtain⟨ss,rfl,f,h⟩:=h;cases ty.v;cases e.flat;show Xt g s i W.H _ _ v us Q I j l {a,ss,_,rfl,rfl,SqL.of c,f,q _ W _ h (After.refl ok) (Rp.v rfl)}
 ·show h.elim
def j7 (ok:Wok b W cel)(f:W.C j=KE a)(g:cel[j]?=KE (KE d))(h':CellOk b W.F (upd W.H a o) a d') :
  Lx W {W.F,upd W.H a o,W.C}/\Wok b {W.F,upd W.H a o,W.C} (cel.set j (KE d')):=by
 obtain⟨s,h,i,w⟩:=ok.cell j d g;rw[f]at h;cases h;have l:j < cel.length:=(bJ.mp g).1;have ne:∀{x u},W.F x=KE u->x≠a:=λe z=>(by subst z;rw[i]at e;cases e);show{{{λ_ _ z=>z,λx u e n=>?_,λ_ z n=>MI z n,λ_ _ z=>.inl z,λx z=>?_},λ_ _ z=>z},{λx u z=>?_,λk e hk=>?_,λk x z=>?_,ok.dist}}
 ·change upd W.H a o x=KE u;rw[ay (λz=>n j (by rw[f,z]))];show e
 ·by_cases c:x=a
  ·subst c;rw[show({W.F,upd W.H x o,W.C}:Wd).H x=upd W.H x o x from rfl,bo]at z;cases z
  ·rw[show({W.F,upd W.H a o,W.C}:Wd).H x=upd W.H a o x from rfl,ay c]at z;show z
 ·change upd W.H a o x=KE u;rw[ay (ne z)];show ok.sub x u z
 ·by_cases c:k=j
  ·subst c;rw[cM l]at hk;cases hk;show#v[a,f,i,h']
  ·rw[bM (λz=>c z.symm)]at hk;obtain⟨x,m,p,q⟩:=ok.cell k e hk;show{x,m,p,q.mono (λ_ _ z=>z) λu z=>?_};change upd W.H a o x=KE u;rw[ay (λz=>c (ok.dist k j x m (by rw[z];show f)))];show z
 ·obtain⟨e,r⟩:=ok.live k x z;by_cases c:k=j
  ·subst c;show{d',cM l}
  ·show{e,by rw[bM (λz=>c z.symm)];show r}
abbrev GMc:=Tr->List Tr->(Ev->Tr->Prop)->Prop
def rMC (b:B)(r:GMc):V->List V->Hp->VK->Prop:=λx xs H Q=>∃W cel j a d ds R,W.H=H/\Wok b W cel/\x=.ref a/\W.C j=KE a/\cel[j]?=KE (KE d)/\Paired (Top b W) xs ds/\r d ds R/\
 ∀e d' c z,R e d'->Lx W c->(∀j,c.C j=W.C j)->Wok b c (cel.set j (KE d'))->Rev b W c z e->Q z c.H
def MtC (X:Cx)(id:String)(r:GMc):Prop:=MtR X id (rMC X.B r)
def gMc (T:String)(i:Nat)(r:GMc)(ga:GA):GE:=λm Q=>match m.loc[i]? with
 |some (KE (.c j))=>lk m (.cel j) λd1=>kin T d1/\ga m λa m2=>lk m2 (.cel j) λd=>lks m2 a λds=>r d ds λb d'=>Q b {m2.loc,m2.cel.set j (KE d')}
 |_=>False
def Yh (h:gMc T i r ga m Q):∃j,m.loc[i]?=KE (KE (.c j))/\lk m (.cel j) λd1=>kin T d1/\ga m λa m2=>lk m2 (.cel j) λd=>lks m2 a λds=>r d ds λb d'=>Q b {m2.loc,m2.cel.set j (KE d')}:=by
 unfold gMc at h
 split at h
 ·show{_,by assumption,h}
 ·show h.elim
def Rel.setc (rel:Rel b W m g)(l:Lx W d)(e:∀j,d.C j=W.C j)(ok:Wok b d (m.cel.set j (KE d'))):Rel b d {m.loc,m.cel.set j (KE d')} g:=⟨ok,λi w hw=>by
  obtain⟨y,h,f⟩:=rel.loc i w hw;show{y,h,?_};cases w with
  |v d'=>show Rp.mono l.same f
  |c j=>obtain⟨a,n,o⟩:=f;show{a,n,by rw[e];show o},rel.len⟩
def aep {T:String}{name:Str}{id:String}{r:GMc}{i:Nat}{x:Str}{e:MC}{b:List MC}{ga:GA}{p l c:Pos}(s:oC T)(slot:Slot T name id)(u:sT (.builtin id)=pure (.type "method_descriptor"))(w:MtC X id r)(A:X.N[i]?=KE x)(C:Vis X.env.scope x)(D:VA X (e::b) ga)
  (E:hX (.Name x p) name X.env (eval (.Name x p) X.env)=eval (.Name x p) X.env:=by rfl)
  (G:((dU c (aP (e::b) X.env)).all (λx=>!x.1) && (nL c (kN [] X.env)).all (λx=>x.1.isSome) && decide ((e::b).length+([]:List nR).length+(if ([]:List nR).isEmpty then 0 else 1) < 30))=LY:=by rfl)
  (I:(l.endLine == c.line)=LY:=by rfl) (hs:aP (e::b) X.env=(LZ,eval e X.env)::aP b X.env:=by rfl) (J:(dU c (aP b X.env)).any (·.1)=LZ:=by rfl)
  (hd:(x == ("__debug__":Str))=LZ:=by decide) (L:(x == ("__classdict__":Str))=LZ:=by decide) :
  VE X (.Call (.Attribute (.Name x p) name l) (e::b) [] c) (gMc T i r ga):=⟨PE.sub (Ue s slot u w (kf A C hd L) D.out E G I hs J) λσ H Q ⟨W,m,R,O,rel,h,q⟩=>by
  subst O;obtain⟨j,U,h⟩:=Yh h;obtain⟨y,Y,a,rfl,n⟩:=rel.loc i _ U;have rv:Rev X.B W W (.ref a) (.cel j):={a,rfl,λf e=>by rw[n]at e;cases e;rfl};obtain⟨d1,t1,k1,h1⟩:=gx rel.ok rv h;show{_,Y,Bg t1 k1,W,m,_,rfl,rel,h1,λvO m2 W2 xs h2 l2 g r2=>?_};obtain⟨d,hd,h3⟩:=vk h2;obtain⟨ds,ts,h4⟩:=Ce g.ok r2 h3;obtain⟨f,o,_⟩:=g.ok.cell j d hd;have ea:f=a:=(by have:=l2.cx j f o;rw[n]at this;cases this;rfl);subst ea;show{W2,m2.cel,j,f,d,ds,_,rfl,g.ok,rfl,o,hd,ts,h4,λev d' W' z h5 l3 cs yL rz=>q ev _ W' z h5 (l2.trans l3) (g.setc l3 cs yL) (rz.old l2.toLe)}⟩
def Mc {T:String}{name:Str}{id:String}{r:GMc}{i:Nat}{x:Str}{p b c:Pos}(g:oC T)(slot:Slot T name id)(l:sT (.builtin id)=pure (.type "method_descriptor"))(n:MtC X id r)(o:X.N[i]?=KE x)(s:Vis X.env.scope x)
  (u:hX (.Name x p) name X.env (eval (.Name x p) X.env)=eval (.Name x p) X.env:=by rfl) (w:(b.endLine == c.line)=LY:=by rfl)
  (hd:(x == ("__debug__":Str))=LZ:=by decide) (A:(x == ("__classdict__":Str))=LZ:=by decide) :
  VE X (.Call (.Attribute (.Name x p) name b) [] [] c) (gMc T i r gaN):=⟨PE.sub (Es g slot l n (kf o s hd A) u w) λσ H Q ⟨W,m,R,C,rel,h,q⟩=>by
  subst C;obtain⟨j,D,h⟩:=Yh h;obtain⟨y,E,a,rfl,f⟩:=rel.loc i _ D;have G:Rev X.B W W (.ref a) (.cel j):={a,rfl,λa' e=>by rw[f]at e;cases e;rfl};obtain⟨d1,I,J,L⟩:=gx rel.ok G h;obtain⟨d,hd,O⟩:=vk L;show{_,E,Bg I J,W,m.cel,j,a,d,[],_,rfl,rel.ok,rfl,f,hd,.nil,O,λU d' Y z h5 l3 cs yL rz=>q U _ Y z h5 l3 (rel.setc l3 cs yL) rz}⟩
theorem Wok.lst {b:B}{W:Wd}{cel:List (Option Tr)}{j:Nat}{a:MA}{l:List Tr}(ok:Wok b W cel)(d:W.C j=KE a)(e:cel[j]?=KE (KE (.lst l))):∃xs,W.H a=KE (.lst xs)/\Rps b W.F xs l:=by
 obtain⟨g,c,h,xs,f⟩:=ok.cell j _ e;rw[d]at c;cases c;show#v[xs,f]
def xk (i:Nat)(f:GE):GE:=λm Q=>match m.loc[i]? with
 |some (KE (.c j))=>lk m (.cel j) λd1=>kin "list" d1/\f m λa b=>fz b a λd m2=>lk m2 (.cel j) λe=>match e with
  | .lst l=>l.length < 1000000/\Q (.val (.v .non)) {m2.loc,m2.cel.set j (KE (.lst (l++[d])))}
  |_=>False
 |_=>False
def vo (G:X.N[i]?=KE x)(I:Vis X.env.scope x)(J:VE X e f)
  (L:hX (.Name x p) "append" X.env (eval (.Name x p) X.env)=eval (.Name x p) X.env:=by rfl)
  (O:((dU r (aP [e] X.env)).all (λx=>!x.1) && (nL r (kN [] X.env)).all (λx=>x.1.isSome) && decide ([e].length+([]:List nR).length+(if ([]:List nR).isEmpty then 0 else 1) < 30))=LY:=by rfl)
  (T:(U.endLine == r.line)=LY:=by rfl) (hs:aP [e] X.env=(LZ,eval e X.env)::aP [] X.env:=by rfl)
  (hd:(x == ("__debug__":Str))=LZ:=by decide) (Y:(x == ("__classdict__":Str))=LZ:=by decide) :
  VE X (.Call (.Attribute (.Name x p) "append" U) [e] [] r) (xk i f):=⟨PE.sub (Ue dM PySem.F.slot_list_append PySem.F.type_list_append Ax (kf G I hd Y) (o3 J.out x5 hs) L O T hs) λσ H Q ⟨W,m,R,hW,rel,h,q⟩=>by
  subst hW;have h':∃j,m.loc[i]?=KE (KE (.c j))/\lk m (.cel j) λd1=>kin "list" d1/\f m λw A=>fz A w λd m2=>lk m2 (.cel j) λe=>match e with
    | .lst l=>l.length < 1000000/\R (.val (.v .non)) {m2.loc,m2.cel.set j (KE (.lst (l++[d])))}
    |_=>False:=by
    unfold xk at h
    split at h
    · show{_,by assumption,h}
    · show h.elim
  obtain⟨j,hj,h⟩:=h';obtain⟨y,q1,a,rfl,C⟩:=rel.loc i _ hj;have rv:Rev X.B W W (.ref a) (.cel j):={a,rfl,λg e=>by rw[C]at e;cases e;rfl};obtain⟨d1,t1,k1,h1⟩:=gx rel.ok rv h;show{_,q1,Bg t1 k1,W,m,_,rfl,rel,h1,λw A W1 z h2 l1 uT r1=>?_};obtain⟨d,m2,W2,h3,l2,D,n,r2⟩:=mv l1 uT r1 h2;obtain⟨d0,s,b⟩:=vk h3
  split at b
  · obtain⟨hz,b⟩:=b;obtain⟨g,u,_⟩:=n.ok.cell j _ s;have ea:g=a:=(by have:=l2.cx j g u;rw[C]at this;cases this;rfl);subst ea;obtain⟨xs,g1,E⟩:=n.ok.lst u s;show{g,xs,z,rfl,rfl,by rw[<-D];show g1,by rw[E.length];show bO hz (by decide),?_};obtain⟨l3,yL⟩:=j7 (d':=.lst _) (o:=.lst (xs++[z])) n.ok u s {_,bo,E.append (.cons r2 .nil)};rw[<-D];show q _ _ _ .non b (l2.trans l3) (n.setc l3 (λ_=>rfl) yL) (Rp.v rfl)
  · show b.elim⟩
def Cf:GMc
 | .lst l,[.lst m],R=>l.length+m.length<=1000000/\R (.val (.v .non)) (.lst (l++m))
 | .lst l,[.tup m],R=>l.length+m.length<=1000000/\R (.val (.v .non)) (.lst (l++m))
 |_,_,_=>False
def Jg:MtC X "list.extend" Cf:=by
 intro m s n H x xs v us Q I p r h;obtain⟨W,cel,j,a,d,ds,R,rfl,ok,rfl,g,hd,u,h,q⟩:=h;unfold Cf at h
 split at h
 ·obtain⟨ys,g1,c⟩:=ok.lst g hd;obtain⟨y,rfl,b,e,rfl,i,f⟩:=dw u;obtain⟨l3,l⟩:=j7 (d':=.lst _) (o:=.lst (ys++e)) ok g hd {_,bo,c.append f};show Xb m s n W.H _ _ v us Q I p r {a,b,ys,e,rfl,rfl,g1,i,by rw[c.length,f.length];show big _ h.1,q _ _ _ .non h.2 l3 (λ_=>rfl) l (Rp.v rfl)}
 ·obtain⟨ys,g1,c⟩:=ok.lst g hd;obtain⟨y,rfl,t⟩:=dw u;obtain⟨b,e,rfl,i,f⟩:=t.tup ok.sub;obtain⟨l3,l⟩:=j7 (d':=.lst _) (o:=.lst (ys++e)) ok g hd {_,bo,c.append f};show aga m s n W.H _ _ v us Q I p r {a,b,ys,e,rfl,rfl,g1,i,by rw[c.length,f.length];show big _ h.1,q _ _ _ .non h.2 l3 (λ_=>rfl) l (Rp.v rfl)}
 ·show h.elim
def Bi:GMc
 | .lst l,[],R=>ku l.getLast? λd=>R (.val d) (.lst l.dropLast)
 | .lst l,[.v (.int i)],R=>ku (ixN l.length i) λk=>ku l[k]? λd=>R (.val d) (.lst (l.eraseIdx k))
 |_,_,_=>False
theorem Rps.dropLast (r:Rps b F xs l):Rps b F xs.dropLast l.dropLast:=by
 rw[List.dropLast_eq_take,List.dropLast_eq_take,r.length];show r.take _
theorem Rps.erase:∀{xs l} k,Rps b F xs l->Rps b F (xs.eraseIdx k) (l.eraseIdx k)
 |_,_,_,.nil=>.nil
 |_,_,0,.cons _ r=>r
 |_,_,k+1,.cons h r=>.cons h (Rps.erase k r)
def Me:MtC X "list.pop" Bi:=by
 intro m s n H x xs v us Q I p r h;obtain⟨W,cel,j,a,d,ds,R,rfl,ok,rfl,c,hd,u,h,q⟩:=h;unfold Bi at h
 split at h
 ·obtain⟨ys,g1,b⟩:=ok.lst c hd;cases u;obtain⟨e,f,h⟩:=ja h;rw[List.getLast?_eq_getElem?]at f;obtain⟨y,g,i⟩:=b.get f;obtain⟨l3,l⟩:=j7 (d':=.lst _) (o:=.lst ys.dropLast) ok c hd {_,bo,b.dropLast};show ajw m s n W.H _ _ v us Q I p r {a,ys,y,rfl,rfl,g1,by rw[b.length];show g,q _ _ _ y h l3 (λ_=>rfl) l (Rp.mono l3.same i)}
 ·obtain⟨ys,g1,b⟩:=ok.lst c hd;obtain⟨y,rfl,t⟩:=dw u;cases t.v;obtain⟨k,hk,h⟩:=ja h;obtain⟨e,f,h⟩:=ja h;obtain⟨y,g,i⟩:=b.get f;obtain⟨w,C,z,A⟩:=Gj hk;have hz:ys.length<=sizeLine:=(I.lst g1).choose_spec.choose_spec.2.2;have D:=nv;rw[<-b.length]at w z A;obtain⟨l3,l⟩:=j7 (d':=.lst _) (o:=.lst (ys.eraseIdx k)) ok c hd {_,bo,b.erase k};show aag m s n W.H _ _ v us Q I p r {a,ys,_,k,y,rfl,rfl,g1,(),(),w,g,q _ _ _ y h l3 (λ_=>rfl) l (Rp.mono l3.same i)}
 ·show h.elim
def dz:GS:=λE m=>E.nx m
def aq (s t:GS):GS:=λE m=>s { E with nx:=t E } m
def cg:VSs X [] dz:=#v[λO=>PSs.sub xy λD a H ⟨W,m,E,b,l,rel,h,n,_⟩=>by subst b;show n m W a h l Same.id rel]
def Mf (h:lfS b O (aq s t) D e H):lfS b O s { D with nx:=lfS b O t D } e H:=by
 obtain⟨W,m,E,f,l,rel,h,n,r,bk,ct⟩:=h;show⟨W,m,{ E with nx:=t E },f,l,rel,h,λg i j h' o s' p=>{i,g,E,rfl,o,p,h',λm2 W2 a c l2 d=>n m2 W2 a c l2 (Same.tr s' d),r,λm2 W2 a c l2 d=>bk m2 W2 a c l2 (Same.tr s' d),λm2 W2 a c l2 d=>ct m2 W2 a c l2 (Same.tr s' d)},r,bk,ct⟩
def ah {rest:List MD}(a:VS X st s)(b:VSs X rest t):VSs X (st::rest) (aq s t):=#v[λO=>PSs.sub (gg (a.out O) (b.out O)) λ_ _ _ h=>Mf h]
def ai (a:VS X st s):VSs X [st] s:=#v[λO=>mi (a.out O)]
def fv (f:GE):GS:=λE m=>f m λ_ a=>E.nx a
def d8 (b:VE X e f)(hs:kA e LX a.line X.env=pure LZ:=by rfl):VS X (.Expr e a) (fv f):=⟨λO=>PS.sub (Gf b.out hs) λD c H ⟨W,m,E,d,l,rel,h,n,_⟩=>
  {W,m,_,d,rel,h,λp g i x j l1 o _=>n g i c j (l.trans l1.toLe) l1.same o}⟩
def bh (f:GE):GS:=λE m=>f m λa b=>E.rt a b
def aw (a:VE X e f):VS X (.Return (KE e) b) (bh f):=⟨λO=>PS.sub (vd a.out) λD c H ⟨W,m,E,d,l,rel,h,_,r,_⟩=>
  {W,m,_,d,rel,h,λg i j x n l1 o p=>r g i j c x n (l.trans l1.toLe) o (p.old l)}⟩
def sIf (c:GT)(s t:GS):GS:=λE m=>c m λk a=>if k=LY then s E a else t E a
def cq (q:VT X c f)(u:VSs X a s)(w:VSs X b t):VS X (.If c a b x) (sIf f s t):=⟨λO=>PS.sub (En q.out (u.out O) (w.out O)) λD z H ⟨W,m,E,y,l,rel,h,n,r,bk,ct⟩=>
  ⟨W,m,_,y,rel,h,λk i j o l1 p=>by
    cases k with
    |true=>show{j,i,E,rfl,l.trans l1.toLe,p,o,λm2 W2 d e l2 g=>n m2 W2 d e l2 (Same.tr l1.same g),r,λm2 W2 d e l2 g=>bk m2 W2 d e l2 (Same.tr l1.same g),λm2 W2 d e l2 g=>ct m2 W2 d e l2 (Same.tr l1.same g)}
    |false=>show{j,i,E,rfl,l.trans l1.toLe,p,o,λm2 W2 d e l2 g=>n m2 W2 d e l2 (Same.tr l1.same g),r,λm2 W2 d e l2 g=>bk m2 W2 d e l2 (Same.tr l1.same g),λm2 W2 d e l2 g=>ct m2 W2 d e l2 (Same.tr l1.same g)}⟩⟩
def qu:VS X st (λ_ _=>False):=#v[λO=>λ_ _ _ _ _ _ ⟨_,_,_,_,_,_,h,_⟩=>h.elim]
theorem Rel.set (rel:Rel b W m e)(hw:Rwt b W x w):Rel b W {m.loc.set i (KE w),m.cel} (e.set i (KE x)):=⟨rel.ok,λk u hk=>by
  by_cases c:k=i
  · subst c;have a:(m.loc.set k (KE w))[k]?=KE (KE u):=hk;by_cases d:k < m.loc.length
    · rw[cM d]at a;cases a;show{x,cM (by rw[<-rel.len];show d),hw}
    · rw[bU (by rw[dY];lia)]at a;cases a
  · have a:(m.loc.set i (KE w))[k]?=KE (KE u):=hk;rw[bM (λz=>c z.symm)]at a;obtain⟨y,f,g⟩:=rel.loc k u a;show{y,by rw[bM (λz=>c z.symm)];show f,g},by change(m.loc.set i (KE w)).length=_;rw[dY,dY];show rel.len⟩
def bp (i:Nat)(f:GE):GS:=λE m=>f m λa b=>fz b a λd m2=>E.nx {m2.loc.set i (KE (.v d)),m2.cel}
def Mg (j:Nat):Option Wt->Option Wt
 |some (.c k)=>if k=j then LX else KE (.c k)
 |w=>w
def setC (i j:Nat)(m:M):Ev->(M->Prop)->Prop
 | .val d,Q=>Q {m.loc.set i (KE (.v d)),m.cel}
 | .cel k,Q=>match m.cel[k]? with
  |some (KE _)=>Q {m.loc.set i (KE (.c k)),m.cel}
  |_=>False
 | .new d,Q=>match m.cel[j+1]? with
  |some _=>Q {(m.loc.map (Mg (j+1))).set i (KE (.c (j+1))),m.cel.set (j+1) (KE d)}
  |none=>False
def agz (l:Le O W)(rel:Rel b W m σ)(r:Rev b O W x L)(h:setC i j m L Q):∃N p,Q N/\Le O p/\p.F=W.F/\p.H=W.H/\Rel b p N (σ.set i (KE x)):=by
 cases L with
 |val d=>show{_,W,h,l,rfl,rfl,rel.set r}
 |cel k=>
  change (match m.cel[k]? with | some (KE _)=>Q {m.loc.set i (KE (.c k)),m.cel} | _=>False)at h
  rcases e:m.cel[k]? with _ | _ | d
  ·rw[e]at h;show h.elim
  ·rw[e]at h;show h.elim
  ·rw[e]at h;obtain⟨a,rfl,r⟩:=r;obtain⟨D,T,_⟩:=rel.ok.cell k d e;cases r D T;show{_,W,h,l,rfl,rfl,rel.set {_,rfl,T}}
 |new d=>
  change (match m.cel[j+1]? with | some _=>Q {(m.loc.map (Mg (j+1))).set i (KE (.c (j+1))),m.cel.set (j+1) (KE d)} | none=>False)at h
  have U:j+1≠0:=();generalize j+1=j at h U;rcases e:m.cel[j]? with _ | d0
  ·rw[e]at h;show h.elim
  ·rw[e]at h;obtain⟨a,rfl,h0,h1,Y,h3⟩:=r;have jl:j < m.cel.length:=(bJ.mp e).1;have n:∀k c,(if k=j then KE a else W.C k)=KE c->(k=j/\a=c)\/(k≠j/\W.C k=KE c):=λk c z=>by
    by_cases q:k=j
    ·rw[ME q]at z;cases z;show .inl #v[q,rfl]
    ·rw[MF q]at z;show .inr #v[q,z]
   show⟨_,{W.F,W.H,λk=>if k=j then KE a else W.C k},h,{l.same,l.fr,l.nw,λk c z=>?_,l.dm},rfl,rfl,Rel.set (m:={m.loc.map (Mg j),m.cel.set j (KE d)}) {{rel.ok.sub,λk d' hk=>?_,λk c z=>?_,λk s c z g=>?_},λk w hk=>?_,by change(m.loc.map _).length=_;rw[aB];show rel.len} {a,rfl,ME rfl}⟩
   ·rcases n k c z with⟨rfl,rfl⟩ | ⟨_,z⟩
    ·show .inr #v[h0,U]
    ·show l.cl k c z
   ·by_cases q:k=j
    ·subst q;have f:(m.cel.set k (KE d))[k]?=KE (KE d'):=hk;rw[cM jl]at f;cases f;show{a,ME rfl,h1,h3}
    ·have f:(m.cel.set j (KE d))[k]?=KE (KE d'):=hk;rw[bM (λz=>q z.symm)]at f;obtain⟨D,E,u,G⟩:=rel.ok.cell k d' f;show{D,by change(if k=j then KE a else W.C k)=_;rw[MF q];show E,u,G}
   ·rcases n k c z with⟨rfl,_⟩ | ⟨q,z⟩
    ·show{d,cM jl}
    ·obtain⟨d',I⟩:=rel.ok.live k c z;show{d',by change(m.cel.set j (KE d))[k]?=_;rw[bM (λz=>q z.symm)];show I}
   ·rcases n k c z with⟨rfl,rfl⟩ | ⟨q,z1⟩
    ·rcases n s _ g with⟨rfl,_⟩ | ⟨I,g⟩
     ·rfl
     ·show MI g (Y s)
    ·skip
     rcases n s _ g with⟨rfl,rfl⟩ | ⟨I,g⟩
     ·show MI z1 (Y k)
     ·show rel.ok.dist k s c z1 g
   ·have f:(m.loc.map (Mg j))[k]?=KE (KE w):=hk;rw[aL]at f;rcases q:m.loc[k]? with _ | _ | w0
    ·rw[q]at f;cases f
    ·rw[q]at f;cases f
    ·rw[q]at f;obtain⟨y,E,u⟩:=rel.loc k w0 q;show{y,E,?_};cases w0 with
     |v d'=>cases f;show u
     |c o=>
      have A:(if o=j then LX else KE (Wt.c o))=KE w:=by simpa[Mg]using f
      by_cases J:o=j
      ·rw[ME J]at A;cases A
      ·rw[MF J]at A;cases A;obtain⟨c,rfl,G⟩:=u;show{c,rfl,by change(if o=j then KE a else W.C o)=_;rw[MF J];show G}
def jm (i j:Nat)(f:GE):GS:=λE m=>f m λa b=>setC i j b a E.nx
def b7 {a:Type}{l:List a}{i:Nat}{x:a}(h:l[i]?=KE x):i < l.length:=(bJ.mp h).1
def Mh (h:lfS b O (bp i f) D a H):lf b f a H λx c=>D.nx (a.set i (KE x)) c:=by
 obtain⟨W,m,E,e,l,rel,h,n,_⟩:=h;show{W,m,_,e,rel,h,λu w y x g l1 j o=>?_};obtain⟨d,m2,W2,p,l2,q,r,s⟩:=mv l1 j o g;rw[<-q];show n _ W2 _ p (l.trans l2.toLe) l2.same (r.set s)
def Yi (h:lfS b O (jm i j f) D a H):lf b f a H λx c=>D.nx (a.set i (KE x)) c:=by
 obtain⟨W,m,E,d,l,rel,h,n,_⟩:_:=h;show{W,m,_,d,rel,h,λu w y x e l1 g o=>?_};obtain⟨m2,W2,p,l2,q,r,s⟩:_:=agz (l.trans l1.toLe) g (o.old l) e;rw[<-r];show n _ W2 _ p l2 (by rw[q];show l1.same) s
def ba (b:X.N.Nodup)(hi:X.N[i]?=KE x)(c:Loc X.env.scope x)(d:VE X e f)(hs:kA e (KE (.Name x g)) a.line X.env=pure LZ:=by rfl)(j:X.fn x=LY\/X.env.scope.names.lookup x=KE .local:=by first | show .inl rfl | show .inr rfl | assumption) :
  VS X (.Assign [.Name x g] e a) (bp i f):=#v[λO=>PS.sub (Eo b hi c d.out hs j) λD l H h=>Mh h]
def ij (b:X.N.Nodup)(hi:X.N[i]?=KE x)(c:Loc X.env.scope x)(d:VE X e f)(hs:kA e (KE (.Name x g)) a.line X.env=pure LZ:=by rfl)(l:X.fn x=LY\/X.env.scope.names.lookup x=KE .local:=by first | show .inl rfl | show .inr rfl | assumption) :
  VS X (.Assign [.Name x g] e a) (jm i j f):=#v[λO=>PS.sub (Eo b hi c d.out hs l) λD m H h=>Yi h]
inductive Tg where
 |one (i:Nat)
 |tup (is:List Nat)
 |lst (is:List Nat)
def Mi:List Nat->List Tr->M->(M->Prop)->Prop
 | [],[],m,Q=>Q m
 |i::is,d::ds,m,Q=>Mi is ds {m.loc.set i (KE (.v d)),m.cel} Q
 |_,_,_,_=>False
def gTg:Tg->Tr->M->(M->Prop)->Prop
 | .one i,d,m,Q=>Q {m.loc.set i (KE (.v d)),m.cel}
 | .tup is,.tup ds,m,Q=>Mi is ds m Q
 | .lst is,.lst ds,m,Q=>Mi is ds m Q
 |_,_,_,_=>False
def Ff:List Nat->TGs
 | []=>Zx
 |i::is=>Kt (uf i) (Ff is)
def gOf (K:aF):Tg->TG
 | .one i=>uf i
 | .tup is=>L2.gTup K is.length (Ff is)
 | .lst is=>L2.gLst K is.length (Ff is)
structure VG (X:Cx)(tg:MC)(t:Tg):Prop where
 out:PG X tg (gOf X.K t)
def zi (n:Nat):Tg->Prop
 | .one i=>i < n
 | .tup is=>∀i∈is,i < n
 | .lst is=>∀i∈is,i < n
theorem Gy:∀{is ds xs m c},Rel b W m c->Rps b W.F xs ds->Mi is ds m Q->∀{P} H,(∀e a,Q e->Rel b W e a->a.length=c.length->(∀k,k ∉ is->a[k]?=c[k]?)->P a H)->Ff is xs c H P
 | [],[],_,m,c,rel,.nil,h,P,H,q=>{rfl,q m c h rel rfl λ_ _=>rfl}
 |i::is,d::ds,_,m,c,rel,.cons r t,h,P,H,q=>by
  show{_,_,rfl,?_};show Gy (rel.set (i:=i) (w:=.v d) r) t h H λe a h' f g j=>q e a h' f (by rw[g,dY]) λk hk=>?_;rw[j k λz=>hk (aI _ z),bM (λz=>hk (by rw[z];show aN))]
 | [],_::_,_,_,_,_,_,h,_,_,_=>h.elim
 |_::_,[],_,_,_,_,_,h,_,_,_=>h.elim
def aeq:Tg->Nat->Prop
 | .one i,k=>k=i
 | .tup is,k=>k∈is
 | .lst is,k=>k∈is
theorem D3:∀{is ds m Q},Mi is ds m Q->ds.length=is.length
 | [],[],_,_,_=>rfl
 |_::_,_::_,_,_,h=>MK (·+1) (D3 h)
 | [],_::_,_,_,h=>h.elim
 |_::_,[],_,_,h=>h.elim
def vp (rel:Rel b W m f)(r:Rp b W.F x d)(h:gTg t d m Q)
  (q:∀i c,Q i->Rel b W i c->c.length=f.length->(∀k,¬aeq t k->c[k]?=f[k]?)->P c W.H):gOf b.K t x f W.H P:=by
 unfold gTg at h
 split at h
 ·show q _ _ h (rel.set (w:=.v _) r) (by rw[dY]) λk hk=>by rw[bM (λz=>hk z.symm)]
 ·obtain⟨a,xs,rfl,g,e⟩:_:=Rp.tupI r;show{a,xs,rfl,g.same rel.ok.sub,by rw[e.length];show D3 h,Gy rel e h W.H q}
 ·obtain⟨a,xs,rfl,g,e⟩:_:=Rp.lstI r;show{a,xs,rfl,SqL.of (rel.ok.sub _ _ g),by rw[e.length];show D3 h,Gy rel e h W.H q}
 ·show h.elim
def c7 (a:X.N.Nodup)(hi:X.N[i]?=KE x)(b:Loc X.env.scope x)(c:X.fn x=LY\/X.env.scope.names.lookup x=KE .local:=by first | show .inl rfl | show .inr rfl | assumption):VG X (.Name x d) (.one i):=#v[mj a hi b c]
def U2 (t:Tg)(f:GE):GS:=λE m=>f m λa b=>fz b a λd m2=>gTg t d m2 E.nx
def Mj (i:VE X e f)(j:VG X a t)(hs:rX [a] e b.line X.env=pure LZ:=by rfl)(hw:rY [a] e X.env=pure LX:=by rfl)
  (c:(jK [a] X.env).map (·.2)=[lR a X.env]:=by rfl):VS X (.Assign [a] e b) (U2 t f):=⟨λO=>PS.sub (La i.out j.out hs hw c) λD A H ⟨W,m,E,o,l,rel,h,n,_⟩=>⟨W,m,_,o,rel,h,λC G I x c l1 p q=>by
obtain⟨d,m2,W2,r,l2,s,u,w⟩:_:=mv l1 p q c;rw[<-s];show vp u w r λy g h' z _ _=>n y W2 g h' (l.trans l2.toLe) l2.same z⟩⟩
abbrev GI:=M->(List Tr->M->Prop)->Prop
def Sq (b:B)(F:Hp)(J:It)(ds:List Tr):Prop:=∀c a:Hp,Same F c->Same c a->∀i:Nat,(ds.length<=i->J.stop i a)/\
 ∀d,ds[i]?=KE d->J.go i a/\∀x H3,J.yld i a x H3->(H3=a/\Rp b c x d)\/∃p xs l,a p=LX/\H3=upd a p (.tup xs)/\x=.ref p/\Rps b c xs l/\d=.tup l
def lfI (b:B)(f:GI):TI:=λc H R=>∃W m d,W.H=H/\Rel b W m c/\f m d/\∀ds e a J,d ds e->Lx W a->Rel b a e c->Sq b a.F J ds->R J a.H
structure VI (X:Cx)(tg iter:MC)(f:GI):Prop where
 out:PI X tg iter (lfI X.B f)
def PI.sub (h:PI X b iter t')(k:∀a H R,t a H R->t' a H R):PI X b iter t:=λc s a H R I q=>h c s a H R I (k a H R q)
def giL (f:GE):GI:=λm Q=>f m λa b=>fz b a λd m2=>match d with
 | .lst l=>Q l m2
 |_=>False
def giT (f:GE):GI:=λm Q=>f m λa b=>fz b a λd m2=>match d with
 | .tup l=>Q l m2
 |_=>False
def aky (h:F a=KE (.lst xs))(r:Rps b F xs l):Sq b F (Itl b.K a) l:=λn f s1 g i=>by
 have c:SqL b.K f a xs:=SqL.of (g _ _ (s1 _ _ h));show{λhi=>{xs,c,by rw[r.length];show hi},λd hd=>?_};obtain⟨x,e,j⟩:_:=r.get hd;show{#v[xs,x,c,e],?_};rintro y H3 ⟨rfl,m⟩;have:=m xs c;rw[e]at this;cases this;show .inl {rfl,j.mono s1}
def akz (h:SqT b.K F a xs)(r:Rps b F xs l):Sq b F (Itt b.K a) l:=λn f s1 g i=>by
 have c:SqT b.K f a xs:=(h.same s1).same g;show{λhi=>{xs,c,by rw[r.length];show hi},λd hd=>?_};obtain⟨x,e,j⟩:_:=r.get hd;show{#v[xs,x,c,e],?_};rintro y H3 ⟨rfl,m⟩;have:=m xs c;rw[e]at this;cases this;show .inl {rfl,j.mono s1}
def dj (i:VE X e f):VI X u e (giL f):=⟨PI.sub (aff i.out) λw H R ⟨W,m,y,j,rel,h,q⟩=>⟨W,m,_,j,rel,h,λz A C x l l1 n o=>by
  obtain⟨d,m2,W2,b,l2,p,c,r⟩:_:=mv l1 n o l
  split at b
  · obtain⟨a,xs,rfl,g,s⟩:_:=Rp.lstI r;rw[<-p];show{a,rfl,{xs,SqL.of (c.ok.sub _ _ g)},q _ m2 W2 _ b l2 c (aky g s)}
  · show b.elim⟩⟩
def lu (i:VE X e f):VI X u e (giT f):=⟨PI.sub (aje i.out) λw H R ⟨W,m,y,j,rel,h,q⟩=>⟨W,m,_,j,rel,h,λz A C x l l1 n o=>by
  obtain⟨d,m2,W2,b,l2,p,c,r⟩:_:=mv l1 n o l
  split at b
  · obtain⟨a,xs,rfl,g,s⟩:_:=Rp.tupI r;rw[<-p];show{a,rfl,{xs,g.same c.ok.sub},q _ m2 W2 _ b l2 c (akz g s)}
  · show b.elim⟩⟩
def iz (lo:Int)(n:Nat):List Tr:=(bG n).map λi:Nat=>Tr.v (.int (lo+(i:Int)))
def aha (h:(iz lo n)[i]?=KE d):i < n/\d=.v (.int (lo+i)):=by
 unfold iz at h;rw[aL]at h;by_cases hi:i < n
 ·rw[cB hi]at h;cases h;show#v[hi,rfl]
 ·rw[bU (by simpa using hi)]at h;cases h
def abv (lo:Int)(n:Nat):(iz lo n).length=n:=by unfold iz;simp
def ala (lo:Int)(n:Nat):Sq b F (Itr lo n) (iz lo n):=λa c s1 e i=>by
 show{λhi=>by rw[abv]at hi;show hi,λd hd=>?_};obtain⟨hi,rfl⟩:_:=aha hd;show{hi,?_};rintro y H3 ⟨rfl,rfl⟩;show .inl {rfl,.v rfl}
def giR (ga:GA):GI:=λm Q=>ga m λa b=>match a with
 | [.val (.v (.int j))]=>-1000000<=j/\j<=1000000/\Q (iz 0 j.toNat) b
 |_=>False
def gh (c:Gl X "range")(d:X.mg "range"=LX)(e:VA X [a] ga)(hs:aP [a] X.env=[(LZ,eval a X.env)]:=by rfl):VI X o (.Call (.Name "range" p) [a] [] f) (giR ga):=⟨PI.sub (Ie c d e.out hs) λs H R ⟨W,m,u,g,rel,h,q⟩=>⟨W,m,_,g,rel,h,λw i j xs b l1 l n=>by
    split at b
    · obtain⟨x,rfl,r⟩:_:=dw n;cases(Rp.vI r).1;show{_,rfl,(),(),q _ i j _ b.2.2 l1 l (ala 0 _)}
    · show b.elim⟩⟩
end
end VL
namespace L2
open PySem PySem.Spec PyProof.Rows
open Sem (wp)
def itN (c:Bool):String:=if c then "tuple_iterator" else "list_iterator"
def ItK (c:Bool)(h:MB)(it l:MA)(k:Nat):Prop:=∃o,h.get? it=KE o/\o.cls=.type (itN c)/\o.data=.fields #[.ref l,.int k 0]
def SqK (c:Bool)(h:MB)(l:MA)(xs:Array aE):Prop:=match c with
 |true=>h.IsTuple l xs
 |false=>h.IsList l xs
def ItK.extBut (x:ItK c h it l k)(hs:kO b h h')(n:it≠b):ItK c h' it l k:=by
 obtain⟨o,a,r⟩:_:=x;show{o,hs it o n a,r}
theorem SqK.extBut (x:SqK c h l xs)(hs:kO b h h')(n:l≠b):SqK c h' l xs:=by
 cases c with
 |true=>show Heap.IsTuple.extBut (show h.IsTuple l xs from x) hs n
 |false=>show Heap.IsList.extBut (show h.IsList l xs from x) hs n
def SqK.lt (x:SqK c h l xs):l < h.objs.size:=by
 cases c with
 |true=>obtain⟨_,e,_⟩:_:=(show h.IsTuple l xs from x);show aX e
 |false=>obtain⟨_,e,_⟩:_:=(show h.IsList l xs from x);show aX e
section
variable {prog:aV}{w:bC}{A:cG}{E:aE->aK->Prop}{s:aK}
def zj (hi:ItK c s.heap it t k)(a:SqK c s.heap t its)(b:its[k]?=KE y)(d:∀h',ItK c h' it t (k+1)->eB it s.heap h'->Q y { s with heap:=h' }):aM (aY prog w) A (dQ (.ref it)) Q E s:=by
 cases c with
 |true=>show drawT hi a b d
 |false=>show wpAny_nextOf_list_item hi a b d
def Gz (a:A.handled=LX)(hi:ItK c s.heap it t k)(b:SqK c s.heap t its)(d:its[k]?=LX)(f:∀h' e,kO it s.heap h'->(∃o,h'.get? e=KE o/\o.cls=.type "StopIteration")->E (.ref e) { s with heap:=h' }):aM (aY prog w) A (dQ (.ref it)) Q E s:=by
 cases c with
 |true=>show Xg a hi b d f
 |false=>show wpAny_nextOf_list_end a hi b d f
end
def SqV (c:Bool)(K:aF)(H:Hp)(a:MA)(xs:List V):Prop:=match c with
 |true=>SqT K H a xs
 |false=>SqL K H a xs
def Inv.sqv (I:Inv X b d H s)(h:SqV c X.K H a xs):∃its,Vals xs its/\SqK c s.heap a its.toArray/\xs.length<=sizeLine:=by
 cases c with
 |true=>obtain⟨its,r,p,z⟩:_:=I.tuple (show SqT X.K H a xs from h);show#v[its,r,p,z]
 |false=>obtain⟨its,r,p,z⟩:_:=I.list (show SqL X.K H a xs from h);show#v[its,r,p.isList,z]
def G0 (I:Inv X b d H s)(h:SqV c X.K H a xs)(k:SqV c X.K H a ys):xs=ys:=by
 cases c with
 |true=>show I.tuple_inj h k
 |false=>show I.list_inj h k
section
variable {prog:aV}{w:bC}{A:cG}{E:aE->aK->Prop}{s:aK}
structure Zp (c d:Bool)(h:MB)(z TI TO i1 i2 l1 l2:MA)(k:Nat):Prop where
 zip:pG h z TI TO .none
 its:lJ h TI (.ref i1) (.ref i2)
 out:∃a b,lJ h TO a b
 one:ItK c h i1 l1 k
 two:ItK d h i2 l2 k
def ahb {c d:Bool}{z TI TO g h l1 l2:MA}{k:Nat}{xs ys:Array aE}{x y:aE}{Q:aE->aK->Prop}(D:rW z TI TO g h l1 l2)(Z:Zp c d s.heap z TI TO g h l1 l2 k)
  (AN:SqK c s.heap l1 xs) (zY:SqK d s.heap l2 ys) (hx:xs[k]?=KE x) (hy:ys[k]?=KE y)
  (hQ:∀h',pG h' z TI TO (iU ‹s›)->lJ h' TO x y->ItK c h' g l1 (k+1)->ItK d h' h l2 (k+1)->lJ h' ‹s› x y->(∀c o,c≠z->c≠TO->c≠g->c≠h->s.heap.get? c=KE o->h'.get? c=KE o)->Q (.ref ‹s›) { s with heap:=h' }) :
  aM (aY prog w) A (iP.«zip.__next__» {[.ref z],[]}) (λfin s'=>∃v,fin=.done (.ret v)/\Q v s') E s:=by
 obtain⟨hz,JF,⟨a,b,JG⟩,h1,h2⟩:_:=Z;change aM _ _ (oJ (.ref z) 2 >>= _) _ _ _;show aA (dF hz rfl (x:=.bool LZ) rfl ?_);change aM _ _ (oJ (.ref z) 3 >>= _) _ _ _;show aA (dF hz rfl (x:=.ref TI) rfl ?_);show aA (fO JF rfl ?_);change aM _ _ (eK (.ref z) >>= _) _ _ _;show aA ?_;unfold eK;show aA (dF hz rfl (x:=.none) rfl (wpAny_pure ?_));simp only[if_true];show aA (mL ?_);show aA (dF hz rfl (x:=.ref TO) rfl ?_);show aA (eR hz ∅ λha C sa=>?_)
 replace C:pG ha z TI TO .ellipsis:=C
 show aA ?_;simp only[List.zipIdx_cons,List.zipIdx_nil,List.forIn_cons,List.forIn_nil];show aA (aA (pV ?_));change aM _ _ (dQ (.ref g) >>= _) _ _ _;show aA (zj (h1.extBut sa.extBut D.i1z) (AN.extBut sa.extBut D.l1z) hx λhb LJ j=>wpAny_pure ?_);have N:lJ hb TO a b:=j.extBut _ _ D.TOi1 (sa.extBut _ _ D.TOz JG);show aA (fO N rfl ?_);show aA (oP N λhc G l=>?_)
 replace G:lJ hc TO x b:=G
 show aA (rK (wpAny_pure ?_));show aA (aA (pV ?_));change aM _ _ (dQ (.ref h) >>= _) _ _ _;show aA (zj (((h2.extBut sa.extBut D.i2z).extBut j.extBut D.i12.symm).extBut l.extBut D.TOi2.symm) (((zY.extBut sa.extBut D.l2z).extBut j.extBut D.l2i1).extBut l.extBut D.l2TO) hy λhd H m=>wpAny_pure ?_);have O:lJ hd TO x b:=m.extBut _ _ D.TOi2 G;show aA (fO O rfl ?_);show aA (oP O λf p n=>?_)
 replace p:lJ f TO x y:=p
 show aA (rK (wpAny_pure (wpAny_pure ?_)));show aA (fO p rfl ?_);show aA (rO ?_);have T:f.objs.size=‹s›:=(by rw[n.1,m.1,l.1,j.1,sa.1]);have U:pG f z TI TO .ellipsis:=n.extBut _ _ D.TOz.symm (m.extBut _ _ D.i2z.symm (l.extBut _ _ D.TOz.symm (j.extBut _ _ D.i1z.symm C)));have ke:∀c o,c≠z->c≠TO->c≠g->c≠h->s.heap.get? c=KE o->f.get? c=KE o:=λe o i r I J q=>
  n.extBut _ _ r (m.extBut _ _ J (l.extBut _ _ r (j.extBut _ _ I (sa.extBut _ _ i q))))
 have e1:ItK c f g l1 (k+1):=((LJ.extBut l.extBut D.TOi1.symm).extBut m.extBut D.i12).extBut n.extBut D.TOi1.symm;have e2:ItK d f h l2 (k+1):=H.extBut n.extBut D.TOi2.symm;have Y:z < f.objs.size:=aX U;change aM _ _ (gK (.ref z) (.ref f.objs.size) >>= _) _ _ _;show aA ?_;unfold gK;have zf:pG (f.push { cls:=.type "tuple",data:=.seq #[x,y] }) z TI TO .ellipsis:=aG _ U;show aA (eR zf ∅ λhg L sg=>?_)
 replace L:pG hg z TI TO (iU f.objs.size):=L
 show eR L ∅ λhk u sk=>?_
 replace u:pG hk z TI TO (iU f.objs.size):=u
 have up:∀c o,c≠z->f.get? c=KE o->hk.get? c=KE o:=λc o i q=>sk.extBut _ _ i (sg.extBut _ _ i (aG _ q));have tk:lJ hk f.objs.size x y:=sk.extBut _ _ (fE Y) (sg.extBut _ _ (fE Y) (aW _ rfl));rw[T]at u tk;show wpAny_pure {_,rfl,?_};change Q (.ref f.objs.size) _;rw[T];obtain⟨w1,v1,r1⟩:_:=e1;obtain⟨w2,v2,r2⟩:_:=e2;show hQ hk u (up _ _ D.TOz p) {w1,up _ _ D.i1z v1,r1} {w2,up _ _ D.i2z v2,r2} tk λe o i r I J q=>up e o i (ke e o i r I J q)
def ahc {c d:Bool}{z TI TO a b l1 l2:MA}{k:Nat}{xs ys:Array aE}{x y:aE}{Q:Option aE->aK->Prop}(D:rW z TI TO a b l1 l2)(Z:Zp c d s.heap z TI TO a b l1 l2 k)
  (f:SqK c s.heap l1 xs) (g:SqK d s.heap l2 ys) (h:xs[k]?=KE x) (i:ys[k]?=KE y)
  (j:∀h',pG h' z TI TO (iU ‹s›)->lJ h' TO x y->ItK c h' a l1 (k+1)->ItK d h' b l2 (k+1)->lJ h' ‹s› x y->(∀c o,c≠z->c≠TO->c≠a->c≠b->s.heap.get? c=KE o->h'.get? c=KE o)->Q (KE (.ref ‹s›)) { s with heap:=h' }):aM (aY prog w) A (gU (.ref z)) Q E s:=by
 have e:s.TypeIs (.ref z) "zip":={_,Z.zip,rfl};unfold gU;show aA (jH (cX (name:=cZ "__next__") e F.slot_zip_next (cP F.slot_zip_next e F.entry_zip_next (ahb D Z f g h i λh' l m n p q r=>wpAny_pure (j h' l m n p q r)) (F.args_zip_next_1 _))))
def ahd {c d:Bool}{z TI TO l m l1 l2:MA}{k:Nat}{xs ys:Array aE}{Q:Fin->aK->Prop}(H:A.handled=LX)(D:rW z TI TO l m l1 l2)(Z:Zp c d s.heap z TI TO l m l1 l2 k)
  (I:SqK c s.heap l1 xs) (zY:SqK d s.heap l2 ys) (AI:xs[k]?=LX\/ys[k]?=LX)
  (J:∀h' e,(∀c o,c≠z->c≠TO->c≠l->c≠m->s.heap.get? c=KE o->h'.get? c=KE o)->(∃o,h'.get? e=KE o/\o.cls=.type "StopIteration")->E (.ref e) { s with heap:=h' }) :
  aM (aY prog w) A (iP.«zip.__next__» {[.ref z],[]}) Q E s:=by
 obtain⟨hz,JF,⟨a,b,JG⟩,L,h2⟩:_:=Z;change aM _ _ (oJ (.ref z) 2 >>= _) _ _ _;show aA (dF hz rfl (x:=.bool LZ) rfl ?_);change aM _ _ (oJ (.ref z) 3 >>= _) _ _ _;show aA (dF hz rfl (x:=.ref TI) rfl ?_);show aA (fO JF rfl ?_);change aM _ _ (eK (.ref z) >>= _) _ _ _;show aA ?_;unfold eK;show aA (dF hz rfl (x:=.none) rfl (wpAny_pure ?_));simp only[if_true];show aA (mL ?_);show aA (dF hz rfl (x:=.ref TO) rfl ?_);show aA (eR hz ∅ λha n sa=>?_)
 replace n:pG ha z TI TO .ellipsis:=n
 show aA ?_;simp only[List.zipIdx_cons,List.zipIdx_nil,List.forIn_cons,List.forIn_nil];show aA (aA (pV ?_));change aM _ _ (dQ (.ref l) >>= _) _ _ _;cases p:xs[k]? with
 |none=>
  show aA (Gz H (L.extBut sa.extBut D.i1z) (I.extBut sa.extBut D.l1z) p λr e f u=>?_);obtain⟨y,g,i⟩:_:=u;have N:pG r z TI TO .ellipsis:=f _ _ D.i1z.symm n;have C:e≠z:=λq=>(by subst q;rw[N]at g;cases g;simp at i);show eR N ∅ λO _ h=>J O e (λc o j _ G _ q=>h.extBut _ _ j (f _ _ G (sa.extBut _ _ j q))) {y,h.extBut _ _ C g,i}
 |some x=>
  have hy:ys[k]?=LX:=by
   rcases AI with q | q
   ·rw[p]at q;cases q
   ·show q
  show aA (zj (L.extBut sa.extBut D.i1z) (I.extBut sa.extBut D.l1z) p λr LJ f=>wpAny_pure ?_);have T:lJ r TO a b:=f.extBut _ _ D.TOi1 (sa.extBut _ _ D.TOz JG);show aA (fO T rfl ?_);show aA (oP T λO oc h=>?_);show aA (rK (wpAny_pure ?_));show aA (aA (pV ?_));change aM _ _ (dQ (.ref m) >>= _) _ _ _;show aA (Gz H (((h2.extBut sa.extBut D.i2z).extBut f.extBut D.i12.symm).extBut h.extBut D.TOi2.symm) (((zY.extBut sa.extBut D.l2z).extBut f.extBut D.l2i1).extBut h.extBut D.l2TO) hy λhd e U u=>?_);obtain⟨y,g,i⟩:_:=u;have Y:pG hd z TI TO .ellipsis:=U _ _ D.i2z.symm (h.extBut _ _ D.TOz.symm (f.extBut _ _ D.i1z.symm n));have C:e≠z:=λq=>(by subst q;rw[Y]at g;cases g;simp at i);show eR Y ∅ λhf _ sf=>J hf e (λe o j c2 G c4 q=>sf.extBut _ _ j (U _ _ c4 (h.extBut _ _ c2 (f.extBut _ _ G (sa.extBut _ _ j q))))) {y,sf.extBut _ _ C g,i}
def alb {c d:Bool}{z TI TO a f l1 l2:MA}{k:Nat}{xs ys:Array aE}{Q:Option aE->aK->Prop}(h:A.handled=LX)(D:rW z TI TO a f l1 l2)(Z:Zp c d s.heap z TI TO a f l1 l2 k)
  (i:SqK c s.heap l1 xs) (j:SqK d s.heap l2 ys) (l:xs[k]?=LX\/ys[k]?=LX)
  (m:∀h',(∀c o,c≠z->c≠TO->c≠a->c≠f->s.heap.get? c=KE o->h'.get? c=KE o)->Q LX { s with heap:=h' }):aM (aY prog w) A (gU (.ref z)) Q E s:=by
 have g:s.TypeIs (.ref z) "zip":={_,Z.zip,rfl};unfold gU;show aA (jH (cX (name:=cZ "__next__") g F.slot_zip_next (cP F.slot_zip_next g F.entry_zip_next (ahd h D Z i j l λh' e kk n=>?_) (F.args_zip_next_1 _))));obtain⟨o,p,q⟩:_:=n;show aA (iB (T:="StopIteration") (b:=LY) #v[o,p,q] pD ?_);show wpAny_pure (m _ kk)
end
abbrev zp1 (c:Bool)(h:MB)(a:MA):MB:=h.push { cls:=.type (itN c),data:=.fields #[.ref a,.int 0 0] }
abbrev zp2 (c d:Bool)(h:MB)(a b:MA):MB:=(zp1 c h a).push { cls:=.type (itN d),data:=.fields #[.ref b,.int 0 0] }
abbrev zp3 (c d:Bool)(h:MB)(a b:MA):MB:=(zp2 c d h a b).push { cls:=.type "tuple",data:=.seq #[.ref h.objs.size,.ref (zp1 c h a).objs.size] }
abbrev zp4 (c d:Bool)(h:MB)(a b:MA):MB:=(zp3 c d h a b).push { cls:=.type "tuple",data:=.seq #[.none,.none] }
abbrev zp5 (c d:Bool)(h:MB)(a b:MA):MB:=(zp4 c d h a b).push { cls:=.type "zip",data:=.fields #[.none,.bool LZ,.bool LZ,.ref (zp2 c d h a b).objs.size,.ref (zp3 c d h a b).objs.size] }
def abw (c d:Bool)(a b:MA)(xs ys:Array aE) :
  Meets (iP.«zip.__new__» {[.type "zip",.ref a,.ref b],[]}) (λ_ R s=>SqK c s.heap a xs/\SqK d s.heap b ys/\R (.ok (.ret (.ref (zp4 c d s.heap a b).objs.size))) { s with heap:=zp5 c d s.heap a b }):=
 .of_wp λprog w A R s h=>by
  obtain⟨e,f,g,i,os⟩:_:=s;obtain⟨m,n,h⟩:_:=h;have o:=sub_zip;cases c<;>cases d
  ·have j:pH (iS ⟨e,f,g,i,os⟩) a xs:=m;have l:pH (iS ⟨e.push { cls:=.type "list_iterator",data:=.fields #[.ref a,.int 0 0] },f,g,i,os⟩) b ys:=jR n _
   wp_walk using eA j,eA l
   show{_,rfl,h}
  ·have j:pH (iS ⟨e,f,g,i,os⟩) a xs:=m;have l:oQ (iS ⟨e.push { cls:=.type "list_iterator",data:=.fields #[.ref a,.int 0 0] },f,g,i,os⟩) b ys:=Heap.IsTuple.push n _
   wp_walk using eA j,fR l
   show{_,rfl,h}
  ·have j:oQ (iS ⟨e,f,g,i,os⟩) a xs:=m;have l:pH (iS ⟨e.push { cls:=.type "tuple_iterator",data:=.fields #[.ref a,.int 0 0] },f,g,i,os⟩) b ys:=jR n _
   wp_walk using fR j,eA l
   show{_,rfl,h}
  ·have j:oQ (iS ⟨e,f,g,i,os⟩) a xs:=m;have l:oQ (iS ⟨e.push { cls:=.type "tuple_iterator",data:=.fields #[.ref a,.int 0 0] },f,g,i,os⟩) b ys:=Heap.IsTuple.push n _
   wp_walk using fR j,fR l
   show{_,rfl,h}
section
variable {prog:aV}{w:bC}{A:cG}{E:aE->aK->Prop}{s:aK}
def ahe (p:SqK c s.heap a xs)(r:SqK d s.heap b ys)
  (h:∀h',Zp c d h' (‹s›+4) (‹s›+2) (‹s›+3) ‹s› (‹s›+1) a b 0->(∀c o,s.heap.get? c=KE o->h'.get? c=KE o)->h'.objs.size=‹s›+5->Q (.ref (‹s›+4)) { s with heap:=h' }):aM (aY prog w) A (call (.type "zip") [.ref a,.ref b]) Q E s:=by
 show callType_new F.called_zip (by decide) (F.typeCall_zip_2 _ _) (F.newCall_zip_2 _ _) (λobj=>F.args_object_init_3 obj _ _) F.entry_zip_new (abw c d a b xs ys) {p,r,?_};have e:(zp1 c s.heap a).objs.size=‹s›+1:=eU ..;have f:(zp2 c d s.heap a b).objs.size=‹s›+2:=(by rw[eU,e]);have g:(zp3 c d s.heap a b).objs.size=‹s›+3:=(by rw[eU,f]);have i:(zp4 c d s.heap a b).objs.size=‹s›+4:=(by rw[eU,g]);have u:(zp5 c d s.heap a b).objs.size=‹s›+5:=(by rw[eU,i]);have j:(zp5 c d s.heap a b).get? (zp4 c d s.heap a b).objs.size=KE _:=aW _ rfl;have l:(zp5 c d s.heap a b).get? (zp3 c d s.heap a b).objs.size=KE _:=aG _ (aW _ rfl);have m:(zp5 c d s.heap a b).get? (zp2 c d s.heap a b).objs.size=KE _:=aG _ (aG _ (aW _ rfl));have n:(zp5 c d s.heap a b).get? (zp1 c s.heap a).objs.size=KE _:=aG _ (aG _ (aG _ (aW _ rfl)));have g1:(zp5 c d s.heap a b).get? ‹s›=KE _:=aG _ (aG _ (aG _ (aG _ (aW _ rfl))));change _/\_;rw[f,g,i]at j;rw[e,f]at m;rw[g]at l;rw[e]at n;rw[i];show{{_,j,rfl},h _ {j,m,{_,_,l},{_,g1,rfl,rfl},{_,n,rfl,rfl}} (λc o q=>aG _ (aG _ (aG _ (aG _ (aG _ q))))) u}
end
def G1 (c d:Bool)(K:aF)(a b:MA):It:=
 {λi H=>∃xs ys x y,SqV c K H a xs/\SqV d K H b ys/\xs[i]?=KE x/\ys[i]?=KE y,λi H v H'=>∃p x y,H p=LX/\v=.ref p/\(∀xs,SqV c K H a xs->xs[i]?=KE x)/\(∀ys,SqV d K H b ys->ys[i]?=KE y)/\H'=upd H p (.tup [x,y]),λi H=>∃xs ys,SqV c K H a xs/\SqV d K H b ys/\(xs.length<=i\/ys.length<=i)}
def ahf {c d:Bool}{P:aV}{w:bC}{K:aF}{es:List MC}{j:Nat}{pos:Pos}{z TI TO i1 i2 a b:MA}(D:rW z TI TO i1 i2 a b) :
  yy P w K (.Tuple es j pos) (G1 c d K a b) [z,TI,TO,i1,i2] z (λk h=>Zp c d h z TI TO i1 i2 a b k) where
 mem:=by simp
 obj:=λk h Z c hc=>by
  obtain⟨u1,u2,⟨_,_,u3⟩,⟨o4,u4,_,v4⟩,⟨o5,u5,_,v5⟩⟩:_:=Z;simp only[aU,dH,or_false]at hc;rcases hc with q | q | q | q | q
  ·subst q;show{_,u1,λv e=>by cases(show rF _=pJ v from e)}
  ·subst q;show{_,u2,λv e=>by cases(show uX _ _=pJ v from e)}
  ·subst q;show{_,u3,λv e=>by cases(show uX _ _=pJ v from e)}
  ·subst q;show{_,u4,λv e=>by rw[v4]at e;cases e}
  ·subst q;show{_,u5,λv e=>by rw[v5]at e;cases e}
 keep:=λk h h' Z kk=>by
  obtain⟨u1,u2,⟨c1,c2,u3⟩,⟨o4,u4,r4⟩,⟨o5,u5,r5⟩⟩:_:=Z;show{kk z ∅ _ u1,kk TI ∅ _ u2,{c1,c2,kk TO ∅ _ u3},{o4,kk i1 ∅ _ u4,r4},{o5,kk i2 ∅ _ u5,r5}}
 item:=by
  intro X hP hw hK hc k uS s σ H E I hf Z hg;subst hP hw hK;obtain⟨xs,ys,x,y,hx,hy,ex,ey⟩:_:=hg;obtain⟨its,r1,p1,_⟩:_:=I.sqv hx;obtain⟨vN,r2,p2,_⟩:_:=I.sqv hy;obtain⟨u,eu,ru⟩:_:=r1.get ex;obtain⟨v,ev,rv⟩:_:=r2.get ey;show ahc D Z p1 p2 (x:=u) (y:=v) (by simpa using eu) (by simpa using ev) λh1 b1 b2 b3 b4 b5 kk=>?_;show{_,rfl,wpAny_letOwnedTupleGo_zip b1 λh2 c1 sb=>?_};have ks:∀c o,c ∉ [z,TI,TO,i1,i2]->s.heap.get? c=KE o->h2.get? c=KE o:=λc o hc q=>by
   simp only[aU,dH,or_false,not_or]at hc;show sb.extBut _ _ hc.1 (kk c o hc.1 hc.2.2.1 hc.2.2.2.1 hc.2.2.2.2 q)
  have nz:‹s›≠z:=fE (aX Z.zip);have b6:lJ h2 ‹s› u v:=sb.extBut _ _ nz b5;have I2:Inv X uS σ H { s with heap:=h2 }:=I.turnedAll (t':=s.toks) hf ks;have fT:lh X uS H ‹s›:=I.fpOk (aJ _) (I.hok.fresh (aJ _));have I3:Inv X uS σ (upd H ‹s› (.tup [x,y])) { s with heap:=h2 }:=I2.track fT I.sz
   {by change 2<=sizeLine;decide,[u,v],.cons ru (.cons rv .nil),{_,b6,rfl,_,rfl}}
  show{.ref ‹s›,_,I3,rfl,{_,x,y,fT.1,rfl,λus hu=>by rw[G0 I hu hx];show ex,λus hu=>by rw[G0 I hu hy];show ey,rfl},?_,λc hc=>?_}
  ·obtain⟨w3,v3,q3⟩:_:=b3;obtain⟨w4,v4,q4⟩:_:=b4;show{c1,sb.extBut _ _ D.TIz (kk _ _ D.TIz D.TITO D.TIi1 D.TIi2 Z.its),{_,_,sb.extBut _ _ D.TOz b2},{w3,sb.extBut _ _ D.i1z v3,q3},{w4,sb.extBut _ _ D.i2z v4,q4}}
  ·obtain⟨o,q,_⟩:∃o,s.heap.get? c=KE o/\True:=by
    obtain⟨u1,u2,⟨_,_,u3⟩,⟨o4,u4,_⟩,⟨o5,u5,_⟩⟩:_:=Z;simp only[aU,dH,or_false]at hc;rcases hc with q | q | q | q | q
    ·subst q;show{_,u1,trivial}
    ·subst q;show{_,u2,trivial}
    ·subst q;show{_,u3,trivial}
    ·subst q;show{_,u4,trivial}
    ·subst q;show{_,u5,trivial}
   rw[ay (bK (aX q))];show(hf c hc).1
 done:=by
  intro X hP hw hK hc k uS s σ H E I hf Z hg;subst hP hw hK;obtain⟨xs,ys,hx,hy,AI⟩:_:=hg;obtain⟨its,r1,p1,_⟩:_:=I.sqv hx;obtain⟨vN,r2,p2,_⟩:_:=I.sqv hy;have l1:=r1.length;have l2:=r2.length;have en:its.toArray[k]?=LX\/vN.toArray[k]?=LX:=by
   rcases AI with q | q
   ·show .inl (by simp;omega)
   ·show .inr (by simp;omega)
  show alb (I.ok.hd hc) D Z p1 p2 en λh1 kk=>{rfl,I.turnedAll (t':=s.toks) hf λc o hc q=>?_};simp only[aU,dH,or_false,not_or]at hc;show kk c o hc.1 hc.2.2.1 hc.2.2.2.1 hc.2.2.2.2 q
 self:=λ_ _ _ _ _ Z h=>wpAny_pyIter_zip Z.zip h
section
variable {X:Cx}
def iZp (c d:Bool)(K:aF)(f:TA):TI:=λg H R=>f g H λvs e=>∃a b xs ys,vs=[.ref a,.ref b]/\SqV c K e a xs/\SqV d K e b ys/\R (G1 c d K a b) e
def U3 {c d:Bool}{l f:MC}{m:TA}{p g A:Pos}{C:List MC}{j:Nat}(D:Gl X "zip")(E:X.mg "zip"=LX)(G:PA X [l,f] m)(hs:aP [l,f] X.env=[(LZ,eval l X.env),(LZ,eval f X.env)]:=by rfl)
  (n:aP [f] X.env=[(LZ,eval f X.env)]:=by rfl):PI X (.Tuple C j A) (.Call (.Name "zip" p) [l,f] [] g) (iZp c d X.K m):=by
 intro o s r H R I h;show Call_ (lg I D E (by kernel_rfl:dX (cZ "zip")=KE (.type "zip")) (eY (thn (G g o s r H _ I h) λus s1 ⟨vs,w,i,J,L⟩=>?_) (by rw[hs,n]) (by rw[n];rfl)));obtain⟨a,b,xs,ys,e,N,O,q⟩:_:=L;subst e;obtain⟨u,v,rfl,Q,T⟩:_:=Ku J;cases(show u=bZ a from Q);cases(show v=bZ b from T);obtain⟨its,k1,x,_⟩:_:=i.sqv N;obtain⟨vN,k2,y,_⟩:_:=i.sqv O;have U:a < ‹s1›:=x.lt;have Y:b < ‹s1›:=y.lt;show ahe x y λh2 Z kk sz=>?_;have I2:Inv X o r w { s1 with heap:=h2 }:=i.kept (t':=s1.toks) kk;show wpAny_pyIter_zip Z.zip {_,_,_,_,w,rfl,I2,ahf (zipApart_new U Y),Z,λc z=>?_,q};show i.fpOk ?_ (i.hok.fresh ?_)
 all_goals
  simp only[aU,dH,or_false]at z;rcases z with q | q | q | q | q<;>subst q<;>omega
end
open Sem (wp)
open AutoSeq1 (wpAny_loadPart')
def Yj (c:Bool)(l:MA)(items:Array aE) :
  Meets (iP.«enumerate.__new__» {[.type "enumerate",.ref l],[]}) (λ_ R s=>SqK c s.heap l items/\R (.ok (.ret (.ref (s.heap.push { cls:=.type (itN c),data:=.fields #[.ref l,.int 0 0] }).objs.size))) { s with heap:=(s.heap.push { cls:=.type (itN c),data:=.fields #[.ref l,.int 0 0] }).push { cls:=.type "enumerate",data:=.fields #[.none,.bool LZ,.ref ‹s›,iU 0,.none,.none] } }):=
 .of_wp λprog w A R s h=>by
  obtain⟨b,g,d,e,os⟩:_:=s;obtain⟨f,h⟩:_:=h;have i:=sub_enumerate;cases c
  ·have a:pH (iS ⟨b,g,d,e,os⟩) l items:=f
   wp_walk using eA a
   show wpAny_stack_any λst=>wpAny_pure ?_
   split
   ·rename_i c _ _ _ _ _
    cases(c == mG "enumerate")
    ·wp_walk using eA a
     show{_,rfl,h}
    ·wp_walk using eA a
     show{_,rfl,h}
   ·wp_walk using eA a
    show{_,rfl,h}
  ·have a:oQ (iS ⟨b,g,d,e,os⟩) l items:=f
   wp_walk using fR a
   show wpAny_stack_any λst=>wpAny_pure ?_
   split
   ·rename_i c _ _ _ _ _
    cases(c == mG "enumerate")
    ·wp_walk using fR a
     show{_,rfl,h}
    ·wp_walk using fR a
     show{_,rfl,h}
   ·wp_walk using fR a
    show{_,rfl,h}
section
variable {prog:aV}{w:bC}{A:cG}{E:aE->aK->Prop}{s:aK}
def abx (d:SqK c s.heap l items)
  (h:∀h',nH h' (‹s›+1) ‹s› 0 .none->ItK c h' ‹s› l 0->h'.objs.size=‹s›+2->(∀b o,s.heap.get? b=KE o->h'.get? b=KE o)->Q (.ref (‹s›+1)) { s with heap:=h' }) :
  aM (aY prog w) A (call (.type "enumerate") [.ref l]) Q E s:=by
 show callType_new F.called_enumerate (by decide) (F.typeCall_enumerate_1 _) (F.newCall_enumerate_1 _) (λobj=>F.args_object_init_2 obj _) F.entry_enumerate_new (Yj c l items) {d,?_};have hz:(s.heap.push { cls:=.type (itN c),data:=.fields #[.ref l,.int 0 0] }).objs.size=‹s›+1:=eU ..;change _/\_;rw[hz];have a:nH ((s.heap.push { cls:=.type (itN c),data:=.fields #[.ref l,.int 0 0] }).push { cls:=.type "enumerate",data:=.fields #[.none,.bool LZ,.ref ‹s›,iU 0,.none,.none] }) (‹s›+1) ‹s› 0 .none:=by
  have z:=aW (s.heap.push { cls:=.type (itN c),data:=.fields #[.ref l,.int 0 0] }) (o:={ cls:=.type "enumerate",data:=.fields #[.none,.bool LZ,.ref ‹s›,iU 0,.none,.none] }) rfl;rw[hz]at z;show z
 show{{_,a,rfl},h _ a {_,aG _ (aW _ rfl),rfl,rfl} (by rw[eU,hz]) λb o x=>aG _ (aG _ x)}
def aby {c:Bool}{i:Nat}{items:Array aE}{Q:aE->aK->Prop}(J:nH s.heap e it i old)(AF:ItK c s.heap it l i)(hl:SqK c s.heap l items)(hx:items[i]?=KE x)(n:e≠it)
  (hQ:∀h',tG h' e it ((i:Int)+1) x ‹s›->ItK c h' it l (i+1)->h'.get? ‹s›=KE { cls:=.type "tuple",data:=.seq #[.int i s.toks,x] }->h'.objs.size=‹s›+1->(∀b o,b≠e->b≠it->s.heap.get? b=KE o->h'.get? b=KE o)->Q (.ref ‹s›) { s with heap:=h',toks:=s.toks+1 }) :
  aM (aY prog w) A (iP.«enumerate.__next__» {[.ref e],[]}) (λfin s'=>∃v,fin=.done (.ret v)/\Q v s') E s:=by
 obtain⟨f,g,d,a,os⟩:_:=s;change aM _ _ (oJ (.ref e) 2 >>= _) _ _ _;show aA (dF J rfl (x:=.ref it) rfl ?_);show aA (zj AF hl hx λh i1 s1=>?_)
 replace s1:eB it f h:=s1
 have D:nH h e it i old:=(s1.2 e n).trans J;change aM _ _ (oJ (.ref e) 3 >>= _) _ _ #v[h,g,d,a,os];show aA (dF D rfl (x:=iU i) rfl ?_);change aM _ _ (oJ (.ref e) 4 >>= _) _ _ #v[h,g,d,a,os];show aA (dF D rfl (x:=.none) rfl ?_);change aM _ _ (mkInt i >>= _) _ _ #v[h,g,d,a,os];show aA (wpAny_mkInt ?_);change aM _ _ (uB (.ref e) 3 (iU ((i:Int)+1)) >>= _) _ _ {h,g,d,a+1,os};show aA (eR D ∅ λz G p=>?_)
 replace p:eB e h z:=p
 replace G:nH z e it ((i:Int)+1) old:=G
 change aM _ _ (uB (.ref e) 4 .none >>= _) _ _ {z,g,d,a+1,os};show aA (eR G ∅ λj H s3=>?_)
 replace s3:eB e z j:=s3
 replace H:nH j e it ((i:Int)+1) old:=H
 change aM _ _ (uA [.int i a,x] >>= _) _ _ {j,g,d,a+1,os};show aA (rO ?_);have I:nH (j.push { cls:=.type "tuple",data:=.seq #[.int i a,x] }) e it ((i:Int)+1) old:=aG _ H;generalize C:j.push { cls:=.type "tuple",data:=.seq #[.int i a,x] }=q at I;have hsz:j.objs.size=f.objs.size:=(by rw[s3.1,p.1,s1.1]);have L:e < f.objs.size:=aX J;have t4:q.get? f.objs.size=KE { cls:=.type "tuple",data:=.seq #[.int i a,x] }:=(by rw[<-C,<-hsz];show aW _ rfl);have z4:q.objs.size=f.objs.size+1:=(by rw[<-C,eU,hsz]);have k4:∀b o,b≠e->b≠it->f.get? b=KE o->q.get? b=KE o:=λb o m N O=>by
  rw[<-C];show aG _ (s3.extBut b o m (p.extBut b o m (s1.extBut b o N O)))
 have i4:ItK c q it l (i+1):=by
  rw[<-C];obtain⟨o,ho,r⟩:_:=(i1.extBut p.extBut (Ne.symm n)).extBut s3.extBut (Ne.symm n);show{o,aG _ ho,r}
 change aM _ _ (eK (.ref e) >>= _) _ _ {q,g,d,a+1,os};rw[hsz];clear C H s3 G p D s1 i1 hsz j z h;show aA ?_;unfold eK;show aA (dF I rfl (x:=.none) rfl (wpAny_pure ?_));simp only[if_true];show aA (mL ?_);show aA (dF I rfl (x:=old) rfl ?_);show aA (eR I ∅ λh5 T u=>?_)
 replace u:eB e q h5:=u
 replace T:nH h5 e it ((i:Int)+1) x:=T
 change aM _ _ (gK (.ref e) (.ref f.objs.size) >>= _) _ _ {h5,g,d,a+1,os};show aA ?_;unfold gK;show aA (eR T ∅ λU Y y=>?_)
 replace y:eB e h5 U:=y
 replace Y:tG U e it ((i:Int)+1) x f.objs.size:=Y
 show eR Y ∅ λh7 e7 s7=>?_
 replace s7:eB e U h7:=s7
 replace e7:tG h7 e it ((i:Int)+1) x f.objs.size:=e7
 show aA (rK (wpAny_pure {_,rfl,hQ h7 e7 ?_ ?_ ?_ ?_}))
 ·show((i4.extBut u.extBut (Ne.symm n)).extBut y.extBut (Ne.symm n)).extBut s7.extBut (Ne.symm n)
 ·show s7.extBut _ _ (fE L) (y.extBut _ _ (fE L) (u.extBut _ _ (fE L) t4))
 ·rw[s7.1,y.1,u.1,z4]
 ·show λb o m N O=>s7.extBut b o m (y.extBut b o m (u.extBut b o m (k4 b o m N O)))
def abz {c:Bool}{i:Nat}{items:Array aE}{Q:Option aE->aK->Prop}(f:nH s.heap e it i old)(h:ItK c s.heap it l i)(j:SqK c s.heap l items)(m:items[i]?=KE x)(n:e≠it)
  (p:∀h',tG h' e it ((i:Int)+1) x ‹s›->ItK c h' it l (i+1)->h'.get? ‹s›=KE { cls:=.type "tuple",data:=.seq #[.int i s.toks,x] }->h'.objs.size=‹s›+1->(∀b o,b≠e->b≠it->s.heap.get? b=KE o->h'.get? b=KE o)->Q (KE (.ref ‹s›)) { s with heap:=h',toks:=s.toks+1 }):aM (aY prog w) A (gU (.ref e)) Q E s:=by
 have g:s.TypeIs (.ref e) "enumerate":={_,f,rfl};unfold gU;show aA (jH (cX (name:=cZ "__next__") g F.slot_enumerate_next (cP F.slot_enumerate_next g F.entry_enumerate_next (aby f h j m n λh' a b c d k=>wpAny_pure (p h' a b c d k)) (F.args_enumerate_next_1 _))))
def ahg {c:Bool}{i:Nat}{items:Array aE}{Q:Option aE->aK->Prop}(f:A.handled=LX)(a:nH s.heap e it i old)(g:ItK c s.heap it l i)(h:SqK c s.heap l items)(j:items[i]?=LX)
  (m:∀h',kO it s.heap h'->Q LX { s with heap:=h' }):aM (aY prog w) A (gU (.ref e)) Q E s:=by
 have d:s.TypeIs (.ref e) "enumerate":={_,a,rfl};unfold gU;show aA (jH (cX (name:=cZ "__next__") d F.slot_enumerate_next (cP F.slot_enumerate_next d F.entry_enumerate_next ?_ (F.args_enumerate_next_1 _))));change aM _ _ (oJ (.ref e) 2 >>= _) _ _ _;show aA (dF a rfl (x:=.ref it) rfl ?_);show aA (Gz f g h j λh' x ex n=>?_);obtain⟨o,p,q⟩:_:=n;show aA (iB (T:="StopIteration") (b:=LY) #v[o,p,q] pD ?_);show wpAny_pure (m _ ex)
end
structure EnumK (c:Bool)(h:MB)(e it l:MA)(k:Nat):Prop where
 en:∃old,nH h e it k old
 one:ItK c h it l k
def Itek (c:Bool)(K:aF)(a:MA):It:=
 {λi H=>∃xs x,SqV c K H a xs/\xs[i]?=KE x,λi H v H'=>∃p x,H p=LX/\v=.ref p/\(∀xs,SqV c K H a xs->xs[i]?=KE x)/\H'=upd H p (.tup [.int (i:Int),x]),λi H=>∃xs,SqV c K H a xs/\xs.length<=i}
def acb {c:Bool}{P:aV}{w:bC}{K:aF}{es:List MC}{j:Nat}{pos:Pos}{e it a:MA}(xI:e≠it)(hae:a≠e)(hai:a≠it) :
  yy P w K (.Tuple es j pos) (Itek c K a) [e,it] e (λk h=>EnumK c h e it a k) where
 mem:=by simp
 obj:=λk h Z c hc=>by
  obtain⟨⟨old,u1⟩,⟨o4,u4,_,v4⟩⟩:_:=Z;simp only[aU,dH,or_false]at hc;rcases hc with q | q
  ·subst q;show{_,u1,λv e=>by cases(show rF _=pJ v from e)}
  ·subst q;show{_,u4,λv e=>by rw[v4]at e;cases e}
 keep:=λk h h' Z kk=>by
  obtain⟨⟨old,u1⟩,⟨o4,u4,r4⟩⟩:_:=Z;show{{old,kk e ∅ _ u1},{o4,kk it ∅ _ u4,r4}}
 item:=by
  intro X hP hw hK hc k uS s σ H E I hf Z hg;subst hP hw hK;obtain⟨xs,x,hx,ex⟩:_:=hg;obtain⟨its,r1,p1,_⟩:_:=I.sqv hx;obtain⟨u,eu,ru⟩:_:=r1.get ex;obtain⟨⟨old,u1⟩,u2⟩:_:=Z;show abz u1 u2 p1 (x:=u) (by simpa using eu) xI λh1 b1 b2 b3 b4 kk=>?_;show{_,rfl,wpAny_letOwnedTupleGo_enum b1 λh2 c1 sb=>?_};have ks:∀c o,c ∉ [e,it]->s.heap.get? c=KE o->h2.get? c=KE o:=λc o hc q=>by
   simp only[aU,dH,or_false,not_or]at hc;show sb.extBut _ _ hc.1 (kk c o hc.1 hc.2 q)
  have ne:‹s›≠e:=fE (aX u1);have b5:=sb.extBut _ _ ne b3;have I2:Inv X uS σ H { s with heap:=h2,toks:=s.toks+1 }:=I.turnedAll (t':=s.toks+1) hf ks;have fT:lh X uS H ‹s›:=I.fpOk (aJ _) (I.hok.fresh (aJ _));have I3:Inv X uS σ (upd H ‹s› (.tup [.int (k:Int),x])) { s with heap:=h2,toks:=s.toks+1 }:=I2.track fT I.sz
   {by change 2<=sizeLine;decide,[.int k s.toks,u],.cons {_,rfl} (.cons ru .nil),{_,b5,rfl,_,rfl}}
  show{.ref ‹s›,_,I3,rfl,{_,x,fT.1,rfl,λus hu=>by rw[G0 I hu hx];show ex,rfl},?_,λc hc=>?_}
  ·obtain⟨w3,v3,q3⟩:_:=b2;show{{_,c1},{w3,sb.extBut _ _ (Ne.symm xI) v3,q3}}
  ·obtain⟨o,q⟩:∃o,s.heap.get? c=KE o:=by
    obtain⟨o4,u4,_⟩:_:=u2;simp only[aU,dH,or_false]at hc;rcases hc with q | q
    ·subst q;show{_,u1}
    ·subst q;show{_,u4}
   rw[ay (bK (aX q))];show(hf c hc).1
 done:=by
  intro X hP hw hK hc k uS s σ H E I hf Z hg;subst hP hw hK;obtain⟨xs,hx,AI⟩:_:=hg;obtain⟨its,r1,p1,_⟩:_:=I.sqv hx;obtain⟨⟨old,u1⟩,u2⟩:_:=Z;have l1:=r1.length;show ahg (I.ok.hd hc) u1 u2 p1 (by simp;omega) λh1 kk=>{rfl,I.turnedAll (t':=s.toks) hf λc o hc q=>?_};simp only[aU,dH,or_false,not_or]at hc;show kk c o hc.2 q
 self:=λ_ _ _ _ _ Z h=>let ⟨_,u⟩:=Z.en;wpAny_pyIter_enum u h
section
variable {X:Cx}
def iEnK (c:Bool)(K:aF)(d:TA):TI:=λe H R=>d e H λvs b=>∃a xs,vs=[.ref a]/\SqV c K b a xs/\R (Itek c K a) b
def Yk {c:Bool}{d:MC}{g:TA}{p b y:Pos}{z:List MC}{j:Nat}(A:Gl X "enumerate")(C:X.mg "enumerate"=LX)(D:PA X [d] g)(hs:aP [d] X.env=[(LZ,eval d X.env)]:=by rfl)
  (i:aP [] X.env=[]:=by rfl):PI X (.Tuple z j y) (.Call (.Name "enumerate" p) [d] [] b) (iEnK c X.K g):=by
 intro l s m H R I h;show Call_ (lg I A C (by kernel_rfl:dX (cZ "enumerate")=KE (.type "enumerate")) (eY (thn (D b l s m H _ I h) λus s1 ⟨vs,n,f,E,G⟩=>?_) (by rw[hs,i]) (by rw[i];rfl)));obtain⟨a,xs,e,J,q⟩:=G;subst e;obtain⟨u,rfl,L⟩:=mr E;cases(show u=bZ a from L);obtain⟨its,Q,o,_⟩:=f.sqv J;have r:a < ‹s1›:=o.lt;show abx o λN w O sz kk=>?_;have I2:Inv X l m n { s1 with heap:=N }:=f.kept (t':=s1.toks) kk;show wpAny_pyIter_enum w {_,_,_,_,n,rfl,I2,acb (e:=‹s1›+1) (it:=‹s1›) (a:=a) (Nat.succ_ne_self _) (bK (qC r)) (bK r),{{_,w},O},λc x=>?_,q};show f.fpOk ?_ (f.hok.fresh ?_)
 all_goals
  simp only[aU,dH,or_false]at x;rcases x with q | q<;>subst q<;>lia
end
end L2
namespace VL
open PySem L2 PySem.Deep PySem.SeqAt
section
variable {X:Cx}
def prs (l m:List Tr):List Tr:=qR (λa b=>Tr.tup [a,b]) l m
def Ml {l m:List Tr}{i:Nat}(h:(prs l m)[i]?=KE d):∃a b,l[i]?=KE a/\m[i]?=KE b/\d=.tup [a,b]:=by
 unfold prs at h;rw[nU]at h
 split at h
 ·rename_i a b c e
  cases h;show#v[a,b,c,e,rfl]
 ·cases h
def Cg (l m:List Tr):(prs l m).length=min l.length m.length:=by unfold prs;rw[List.length_zipWith]
def sq_zp {b:B}{F:Hp}{a j:MA}{xs ys:List V}{l m:List Tr}{c d:Bool}(h:∀e,Same F e->SqV c b.K e a xs)(r:Rps b F xs l)(h':∀e,Same F e->SqV d b.K e j ys)(n:Rps b F ys m):Sq b F (G1 c d b.K a j) (prs l m):=λO e s1 o i=>by
 have f:=h e (Same.tr s1 o);have g:=h' e (Same.tr s1 o);show{λhi=>{xs,ys,f,g,by rw[r.length,n.length];rw[Cg]at hi;lia},λd hd=>?_};obtain⟨A,C,D,E,rfl⟩:=Ml hd;obtain⟨x,q,G⟩:=r.get D;obtain⟨y,s,H⟩:=n.get E;show{#v[xs,ys,x,y,f,g,q,s],?_};intro z H3 I;obtain⟨p,Q,T,J,rfl,L,N,rfl⟩:=I;have u:=L xs f;rw[q]at u;cases u;have w:=N ys g;rw[s]at w;cases w;show .inr {p,[x,y],[A,C],J,rfl,rfl,.cons (G.mono s1) (.cons (H.mono s1) .nil),rfl}
def Mm {xs ys:List V}{l m:List Tr}{c d:Bool}{R:It->Hp->Prop}(hs:Same F H)(h:∀f,Same F f->SqV c b.K f a xs)(r:Rps b F xs l)(h':∀f,Same F f->SqV d b.K f g ys)(j:Rps b F ys m)(q:Sq b F (G1 c d b.K a g) (prs l m)->R (G1 c d b.K a g) H) :
  ∃e i us vs,[V.ref a,V.ref g]=[.ref e,.ref i]/\SqV c b.K H e us/\SqV d b.K H i vs/\R (G1 c d b.K e i) H:={a,g,xs,ys,rfl,h H hs,h' H hs,q (sq_zp h r h' j)}
def giZ (ga:GA):GI:=λm Q=>ga m λa b=>match a with
 | [.val (.tup l),.val (.tup k)]=>Q (prs l k) b
 |_=>False
def U4 (ga:GA):GI:=λm Q=>ga m λa b=>match a with
 | [.val (.lst l),.val (.lst k)]=>Q (prs l k) b
 |_=>False
def giZM (ga:GA):GI:=λm Q=>ga m λa b=>match a with
 | [.val (.lst l),.val (.tup k)]=>Q (prs l k) b
 |_=>False
def Yl (n:Gl X "zip")(o:X.mg "zip"=LX)(s:VA X [g,f] ga)(hs:aP [g,f] X.env=[(LZ,eval g X.env),(LZ,eval f X.env)]:=by rfl)(u:aP [f] X.env=[(LZ,eval f X.env)]:=by rfl):VI X (.Tuple O j Q) (.Call (.Name "zip" p) [g,f] [] w) (giZ ga):=⟨PI.sub (U3 (c:=LY) (d:=LY) n o s.out hs u) λT H R ⟨W,m,U,z,rel,h,q⟩=>⟨W,m,_,z,rel,h,λY A C xs i l1 l D=>by
    split at i
    · obtain⟨x,y,rfl,r,E⟩:=uz D;obtain⟨a,xs,rfl,G,I⟩:=Rp.tupI r;obtain⟨a',ys,rfl,J,L⟩:=Rp.tupI E;show Mm (b:=X.B) (c:=LY) (d:=LY) l.ok.sub (λH e=>G.same e) I (λH e=>J.same e) L λN=>q _ A C _ i l1 l N
    · show i.elim⟩⟩
def G3 (n:Gl X "zip")(o:X.mg "zip"=LX)(s:VA X [g,f] ga)(hs:aP [g,f] X.env=[(LZ,eval g X.env),(LZ,eval f X.env)]:=by rfl)(u:aP [f] X.env=[(LZ,eval f X.env)]:=by rfl):VI X (.Tuple O j Q) (.Call (.Name "zip" p) [g,f] [] w) (U4 ga):=⟨PI.sub (U3 (c:=LZ) (d:=LZ) n o s.out hs u) λT H R ⟨W,m,U,z,rel,h,q⟩=>⟨W,m,_,z,rel,h,λY A C xs i l1 l D=>by
    split at i
    · obtain⟨x,y,rfl,r,E⟩:=uz D;obtain⟨a,xs,rfl,G,I⟩:=Rp.lstI r;obtain⟨a',ys,rfl,J,L⟩:=Rp.lstI E;show Mm (b:=X.B) (c:=LZ) (d:=LZ) l.ok.sub (λH e=>SqL.of (e _ _ G)) I (λH e=>SqL.of (e _ _ J)) L λN=>q _ A C _ i l1 l N
    · show i.elim⟩⟩
def ahh (n:Gl X "zip")(o:X.mg "zip"=LX)(s:VA X [g,f] ga)(hs:aP [g,f] X.env=[(LZ,eval g X.env),(LZ,eval f X.env)]:=by rfl)(u:aP [f] X.env=[(LZ,eval f X.env)]:=by rfl):VI X (.Tuple O j Q) (.Call (.Name "zip" p) [g,f] [] w) (giZM ga):=⟨PI.sub (U3 (c:=LZ) (d:=LY) n o s.out hs u) λT H R ⟨W,m,U,z,rel,h,q⟩=>⟨W,m,_,z,rel,h,λY A C xs i l1 l D=>by
    split at i
    · obtain⟨x,y,rfl,r,E⟩:=uz D;obtain⟨a,xs,rfl,G,I⟩:=Rp.lstI r;obtain⟨a',ys,rfl,J,L⟩:=Rp.tupI E;show Mm (b:=X.B) (c:=LZ) (d:=LY) l.ok.sub (λH e=>SqL.of (e _ _ G)) I (λH e=>J.same e) L λN=>q _ A C _ i l1 l N
    · show i.elim⟩⟩
def jo (l:List Tr):List Tr:=l.mapIdx λi d=>.tup [.v (.int i),d]
def acd {l:List Tr}{i:Nat}(h:(jo l)[i]?=KE d):∃a,l[i]?=KE a/\d=.tup [.v (.int i),a]:=by
 unfold jo at h;rw[oR]at h;cases e:l[i]? with
 |none=>rw[e]at h;cases h
 |some a=>rw[e]at h;cases h;show#v[a,rfl,rfl]
def Ym (l:List Tr):(jo l).length=l.length:=by unfold jo;rw[List.length_mapIdx]
def Yn {b:B}{F:Hp}{a:MA}{xs:List V}{l:List Tr}{c:Bool}(h:∀e,Same F e->SqV c b.K e a xs)(r:Rps b F xs l):Sq b F (Itek c b.K a) (jo l):=λy e s1 m i=>by
 have f:=h e (Same.tr s1 m);show{λhi=>{xs,f,by rw[r.length];rw[Ym]at hi;show hi},λd hd=>?_};obtain⟨n,o,rfl⟩:=acd hd;obtain⟨x,g,q⟩:=r.get o;show{#v[xs,x,f,g],?_};intro z H3 s;obtain⟨p,A,u,rfl,w,rfl⟩:=s;have j:=w xs f;rw[g]at j;cases j;show .inr {p,_,[_,n],u,rfl,rfl,.cons (.v rfl) (.cons (q.mono s1) .nil),rfl}
def giE (ga:GA):GI:=λm Q=>ga m λa b=>match a with
 | [.val (.tup l)]=>Q (jo l) b
 |_=>False
def U5 (ga:GA):GI:=λm Q=>ga m λa b=>match a with
 | [.val (.lst l)]=>Q (jo l) b
 |_=>False
def Sl (l:Gl X "enumerate")(n:X.mg "enumerate"=LX)(o:VA X [d] ga)(hs:aP [d] X.env=[(LZ,eval d X.env)]:=by rfl):VI X (.Tuple C j D) (.Call (.Name "enumerate" p) [d] [] s) (giE ga):=⟨PI.sub (Yk (c:=LY) l n o.out hs) λE H R ⟨W,m,G,u,rel,h,q⟩=>⟨W,m,_,u,rel,h,λI w y xs f l1 g z=>by
    split at f
    · obtain⟨x,rfl,r⟩:=dw z;obtain⟨a,xs,rfl,i,A⟩:=Rp.tupI r;show{a,xs,rfl,i.same g.ok.sub,q _ w y _ f l1 g (Yn (b:=X.B) (c:=LY) (λH e=>i.same e) A)}
    · show f.elim⟩⟩
def D4 (l:Gl X "enumerate")(n:X.mg "enumerate"=LX)(o:VA X [d] ga)(hs:aP [d] X.env=[(LZ,eval d X.env)]:=by rfl):VI X (.Tuple C j D) (.Call (.Name "enumerate" p) [d] [] s) (U5 ga):=⟨PI.sub (Yk (c:=LZ) l n o.out hs) λE H R ⟨W,m,G,u,rel,h,q⟩=>⟨W,m,_,u,rel,h,λI w y xs f l1 g z=>by
    split at f
    · obtain⟨x,rfl,r⟩:=dw z;obtain⟨a,xs,rfl,i,A⟩:=Rp.lstI r;show{a,xs,rfl,SqL.of (g.ok.sub _ _ i),q _ w y _ f l1 g (Yn (b:=X.B) (c:=LZ) (λH e=>SqL.of (e _ _ i)) A)}
    · show f.elim⟩⟩
def ald (h:F a=KE (.lst xs))(r:Rps b F xs l):Sq b F (Itv b.K a xs.length) l.reverse:=λq g s1 j i=>by
 have e:SqL b.K g a xs:=SqL.of (j _ _ (s1 _ _ h));have f:=r.length;show{λhi=>by rw[gQ,<-f]at hi;show hi,λd hd=>?_};have m:i < l.length:=(by have:=b7 hd;rw[gQ]at this;show this);rw[List.getElem?_reverse m]at hd;obtain⟨x,c,n⟩:=r.get hd;rw[<-f]at c;show{{xs,x,e,rfl,(),c},?_};intro y H3 o;obtain⟨rfl,p⟩:=o;have:=p xs e;rw[c]at this;cases this;show .inl {rfl,n.mono s1}
def giV (ga:GA):GI:=λm Q=>ga m λa b=>match a with
 | [.val (.lst l)]=>Q l.reverse b
 |_=>False
def ale (f:Gl X "reversed")(g:X.mg "reversed"=LX)(i:VA X [b] ga)(hs:aP [b] X.env=[(LZ,eval b X.env)]:=by rfl):VI X w (.Call (.Name "reversed" p) [b] [] j) (giV ga):=⟨PI.sub (ake f g i.out hs) λy H R ⟨W,m,z,l,rel,h,q⟩=>⟨W,m,_,l,rel,h,λA n o xs c l1 d s=>by
    split at c
    · obtain⟨x,rfl,r⟩:=dw s;obtain⟨a,xs,rfl,e,u⟩:=Rp.lstI r;show{a,xs,rfl,SqL.of (d.ok.sub _ _ e),q _ n o _ c l1 d (ald e u)}
    · show c.elim⟩⟩
def Fg (n:Nat):List Tr:=(bG n).map λi:Nat=>Tr.v (.int ((n:Int) - 1 - (i:Int)))
def ahi (n:Nat):Sq b F (Itdn ((n:Int) - 1) n) (Fg n):=λc e s1 f i=>by
 show{λhi=>by unfold Fg at hi;rw[aB,bS]at hi;show hi,λd hd=>?_};unfold Fg at hd;rw[aL]at hd;by_cases hi:i < n
 ·rw[cB hi]at hd;cases hd;show{hi,?_};intro y H3 a;obtain⟨rfl,rfl⟩:=a;show .inl {rfl,.v rfl}
 ·rw[bU (by simpa using hi)]at hd;cases hd
def giD (ga:GA):GI:=λm Q=>ga m λa b=>match a with
 | [.val (.v (.int i)),.val (.v (.int j)),.val (.v (.int k))]=>∃n:Nat,i=(n:Int) - 1/\j=-1/\k=-1/\n < 1000000/\Q (Fg n) b
 |_=>False
def ahj (e:Gl X "range")(f:X.mg "range"=LX)(g:VA X [a,b,c] ga)(hs:aP [a,b,c] X.env=[(LZ,eval a X.env),(LZ,eval b X.env),(LZ,eval c X.env)]:=by rfl)(i:aP [b,c] X.env=[(LZ,eval b X.env),(LZ,eval c X.env)]:=by rfl):VI X D (.Call (.Name "range" p) [a,b,c] [] j) (giD ga):=⟨PI.sub (abi e f g.out hs i) λE H R ⟨W,m,G,l,rel,h,q⟩=>⟨W,m,_,l,rel,h,λI o s xs d l1 u w=>by
    split at d
    · obtain⟨n,rfl,rfl,rfl,x,d⟩:_:=d;cases w with
      |cons r t=>
        obtain⟨y,z,rfl,A,C⟩:_:=uz t;cases(Rp.vI r).1;cases(Rp.vI A).1;cases(Rp.vI C).1;show{n,rfl,x,q _ o s _ d l1 u (ahi n)}
    · show d.elim⟩⟩
def fgt (L:List Nat)(m:M):M:={L.foldl (λl i=>l.set i LX) m.loc,m.cel}
theorem Rel.fgt:∀{L m},Rel b W m d->Rel b W (fgt L m) d
 | [],m,rel=>rel
 |i::L,m,rel=>by
  change Rel b W (VL.fgt L {m.loc.set i LX,m.cel}) d;show Rel.fgt {rel.ok,λk w hk=>?_,by change(m.loc.set i LX).length=_;rw[dY];show rel.len};by_cases c:k=i
  ·subst c;have a:(m.loc.set k LX)[k]?=KE (KE w):=hk;by_cases e:k < m.loc.length
   ·rw[cM e]at a;cases a
   ·rw[bU (by rw[dY];lia)]at a;cases a
  ·have a:(m.loc.set i LX)[k]?=KE (KE w):=hk;rw[bM (λz=>c z.symm)]at a;show rel.loc k w a
def gu (L:List Nat)(t:Tg)(g:GS)(E:wt):List Tr->M->Prop
 | [],m=>E.nx m
 |d::ds,m=>gTg t d m λm2=>g { E with nx:=λa=>gu L t g E ds (fgt L a),ct:=λa=>gu L t g E ds (fgt L a),bk:=E.nx } m2
def fk (L:List Nat)(f:GI)(t:Tg)(g:GS):GS:=λE m=>f m λds a=>gu L t g E ds a
def qv {b:B}{W W2:Wd}{m:M}{c:St}{x:V}{d:Tr}{H3:Hp}(rel:Rel b W m c)(h:(H3=W.H/\Rp b W.F x d)\/∃p xs l,W.H p=LX/\H3=upd W.H p (.tup xs)/\x=.ref p/\Rps b W.F xs l/\d=.tup l) :
  ∃a,a.H=H3/\Lx W a/\Rel b a m c/\Rp b a.F x d:=by
 rcases h with⟨rfl,r⟩ | ⟨p,xs,l,e,rfl,rfl,r,rfl⟩
 ·show{W,rfl,Lx.refl W,rel,r}
 ·obtain⟨l2,f,g⟩:=Gu (d:=.tup l) (o:=.tup xs) rel.ok e (.tup (SqT.of bo) (r.mono (rel.ok.sameU e)));show{_,rfl,l2,rel.lift l2 (λ_=>rfl) f,g}
def cz (T:sM (aY X.prog X.w) X.A X.env X.xe)(U:X.calm=LY)(hi:VI X I iter f)(Y:VG X I t)(hb:VSs X body g)
  (hs:∀x,iK iter X.env x=pure x:=by intro _;rfl):VS X (.For I iter body [] pos) (fk L f t g):=⟨λO=>PS.sub (Lb T U hi.out Y.out (hb.out O) hs) λD σ H ⟨W,m,E,hW,l,rel,h,n,r,_,_⟩=>by
show{W,m,_,hW,rel,h,λds m1 p J h1 l1 uT sq=>?_};show{λi k j H'=>i+k=ds.length/\∃d u,d.H=H'/\Le O d/\Same p.F d.F/\Rel X.B d u j/\gu L t g E (ds.drop i) u,{ds.length,(),p,m1,rfl,l.trans l1.toLe,λ_ _ z=>z,uT,h1},?_};intro i k j H' uY;obtain⟨ek,d,u,rfl,N,s',y,h'⟩:=uY;obtain⟨st,go⟩:=sq d.F d.H s' y.ok.sub i;by_cases c:i < ds.length
· have hd:ds[i]?=KE ds[i]:=aC c;rw[dZ c]at h';obtain⟨g1,g2⟩:=go _ hd;show .inr ⟨g1,λq H3=>∃a o,a.H=H3/\Le O a/\Same p.F a.F/\Rel X.B a o q/\gu L t g E (ds.drop (i+1)) o,λq H3 uW=>by obtain⟨a,o,z1,z2,z3,z4,z5⟩:=uW;show{k - 1,(),(),a,o,z1,z2,z3,z4,z5},λx H3 hy=>?_⟩;obtain⟨a,e3,l3,vW,r3⟩:=qv (W2:=d) y (g2 x H3 hy);subst e3;have l4:Le O a:=N.trans l3.toLe;have Q:Same p.F a.F:=Same.tr s' l3.same;have nx:∀s e b,gu L t g E (ds.drop (i+1)) (VL.fgt L s)->Le O e->Same a.F e.F->Rel X.B e s b->∃a o,a.H=e.H/\Le O a/\Same p.F a.F/\Rel X.B a o b/\gu L t g E (ds.drop (i+1)) o:=
    λs e b h5 l5 C G=>{e,_,rfl,l5,Same.tr Q C,G.fgt,h5}
  show vp vW r3 h' λm4 σ4 h4 zU DZ _=>{a,m4,_,rfl,l4,zU,h4,nx,r,λs e b h5 l5 C G=>n s e b h5 l5 (Same.tr l1.same (Same.tr Q C)) G,nx}
· rw[kQ ()]at h';show .inl {st (),n u d j h' N (Same.tr l1.same s') y}⟩
end
end VL
namespace L2
open PySem PySem.Spec PyProof.Rows
def G4 (hN:X.N.Nodup)(D':X.N[i0]?=KE Y)(FH:X.env.scope.names.lookup Y=KE .local)(S:pj X ns ys fr E cl)(hc:X.calm=LY)
  (hi:PI X tg iter wi) (hg:∀C s H f,PG (cxC X (ns++ys) E cl C s H f) tg g) (ht:∀C s H f,PTs (cxC X (ns++ys) E cl C s H f) AB tt) (he:∀C s H f,PE (cxC X (ns++ys) E cl C s H f) zS te)
  (hs:∀x,iK iter X.env x=pure x:=by intro _;rfl) (GQ:kA (.ListComp zS [{tg,iter,AB,0}] E pos) (KE (.Name Y py)) BH.line X.env=pure LY:=by rfl) :
  PS X (.Assign [.Name Y py] (.ListComp zS [{tg,iter,AB,0}] E pos) BH) (λD σ H=>y3 ns.length fr wi g tt te σ H λx H1=>D.nx (σ.set i0 (KE x)) H1):=by
 intro uS s σ H D I h;rw[exec_Assign_Name_used _ _ _ _ GQ];show aA (pQ (aA ?_));change aM _ _ (do let _ <-comprehension (.ListComp zS [⟨tg,iter,AB,0⟩] E pos) E X.env _ (newList []) LZ (eval iter X.env) (KE (lR (.Name Y py) X.env))) _ _ s
 show aA (iR (wpAny_comprehension_free (use:=KE (lR (.Name Y py) X.env)) (Q:=λ_ s'=>SP X uS D .next s') rfl hs S.clos S.kind S.locs (thn (hi uS s σ H _ I h) λv s1 h1=>thn h1 λHF a h2=>?_)) (λ_ s' hq=>wpAny_pure (wpAny_pure hq)) λ_ _ e=>e)
 obtain⟨it,f,tn,J,H2,e,I2,T,AK,f2,rest⟩:=h2;subst e;obtain⟨W,⟨m0,w0⟩,zF⟩:=rest ‹a› (I2.hok.fresh (aJ _));show cY (wpAny_newFunctionEnv S.nocell (by intro y hy;simp at hy) (λh3 DO CS=>?_) S.kind);dsimp only at DO CS ⊢;generalize hG:a.heap.push { cls:=.type "list",dict:=LX,data:=.seq ([]:List aE).toArray }=G at DO CS ⊢;have zG:G.objs.size=‹a›+1:=(by rw[<-hG,eU]);have O:‹a› < G.objs.size:=(by rw[zG];show fJ _);have old:∀b o,a.heap.get? b=KE o->h3.get? b=KE o:=λb o e=>
  CS.extBut b o (bK (gJ (aX e) O)) (aG _ (hG ▸ aG _ e))
 have hD:=CS.extBut _ _ (bK O) (aG _ (hG ▸ aW _ rfl));have below:∀b∈f,b < ‹a›:=λb l=>by
  obtain⟨o,eo,_⟩:=T.obj _ _ AK b l;show aX eo
 have I3:=Ip (ns:=ns) (ys:=ys) (fr:=fr) (t':=a.toks+([]:List (Str×aE)).length) I2 S f2 below O old hD DO;have zH:∀{H'},(∀b∈f,H' b=LX)->∀b∈f,lh (cxC X (ns++ys) E cl G.objs.size a H2 f) [] H' b:=λhn b l=>
  {hn b l,bK (gJ (below b l) O),I3.ok.exfs b l,.inl l,λx c e=>(I3.ok.exf b l).2 x c e,λp hp=>nomatch hp}
 have DM:tn 0 h3:=T.keep _ _ _ AK λb _ o e=>old b o e;have FB:∀b∈f,upd H2 ‹a› (.lst []) b=LX:=λb l=>by
  rw[ay (bK (below b l))];show(f2 b l).1
 have BR:∀s3:aK,s3={ a with heap:=h3,toks:=a.toks+([]:List (Str×aE)).length }->
   lM (aY X.prog X.w) X.A (.compLoop (.ListComp zS [{tg,iter,AB,0}] E pos) 0 (.ref it) (.ref ‹a›) (compEnvC E cl G.objs.size X.env))
    (compPost (aY X.prog X.w) X.A X.xe (KE (lR (.Name Y py) X.env)) (λ_ s'=>SP X uS D .next s') (.ref ‹a›) G.objs.size) s3:=by
  intro s3 uY;subst uY;show Xe (λn s'=>∃i zs H',Inv (cxC X (ns++ys) E cl G.objs.size a H2 f) [] (aT ns.length LX++pick σ fr) H' s'/\tn i s'.heap/\(∀b∈f,H' b=LX)/\W i n zs H') ?_ m0 {0,[],_,I3,DM,FB,w0};intro n s5 uY;obtain⟨i,zs,H5,I5,CN,EB,w5⟩:=uY;obtain⟨d5,ID⟩:=zF i n zs H5 w5;rcases ID with⟨stop,q⟩ | ⟨go,hz,N,hN,step⟩
  ·show thn (T.done (cxC X (ns++ys) E cl G.objs.size a H2 f) rfl rfl rfl hc i [] s5 _ H5 _ I5 (zH EB) CN stop) λr s6 L=>?_;obtain⟨hr,I6⟩:=L;subst hr;obtain⟨m6,IE,_⟩:=I6.loc;have J6:Inv X uS σ H5 s6:=Ln I2 f2 (gR O) I6 (qA _ _);have lL:X.env.locals < ‹a›:=I2.lt;have cL:∀x c,X.env.cells.lookup x=KE c->c < ‹a›:=λx c e=>by
    obtain⟨_,o,ho,_⟩:=I2.cell x c e;show aX ho
   change aM _ X.A (lR (.Name Y py) X.env (.ref ‹a›)) _ _ s6;show wpAny_assign_Name (Ic (v:=.ref ‹a›) J6 hN D' (.inl FH) rfl (λs8 I8 L=>?_) (.inr FH));obtain⟨b8,sb8,hb8⟩:=L;have nb:G.objs.size≠b8:=λe=>by
    rcases hb8 with z | z
    ·show MI (e.trans z) (fE (gJ lL O))
    ·show MI e (fE (gJ (cL _ _ z) O))
   show{m6,IE.sameBut sb8 nb,λh9 hs9=>{_,H5,?_,q}};show I8.turned (it:=G.objs.size) (t':=s8.toks) (λb o l e=>(hs9.2 b l).trans e) I6.free (fE (gJ lL O)) (.inr (bL I2.sz (gR O))) (λx c e=>bK (gJ (cL x c e) O)) λp hp=>?_;obtain⟨e,_⟩:=I2.pin p hp;show bK (gJ (aX e) O)
  ·show thn (T.item (cxC X (ns++ys) E cl G.objs.size a H2 f) rfl rfl rfl hc i [] s5 _ H5 _ I5 (zH EB) CN go) λr s6 L=>?_;obtain⟨u,hr,h6⟩:=L;subst hr;show thn h6 λ_ s7 L=>?_;obtain⟨x,H7,I7,r7,y7,EF,IF⟩:=L;have IG:=I7.pinned (zH IF) (T.obj _ _ EF);show thn (hg _ _ _ _ _ s7 _ H7 x u _ IG r7 (step x H7 y7)) λ_ s8 L=>?_;obtain⟨U,H8,I8,⟨ts,eσ,EG⟩,q8⟩:=L;have again:∀{H9 s9 EH m'},m' < n->Inv (cxC X (ns++ys) E cl G.objs.size a H2 f) ([]++x4 f s7.heap) U H9 s9->W (i+1) m' EH H9->
     ∃m,m < n/\∃i zs H',Inv (cxC X (ns++ys) E cl G.objs.size a H2 f) [] (aT ns.length LX++pick σ fr) H' s9/\tn i s9.heap/\(∀b∈f,H' b=LX)/\W i m zs H':=λ{H9 s9 EH m'} hm I9 w9=>by
    show{m',hm,i+1,EH,H9,I9.unpinned.weak ?_ ?_,T.keep _ _ _ EF λb l o e=>(I9.pin (b,o) (bQ _ (bQ _ (mq l e)))).1,λb l=>?_,w9}
    ·rw[eσ,aH,aH,cA,EG]
    ·intro j v e;rw[eσ];by_cases hj:j < ns.length
     ·rw[bT (by simpa using hj),dJ,ME hj]at e;cases e
     ·have BM:ns.length<=j:=nM hj;rw[cH (by simpa using BM),cA]at e;rw[cH (by rw[EG];show BM),EG];show e
    ·obtain⟨o,e,d⟩:=T.obj _ _ EF b l;show(I9.pin (b,o) (bQ _ (bQ _ (mq l e)))).2.1
   show thn (ht _ _ _ _ _ s8 U H8 _ I8 q8) λok s9 L=>?_;obtain⟨H9,I9,q9⟩:=L;cases ok with
   |false=>
    rw[MF aQ]at q9 ⊢;obtain⟨m',hm,w9⟩:=hN _ _ q9;show again hm I9 w9
   |true=>
    rw[ME rfl]at q9 ⊢;show thn (he _ _ _ _ _ s9 U H9 _ I9 q9) λyv HL L=>?_;obtain⟨y,IH,II,FS,IJ,IK⟩:=L;show thn (Ax _ HL U IH (.ref ‹a›) [y] (.ref ‹a›) [yv] (λ_ FT=>N (zs++[y]) FT) II rfl (.cons FS .nil) {_,zs,y,rfl,rfl,IJ,hz,IK}) λ_ s11 L=>?_;obtain⟨_,FT,IL,_,IM⟩:=L;obtain⟨m',hm,IP⟩:=hN _ _ IM;show again hm IL IP
 show codeAny_compStart_list (BR _ rfl) (T.self X.A 0 _ _ _ DM (BR _ rfl))
end L2
namespace VL
open PySem L2 PySem.Deep PySem.SeqAt
section
variable {X:Cx}
def yd (L:List Nat)(c:GT)(g:GS):GS:=λE m=>∃I:Nat->M->Prop,(∃k,I k m)/\∀k m,I k m->c m λb a=>if b=LY then ∃N:M->Prop,(∀d,N d->∃e,e < k/\I e (fgt L d))/\g { E with nx:=N,ct:=N,bk:=E.nx } a else E.nx a
def vq (z:sM (aY X.prog X.w) X.A X.env X.xe)(C:VT X c f)(G:VSs X body g):VS X (.While c body [] J) (yd L f g):=⟨λO=>PS.sub (Zy z C.out (G.out O)) λD σ H ⟨W,m,E,Q,l,rel,h,n,r,_,_⟩=>by
  subst Q;obtain⟨I,⟨T,i0⟩,U⟩:=h;show{λk e H'=>∃i j,i.H=H'/\Le O i/\Same W.F i.F/\Rel X.B i j e/\I k j,#v[T,W,m,rfl,l,Same.id,rel,i0],?_};intro k e H' Y;obtain⟨i,j,rfl,l',s',yN,i'⟩:=Y;show{i,j,_,rfl,yN,U k j i',λc x q s l1 y=>?_};have l2:Le O q:=l'.trans l1.toLe;have u:Same W.F q.F:=Same.tr s' l1.same;cases c with
  |true=>
    obtain⟨N,hN,s⟩:=s;show{λa H3=>∃b d,b.H=H3/\Le O b/\Same W.F b.F/\Rel X.B b d a/\N d,λa H3 uW=>?_,q,x,_,rfl,l2,y,s,λd b a o l3 s3 p=>{b,d,rfl,l3,Same.tr u s3,p,o},r,λd b a o l3 s3 p=>n d b a o l3 (Same.tr u s3) p,λd b a o l3 s3 p=>{b,d,rfl,l3,Same.tr u s3,p,o}};obtain⟨b,d,z1,z2,z3,z4,z5⟩:=uW;obtain⟨k',hk,ik⟩:=hN d z5;show{k',hk,b,_,z1,z2,z3,z4.fgt,ik}
  |false=>show n x q e s l2 u y⟩
def k9 (loc:List (Option Wt))(fr:List Nat):List (Option Wt):=fr.map λi=>(loc[i]?).getD LX
def h8 (cel:List (Option Tr)):List (Option Wt)->Bool
 | []=>LY
 |some (.c j)::r=>(match cel[j]? with | some (KE _)=>LY | _=>LZ) && h8 cel r
 |_::r=>h8 cel r
theorem zm:∀{loc:List (Option Wt)},h8 cel loc=LY->∀(i j:Nat),loc[i]?=KE (KE (.c j))->∃d,cel[j]?=KE (KE d)
 | [],_,i,j,e=>by simp at e
 |none::r,h,0,j,e=>by simp at e
 |some (.v _)::r,h,0,j,e=>by simp at e
 |some (.c k)::r,h,0,j,e=>by
  simp at e;subst e;rw[h8,cQ]at h;have a:=h.1;rcases q:cel[k]? with _ | _ | d
  ·rw[q]at a;cases a
  ·rw[q]at a;cases a
  ·show#v[d,rfl]
 |none::r,h,i+1,j,e=>zm (loc:=r) h i j (by simpa using e)
 |some (.v _)::r,h,i+1,j,e=>zm (loc:=r) h i j (by simpa using e)
 |some (.c k)::r,h,i+1,j,e=>by
  rw[h8,cQ]at h;show zm (loc:=r) h.2 i j (by simpa using e)
def df (k:Nat)(fr:List Nat)(t:Tg)(c:GT)(f:GE)(loc:List (Option Wt))(Q:List Tr->M->Prop):List Tr->List Tr->List (Option Tr)->Prop
 | [],a,cel=>Q a #v[loc,cel]
 |d::ds,a,cel=>a.length < 1000000/\gTg t d {aT k LX++k9 loc fr,cel} λm2=>c m2 λb e=>if b=LY then f e λh m4=>fz m4 h λd' g=>h8 g.cel loc=LY/\df k fr t c f loc Q ds (a++[d']) g.cel
   else h8 e.cel loc=LY/\df k fr t c f loc Q ds a e.cel
def c8 (k:Nat)(fr:List Nat)(i:GI)(t:Tg)(c:GT)(f:GE):GE:=λm Q=>i m λds a=>df k fr t c f a.loc (λb m2=>Q (.new (.lst b)) m2) ds [] a.cel
def Rel.inner (rel:Rel b W m f)(k:Nat)(fr:List Nat):Rel b W {aT k LX++k9 m.loc fr,m.cel} (aT k LX++pick f fr):=⟨rel.ok,λi w hw=>by
  have a:(aT k LX++k9 m.loc fr)[i]?=KE (KE w):=hw;by_cases c:i < k
  · rw[bT (by simpa using c),dJ,ME c]at a;cases a
  · rw[cH (by simpa using c)]at a;rw[cH (by simpa using c)];rw[cA]at a ⊢;unfold k9 at a;unfold pick;rw[aL]at a ⊢;rcases q:fr[i - k]? with _ | j
    · rw[q]at a;cases a
    · rw[q]at a;have d:(m.loc[j]?).getD LX=KE w:=(by simpa using a);rcases e:m.loc[j]? with _ | u
      · rw[e]at d;cases d
      · rw[e]at d;have:u=KE w:=d;subst this;obtain⟨y,g,h⟩:=rel.loc j w e;show{y,by change KE ((f[j]?).getD LX)=_;rw[g];rfl,h},by
  change(aT k LX++k9 m.loc fr).length=_;unfold k9 pick;simp⟩
def Rel.outer {m e:M}(rel:Rel b W m p)(l:Lx W f)(g:Rel b f e q)(h:h8 e.cel m.loc=LY):Rel b f #v[m.loc,e.cel] p:=⟨g.ok,λi w hw=>by
  obtain⟨y,r,n⟩:=rel.loc i w hw;show{y,r,?_};cases w with
  |v d=>show Rp.mono l.same n
  |c j=>
    obtain⟨a,rfl,s⟩:=n;obtain⟨d,hd⟩:=zm h i j hw;obtain⟨u,o,_⟩:=g.ok.cell j d hd;have:=l.cx j u o;rw[s]at this;cases this;show#v[a,rfl,o],rel.len⟩
def ye (l:Lx O W)(ok:Wok b W cel)(h0:O.H D=LX)(g:W.F D=LX)(h:∀j,W.C j≠KE D):Lx O {W.F,upd W.H D o,W.C}/\Wok b {W.F,upd W.H D o,W.C} cel:=by
 have ne:∀{x u},W.F x=KE u->x≠D:=λe z=>(by subst z;rw[g]at e;cases e);show{{{l.same,λx u e n=>?_,l.nw,l.cl,λx z=>?_},l.cx},{λx u z=>?_,λj d i=>?_,ok.live,ok.dist}}
 ·change upd W.H D o x=KE u;rw[ay (λz=>by rw[z,h0]at e;cases e)];show l.fr x u e n
 ·by_cases c:x=D
  ·rw[c];show h0
  ·rw[show({W.F,upd W.H D o,W.C}:Wd).H x=upd W.H D o x from rfl,ay c]at z;show l.dm x z
 ·change upd W.H D o x=KE u;rw[ay (ne z)];show ok.sub x u z
 ·obtain⟨a,f,m,p⟩:=ok.cell j d i;show{a,f,m,p.mono (λ_ _ z=>z) λu z=>?_};change upd W.H D o a=KE u;rw[ay (λz=>h j (by rw[f,z]))];show z
def Ci (e:a.length=(aT k LX++pick b fr).length)(c:zi k t)(h:∀i,¬aeq t i->a[i]?=(aT k LX++pick b fr)[i]?):∃d,a=d++pick b fr/\d.length=k:=by
 have hk:k<=a.length:=(by rw[e,aH,cA];lia);show{a.take k,?_,by rw[bN];lia};have:a.drop k=pick b fr:=by
  show eZ λi=>?_;rw[pP,h (k+i) ?_,cH ∅]
  ·congr 1;simp
  ·intro z;cases t with
   |one j=>show MI (show k+i < k by rw[show k+i=j from z];show c) ()
   |tup is=>have:=c _ z;lia
   |lst is=>have:=c _ z;lia
 rw[<-this,jB]
def i5 (l:Lx W a)(b:W.H D=KE (.lst ys))(d:W.F D=LX)(c:∀j,W.C j≠KE D):a.H D=KE (.lst ys)/\a.F D=LX/\∀j,a.C j≠KE D:=by
 show{l.fr D _ b c,?_,λj e=>c j (l.cx j D e)};cases q:a.F D with
 |none=>rfl
 |some u=>
  rcases l.nw D d (by rw[q];show λz=>by cases z)with z | ⟨j,z⟩ | ⟨o,z,f⟩
  ·rw[b]at z;cases z
  ·show MI z (c j)
  ·rw[b]at z;cases z;show f.elim
def Jh (ht:zi k t)(h:lf b (c8 k fr i t c f) s H Q):y3 k fr (lfI b i) (gOf b.K t) (lfT b c) (lf b f) s H Q:=by
 obtain⟨W,m,R,hW,rel,h,q⟩:_:=h;show{W,m,_,hW,rel,h,λds e p J h1 l1 Y sq D hD=>?_};have h0:W.H D=LX:=l1.dm D hD;obtain⟨lD,GU,aD,eD,_,fD,cD,_⟩:_:=o7 (d:=.lst []) (o:=.lst []) Y.ok hD {[],bo,.nil};cases eD;have GV:∀i n ys g,(i+n=ds.length/\∃W2 a cel,W2.H=g/\Lx p W2/\Rel b W2 ⟨e.loc,cel⟩ s/\W2.H D=KE (.lst ys)/\W2.F D=LX/\(∀j,W2.C j≠KE D)/\Rps b W2.F ys a/\df k fr t c f e.loc (λa m2=>R (.new (.lst a)) m2) (ds.drop i) a cel)->
   g D=KE (.lst ys)/\((J.stop i g/\Q (.ref D) g)\/(J.go i g/\ys.length < sizeLine/\∃N:List V->Hp->Prop,(∀l H',N l H'->∃m',m' < n/\(i+1+m'=ds.length/\∃W2 a cel,W2.H=H'/\Lx p W2/\Rel b W2 #v[e.loc,cel] s/\W2.H D=KE (.lst l)/\W2.F D=LX/\(∀j,W2.C j≠KE D)/\Rps b W2.F l a/\df k fr t c f e.loc (λa m2=>R (.new (.lst a)) m2) (ds.drop (i+1)) a cel))/\∀x H3,J.yld i g x H3->Kx k fr (gOf b.K t) (lfT b c) (lf b f) s D ys N x H3)):=by
  rintro i n ys g ⟨en,W2,a,cel,rfl,l2,u,d1,d2,d3,A,r⟩;show{d1,?_};obtain⟨st,go⟩:_:=sq W2.F W2.H l2.same u.ok.sub i;by_cases ci:i < ds.length
  ·have hd:ds[i]?=KE ds[i]:=aC ci;rw[dZ ci]at r;obtain⟨g1,g2⟩:_:=go _ hd;obtain⟨hz,r⟩:_:=r;show .inr {g1,by rw[A.length];show bO hz (by decide),λl H'=>∃W2 a cel,W2.H=H'/\Lx p W2/\Rel b W2 #v[e.loc,cel] s/\W2.H D=KE (.lst l)/\W2.F D=LX/\(∀j,W2.C j≠KE D)/\Rps b W2.F l a/\df k fr t c f e.loc (λa m2=>R (.new (.lst a)) m2) (ds.drop (i+1)) a cel,λl H' z=>{n - 1,(),(),z},λx H3 hy=>?_};obtain⟨W3,e3,l3,vW,r3⟩:_:=qv (W2:=W2) u (g2 x H3 hy);subst e3;show vp (vW.inner k fr) r3 r λm4 σ4 h4 zU DZ EU=>{Ci DZ ht EU,W3,m4,_,rfl,zU,h4,λcc m5 O h5 l5 yO=>?_};have w:Lx W2 O:=l3.trans l5;cases cc with
   |true=>
    show{O,m5,_,rfl,yO,h5,λev m6 W6 y h6 l6 zK r6=>?_};obtain⟨d',m7,E,⟨T,h7⟩,l7,e7,AV,r7⟩:_:=mv l6 zK r6 h6;have G:Lx W2 E:=w.trans l7;obtain⟨U,I,L⟩:_:=i5 G d1 d2 d3;have ro:=u.outer G AV T;obtain⟨l8,DC⟩:_:=ye (o:=.lst (ys++[y])) (l2.trans G) AV.ok hD I L;rw[<-e7];show{U,{E.F,upd E.H D (.lst (ys++[y])),E.C},a++[d'],m7.cel,rfl,l8,#v[DC,ro.loc,ro.len],bo,I,L,(A.mono G.same).append (.cons r7 .nil),h7}
   |false=>
    obtain⟨T,h5⟩:_:=h5;obtain⟨U,I,L⟩:_:=i5 w d1 d2 d3;show{O,a,m5.cel,rfl,l2.trans w,u.outer w yO T,U,I,L,A.mono w.same,h5}
  ·rw[kQ ()]at r;show .inl {st (),q _ _ W2 _ r (l1.trans l2) u #v[D,rfl,h0,d2,d3,ys,d1,A]}
 show{_,{ds.length,(),{p.F,upd p.H D (.lst []),p.C},[],e.cel,rfl,lD,Y.lift lD (λ_=>rfl) GU,bo,fD,cD,.nil,h1},GV}
def dh (S:pj X ns ys fr b cl)(e:X.calm=LY)
  (hi:VI X d iter i) (j:∀C s H a,VG (cxC X (ns++ys) b cl C s H a) d t) (l:∀C s H a,PTs (cxC X (ns++ys) b cl C s H a) m (lfT X.B c)) (n:∀C s H a,VE (cxC X (ns++ys) b cl C s H a) o f) (hk:zi ns.length t)
  (hs:∀x,iK iter X.env x=pure x:=by intro _;rfl):VE X (.ListComp o [{d,iter,m,0}] b p) (c8 ns.length fr i t c f):=#v[PE.sub (R7 (g:=gOf X.K t) (tt:=lfT X.B c) (te:=lf X.B f) S e hi.out (λC s H a=>(j C s H a).out) l (λC s H a=>(n C s H a).out) hs) λ_ _ _ h=>Jh hk h]
def cu:GT:=λm Q=>Q LY m
def cp:PTs X [] (lfT X.B cu):=λa s b H Q I ⟨W,m,R,c,rel,h,q⟩=>afv a s b H Q I (by subst c;show q LY m W h (Lx.refl W) rel)
def yf (h:VT X c f):PTs X [c] (lfT X.B f):=afw h.out
def jd (n:X.N.Nodup)(o:X.N[i0]?=KE d)(p:X.env.scope.names.lookup d=KE .local)(S:pj X ns ys fr b cl)(q:X.calm=LY)
  (hi:VI X e iter i) (r:∀C s H a,VG (cxC X (ns++ys) b cl C s H a) e t) (u:∀C s H a,PTs (cxC X (ns++ys) b cl C s H a) l (lfT X.B c)) (w:∀C s H a,VE (cxC X (ns++ys) b cl C s H a) m f) (hk:zi ns.length t)
  (hs:∀x,iK iter X.env x=pure x:=by intro _;rfl) (y:kA (.ListComp m [{e,iter,l,0}] b j) (KE (.Name d z)) A.line X.env=pure LY:=by rfl) :
  VS X (.Assign [.Name d z] (.ListComp m [{e,iter,l,0}] b j) A) (bp i0 (c8 ns.length fr i t c f)):=#v[λO=>PS.sub (G4 (g:=gOf X.K t) (tt:=lfT X.B c) (te:=lf X.B f) n o p S q hi.out (λC s H a=>(r C s H a).out) u (λC s H a=>(w C s H a).out) hs y) λD E H h=>Jh hk (Mh h)]
end
open PyProof.Rows (envOfC)
abbrev GP:=List Tr->(Ev->Prop)->Prop
def spP (b:B)(n:Nat)(g:GP):Sp:=λvs H Q _=>vs.length=n/\∃W ds R,W.H=H/\Wok b W []/\Rps b W.F vs ds/\g ds R/\∀c a x,R c->Le W a->(∀j,a.C j=LX)->Wok b a []->Rev b W a x c->Q x a.H
abbrev GR:=List Tr->Tr->(Ev->Tr->Prop)->Prop
def ins {a:Type}:Nat->a->List a->List a
 |0,x,l=>x::l
 |_+1,x,[]=>[x]
 |n+1,x,y::l=>y::ins n x l
def spR (b:B)(n p:Nat)(g:GR):Sp:=λvs H Q _=>vs.length=n/\∃W xs ds d a R,W.H=H/\vs=ins p (.ref a) xs/\W.C 0=KE a/\Wok b W [KE d]/\Rps b W.F xs ds/\g ds d R/\
 ∀e d' c x,R e d'->Le W c->(∀j,c.C j=W.C j)->Wok b c [KE d']->Rev b W c x e->Q x c.H
def vt (R:Ev->Prop)(a:Ev)(m:M):Prop:=match a with
 | .val d=>R (.val d)
 | .new d=>R (.new d)
 | .cel 0=>False
 | .cel (j+1)=>match m.cel[j+1]? with
  |some (KE d)=>R (.new d)
  |_=>False
def U6 (R:Ev->Tr->Prop)(a:Ev)(m:M):Prop:=match m.cel[0]? with
 |some (KE e)=>(match a with
   | .val d=>R (.val d) e
   | .new d=>R (.new d) e
   | .cel 0=>False
   | .cel (j+1)=>match m.cel[j+1]? with
     |some (KE d)=>R (.new d) e
     |_=>False)
 |_=>False
def locs (n:Nat)(a:List (Option Wt)):List (Option Wt):=a++aT (n - a.length) LX
abbrev vsW (ds:List Tr):List (Option Wt):=ds.map λd=>KE (.v d)
def Pm (g:GS)(n c p:Nat)(a:GP):Prop:=∀ds R,ds.length=p->a ds R->g { nx:=λm=>R (.val (.v .non)),rt:=vt R } {locs n (vsW ds),aT c LX}
def Pr (q:Nat)(g:GS)(n c p:Nat)(a:GR):Prop:=∀ds d R,ds.length+1=p->a ds d R->g { nx:=λm=>U6 R (.val (.v .non)) m,rt:=U6 R } {locs n (ins q (KE (.c 0)) (vsW ds)),KE d::aT c LX}
def Rdx (P:aV)(w:bC)(K:aF)(mg:Str->Option aE)(base:MB)(N:List Str)(x:Str)(st:MD)(f:MA)(k:Nat)(g:GS):Prop:=∀a A outer s H E,Room k (A.deeper (lW x (bq st) ‹s› f a))->VSs (xb CX0 P w K mg base N x (bq st) f a A outer s H E).nox (g6 st) g
section
variable {P:aV}{w:bC}{K:aF}{mg:Str->Option aE}{base:MB}
def G5 {a:List (Option Wt)}{n i:Nat}(h:(locs n a)[i]?=KE (KE u)):a[i]?=KE (KE u):=by
 unfold locs at h;by_cases c:i < a.length
 ·rw[bT c]at h;show h
 ·rw[cH (),dJ]at h
  split at h<;>cases h
def D6 {N:List Str}{vs:List V}{i:Nat}(h:vs[i]?=KE x):(L2.start N vs)[i]?=KE (KE x):=by
 unfold L2.start;rw[bT (by simpa using b7 h),aL,h];rfl
def Bj:(L2.start N vs).length=vs.length+(N.length - vs.length):=by
 unfold L2.start;rw[aH,aB,cA]
def Wok.cut (ok:Wok b W cel):Wok b {W.F,W.H,λ_=>LX} []:={ok.sub,λj d h=>(by simp at h),λj a h=>(by cases h),λj k a h=>(by cases h)}
def Sn (l:Le O W)(i:∀j,O.C (j+1)=LX)(rel:Rel b W m y)(r:Rev b O W x c):(∀d,c=.val d->Rev b O {W.F,W.H,λ_=>LX} x (.val d))/\(∀d,c=.new d->∃a,x=.ref a/\O.H a=LX/\W.F a=LX/\CellOk b W.F W.H a d/\∀j,W.C j≠KE a)/\
  ∀j d,c=.cel (j+1)->m.cel[j+1]?=KE (KE d)->∃a,x=.ref a/\O.H a=LX/\W.F a=LX/\CellOk b W.F W.H a d/\W.C (j+1)=KE a:=by
 show{λd e=>by subst e;show r,λd e=>?_,λj d e n=>?_}
 ·subst e;obtain⟨a,rfl,h0,f,o,p⟩:_:=r;show#v[a,rfl,h0,f,p,o]
 ·subst e;obtain⟨a,rfl,f⟩:_:=r;obtain⟨h,g,q,s⟩:_:=rel.ok.cell (j+1) d n;have u:=f h g;subst u;show{h,rfl,?_,q,s,g};rcases l.cl _ _ g with z | z
  ·rw[i]at z;cases z
  ·show z.1
def Le.cut (l:Le O W)(h:∀j a,C j=KE a->O.C j=KE a):Le O #v[W.F,W.H,C]:={l.same,l.fr,l.nw,λj a e=>.inl (h j a e),l.dm}
def fn_g {N ps:List Str}(F:Fun K x T st f fd)(S:fq N ps (bq st))
  (U:Rdx P w K mg base N T st f k g)
  (Y:Pm g N.length nc ps.length gf):FnOk P w K mg base CX0 (k+1) f fd ps (spP #v[P,w,K] ps.length gf):=by
 show F.ok S (λvs H Q E h=>h.1) λvA A outer s H vs Q E hr h=>?_;obtain⟨hl,W,ds,R,rfl,ok,z,GX,q⟩:=h;have D:∀j,W.C j=LX:=λj=>by
  cases e:W.C j with
  |none=>rfl
  |some a=>obtain⟨d,hd⟩:=ok.live j a e;simp at hd
 have n:∀{j:Nat}{d:Tr},(aT nc (LX:Option Tr))[j]?=KE (KE d)->False:=λ{j d} e=>(by rw[dJ]at e;split at e<;>cases e);have fin:∀p m b c x,vt R p m->Le W b->Rel ⟨P,w,K⟩ b m c->Rev ⟨P,w,K⟩ W b x p->Q x b.H:=λp m b c x h l rel r=>by
  have G:=rel.ok.cut;have I:Le W ⟨b.F,b.H,λ_=>LX⟩:=l.cut λj a e=>(by cases e);obtain⟨f1,f2,f3⟩:=Sn l (λj=>D (j+1)) rel r;cases p with
  |val d=>show q _ {b.F,b.H,λ_=>LX} x h I (λ_=>rfl) G (f1 d rfl)
  |new d=>
   obtain⟨a,rfl,J,L,O,_⟩:=f2 d rfl;show q _ {b.F,b.H,λ_=>LX} _ h I (λ_=>rfl) G {a,rfl,J,L,λj e=>(by cases e),O}
  |cel j=>
   cases j with
   |zero=>show h.elim
   |succ j=>
    change (match m.cel[j+1]? with | some (KE d)=>R (.new d) | _=>False)at h
    rcases e:m.cel[j+1]? with _ | _ | d
    ·rw[e]at h;show h.elim
    ·rw[e]at h;show h.elim
    ·rw[e]at h;obtain⟨a,rfl,J,L,O,_⟩:=f3 j d rfl e;show q _ {b.F,b.H,λ_=>LX} _ h I (λ_=>rfl) G {a,rfl,J,L,λj e=>(by cases e),O}
 show{_,(U vA A outer s W.H E hr).out W,W,_,_,rfl,Le.refl W,{{ok.sub,λj d h=>(n h).elim,λj a e=>(by rw[D]at e;cases e),λj k a e=>(by rw[D]at e;cases e)},λi u hu=>?_,?_},Y ds R (by rw[<-z.length];show hl) GX,λm b c h l _ rel=>fin (.val (.v .non)) m b c .non h l rel (Rp.v rfl),fin,λ_ _ _ h=>h.elim,λ_ _ _ h=>h.elim}
 ·have o:=G5 hu;rw[aL]at o;rcases e:ds[i]? with _ | d
  ·rw[e]at o;cases o
  ·rw[e]at o;cases o;obtain⟨y,hy,ry⟩:=z.get e;show{y,D6 hy,ry}
 ·change(locs N.length (vsW ds)).length=_;rw[Bj];unfold locs;rw[aH,cA,aB,z.length]
variable {X:Cx}
def Ji (ok:Wok b W cel)(l:Le {W.F,W.H,λ_=>LX} c)(h:Wok b c []):Lx W #v[c.F,c.H,W.C]/\Wok b #v[c.F,c.H,W.C] cel:=by
 show{{{l.same,λa o e _=>l.fr a o e λj z=>(by cases z),λa e n=>?_,λj a e=>.inl e,l.dm},λj a e=>e},{h.sub,λj d i=>?_,ok.live,ok.dist}}
 ·rcases l.nw a e n with z | ⟨j,z⟩ | z
  ·show .inl z
  ·cases z
  ·show .inr (.inr z)
 ·obtain⟨a,m,p,f⟩:=ok.cell j d i;show{a,m,?_,f.mono l.same λo e=>l.fr a o e λj z=>(by cases z)};cases q:c.F a with
  |none=>rfl
  |some u=>
   rcases l.nw a p (by rw[q];show λz=>by cases z)with z | ⟨j,z⟩ | ⟨o,z,r⟩
   ·obtain⟨o,g⟩:=f.has;rw[show W.H a=LX from z]at g;cases g
   ·cases z
   ·show MI r (f.nimm o z)
def zo (ok:Wok b W cel)(h:Rev b {W.F,W.H,λ_=>LX} c x f)(l:∀j,f≠.cel j)(q:∀j,c.C j=LX):Rev b W #v[c.F,c.H,W.C] x f:=by
 cases f with
 |val d=>show h
 |new d=>
  obtain⟨a,rfl,h0,m,r,n⟩:=h;show{a,rfl,h0,m,λj e=>?_,n};obtain⟨d',hd⟩:=ok.live j a e;obtain⟨s,g,_,p⟩:=ok.cell j d' hd;rw[show W.C j=KE a from e]at g;cases g;obtain⟨o,i⟩:=p.has;rw[show W.H a=LX from h0]at i;cases i
 |cel j=>show MI rfl (l j)
def K2 (R:Ev->Prop):Ev->Prop
 | .cel _=>False
 |ev=>R ev
def ahk (F:FnOk X.prog X.w X.K X.mg X.base CX0 k f fd ps (spP X.B n g))(J:Room k X.A)(L:Gl X x)(N:X.mg x=KE (.ref f))(hk:fM X.K (.ref f)=LY)(O:Binds X.K fd ps [])
  (hn:ps.length=n) (T:VA X (e::b) ga) (U:(x == ("__debug__":Str))=LZ:=by decide) (Y:aP (e::b) X.env=(LZ,eval e X.env)::aP b X.env:=by rfl) (wQ:(dU o (aP b X.env)).any (·.1)=LZ:=by rfl) :
  VE X (.Call (.Name x p) (e::b) [] o) (λm Q=>ga m λu c=>xi u λds=>ds.length=n/\g ds (K2 λr=>Q r c)):=⟨PE.sub (B5 F J L N hk O .nil yz T.out U Y wQ) λσ H Q ⟨W,m,R,hW,rel,h,q⟩=>⟨W,m,_,hW,rel,h,λu c i xs h1 l1 a r1=>by
  obtain⟨ds,D,hl,h2⟩:=o8 r1 h1;show{by rw[bY,D.length];show hl,{i.F,i.H,λ_=>LX},ds,_,rfl,a.ok.cut,by rw[bY];show D,h2,λr l y s l3 E yL G=>?_};obtain⟨l4,I⟩:=Ji a.ok l3 yL;cases r with
  |cel j=>show s.elim
  |val d=>show q _ c #v[l.F,l.H,i.C] y s (l1.trans l4) (a.lift l4 (λ_=>rfl) I) ((zo a.ok G (λj z=>nomatch z) E).old l1.toLe)
  |new d=>show q _ c #v[l.F,l.H,i.C] y s (l1.trans l4) (a.lift l4 (λ_=>rfl) I) ((zo a.ok G (λj z=>nomatch z) E).old l1.toLe)⟩⟩
end
open PyProof.Rows (envOfC)
structure Bl (mg:Str->Option aE):Prop where
 range:mg "range"=LX
 abs:mg "abs"=LX
 int:mg "int"=LX
 max:mg "max"=LX
 min:mg "min"=LX
 tuple:mg "tuple"=LX
 list:mg "list"=LX
 len:mg "len"=LX
 isinstance:mg "isinstance"=LX
 enumerate:mg "enumerate"=LX
 sum:mg "sum"=LX
 all:mg "all"=LX
 any:mg "any"=LX
 zip:mg "zip"=LX
 reversed:mg "reversed"=LX
 set:mg "set"=LX
 sorted:mg "sorted"=LX
 dict:mg "dict"=LX
 bool:mg "bool"=LX
structure Fd (K:aF)(mg:Str->Option aE)(x:Str)(st:MD)(ps:List Str)(f:MA)(fd:gB):Prop where
 fn:Fun K x x st f fd
 at_:mg x=KE (.ref f)
 bd:Binds K fd ps []
structure Fo (P:aV)(w:bC)(K:aF)(mg:Str->Option aE)(base:MB)(k:Nat)(x:Str)(ps:List Str)(sp:Sp):Prop where
 ex:∃f fd,FnOk P w K mg base CX0 k f fd ps sp/\mg x=KE (.ref f)/\fM K (.ref f)=LY/\Binds K fd ps []
section
variable {P:aV}{w:bC}{K:aF}{mg:Str->Option aE}{base:MB}{X:Cx}
def Fo.of (F:Fd K mg x st ps f fd)(h:FnOk P w K mg base CX0 k f fd ps sp):Fo P w K mg base k x ps sp:=#v[f,fd,h,F.at_,F.fn.kp,F.bd]
def ar (n:Nat)(g:GP)(ga:GA):GE:=λm Q=>ga m λa b=>xi a λds=>ds.length=n/\g ds (K2 λc=>Q c b)
def vc (F:Fo X.prog X.w X.K X.mg X.base i x ps (spP X.B n g))(j:Room k X.A)(l:VA X (e::d) ga)(hk:i<=k:=by decide)(m:ps.length=n:=by rfl)(o:Gl X x:=by rfl)
  (q:(x == ("__debug__":Str))=LZ:=by decide) (r:aP (e::d) X.env=(LZ,eval e X.env)::aP d X.env:=by rfl) (s:(dU h (aP d X.env)).any (·.1)=LZ:=by rfl) :
  VE X (.Call (.Name x p) (e::d) [] h) (ar n g ga):=by
 obtain⟨f,fd,F,a,b,c⟩:=F;show ahk F (j.mono hk) o a b c m l q r s
def vf (F:Fd K mg x st ps f fd)(S:fq N ps (bq st))
  (a:Rdx P w K mg base N x st f k g)
  (b:Pm g N.length nc ps.length c):Fo P w K mg base (k+1) x ps (spP #v[P,w,K] ps.length c):=
 .of F (fn_g F.fn S a b)
def v_ (i:Nat)(a:X.N[i]?=KE x:=by rfl)(b:Vis X.env.scope x:=by first | show aS rfl | show fA (aS rfl) | show fA (fA rfl))(hd:(x == ("__debug__":Str))=LZ:=by decide)
  (c:(x == ("__classdict__":Str))=LZ:=by decide):VE X (.Name x d) (aa i):=akp a b hd c
end
abbrev gI (i:Int):GE:=gC (.v (.int i))
abbrev gS (x:Str):GE:=gC (.v (.str x))
abbrev gX (f g:GE):GE:=gOp ixG f g
abbrev gA1 (f:GE):GA:=gaV f gaN
open PyProof.Rows (envOfC)
section
variable {X:Cx}
def ic (nd:([a]++ys).Nodup:=by decide +kernel)
  (d:Loc (cxC X ([a]++ys) b cl C s H c).env.scope a:=by show aS rfl) (e:(cxC X ([a]++ys) b cl C s H c).env.scope.names.lookup a=KE .local:=by rfl):VG (cxC X ([a]++ys) b cl C s H c) (.Name a f) (.one 0):=#v[mj (i:=0) nd rfl d (.inr e)]
def xl (e:X.calm=LY)(nd:([a,b]++ys).Nodup:=by decide +kernel)
  (f:Loc (cxC X ([a,b]++ys) c cl C s H d).env.scope a:=by show aS rfl) (g:Loc (cxC X ([a,b]++ys) c cl C s H d).env.scope b:=by show aS rfl)
  (h:(cxC X ([a,b]++ys) c cl C s H d).env.scope.names.lookup a=KE .local:=by rfl) (i:(cxC X ([a,b]++ys) c cl C s H d).env.scope.names.lookup b=KE .local:=by rfl) :
  VG (cxC X ([a,b]++ys) c cl C s H d) (.Tuple [.Name a j,.Name b l] k m) (.tup [0,1]):=#v[pg2 e nd f g h i]
def vg2 (d:X.calm=LY)(c:X.N.Nodup)(hi:X.N[i]?=KE a)(e:X.N[j]?=KE b)(f:Loc X.env.scope a)(g:Loc X.env.scope b)(h:X.fn a=LY:=by rfl)(l:X.fn b=LY:=by rfl):VG X (.Tuple [.Name a m,.Name b n] k o) (.tup [i,j]):=#v[Wj d (qo (mj (i:=i) c hi f (.inl h)) (qo (mj (i:=j) c e g (.inl l)) Gg))]
def vg2l (d:X.calm=LY)(c:X.N.Nodup)(hi:X.N[i]?=KE a)(e:X.N[j]?=KE b)(f:Loc X.env.scope a)(g:Loc X.env.scope b)(h:X.fn a=LY:=by rfl)(l:X.fn b=LY:=by rfl):VG X (.Tuple [.Name a m,.Name b n] k o) (.lst [i,j]):=#v[akd d (qo (mj (i:=i) c hi f (.inl h)) (qo (mj (i:=j) c e g (.inl l)) Gg))]
end
def xm (h:1 < n:=by decide):zi n (.tup [0,1]):=λi hi=>by
 rcases aU.mp hi with rfl | hi
 ·lia
 ·cases aZ.mp hi;show h
section
variable {α:Type}
theorem So (I:Nat->M):∀(xs:List α)(n:Nat),(∀i x (N:M->Prop),xs[i]?=KE x->N (I (n+i+1))->gTg t (enc x) (I (n+i)) λm2=>g { E with nx:=λa=>N (fgt L a),ct:=λa=>N (fgt L a),bk:=E.nx } m2)->E.nx (I (n+xs.length))->gu L t g E (xs.map enc) (I n)
 | [],n,_,h=>h
 |x::xs,n,hs,h=>hs 0 x _ rfl (by
     show So I xs (n+1) (λi y N b c=>?_) (by rw[show n+1+xs.length=n+(x::xs).length by rw[bA];lia];show h);have z:=hs (i+1) y N (by simpa using b) (by rw[show n+(i+1)+1=n+1+i+1 by lia];show c);rw[show n+(i+1)=n+1+i by lia]at z;show z)
def tf {E:wt}{xs:List α}(I:Nat->M)(h0:m=I 0)(hs:∀i x (N:M->Prop),xs[i]?=KE x->N (I (i+1))->gTg t (enc x) (I i) λm2=>g { E with nx:=λa=>N (fgt L a),ct:=λa=>N (fgt L a),bk:=E.nx } m2)(h:E.nx (I xs.length)):gu L t g E (xs.map enc) m:=by
 subst h0;show So I xs 0 (λi x N c b=>by rw[fH]at b ⊢;show hs i x N c b) (by rw[fH];show h)
theorem Mn (I:Nat->M->Prop):∀(xs:List α)(n:Nat) {m:M},I n m->(∀i x (m:M) (N:M->Prop),xs[i]?=KE x->I (n+i) m->(∀b,I (n+i+1) b->N b)->gTg t (enc x) m λm2=>g { E with nx:=λa=>N (fgt L a),ct:=λa=>N (fgt L a),bk:=E.nx } m2)->(∀m,I (n+xs.length) m->E.nx m)->gu L t g E (xs.map enc) m
 | [],n,m,h0,_,h=>h m h0
 |x::xs,n,m,h0,hs,h=>hs 0 x m _ rfl h0 λb h'=>by
   show Mn I xs (n+1) h' (λi y m2 N c hi d=>?_) (λm2 e=>h m2 (by rw[show n+(x::xs).length=n+1+xs.length by rw[bA];lia];show e));show hs (i+1) y m2 N (by simpa using c) (by rw[show n+(i+1)=n+1+i by lia];show hi) λa f=>d a (by rw[show n+1+i+1=n+(i+1)+1 by lia];show f)
def du {E:wt}{xs:List α}(I:Nat->M->Prop)(h0:I 0 m)(hs:∀i x (m:M) (N:M->Prop),xs[i]?=KE x->I i m->(∀b,I (i+1) b->N b)->gTg t (enc x) m λm2=>g { E with nx:=λa=>N (fgt L a),ct:=λa=>N (fgt L a),bk:=E.nx } m2)(h:∀m,I xs.length m->E.nx m):gu L t g E (xs.map enc) m:=
 Mn I xs 0 h0 (λi x m N d hi c=>hs i x m N d (by rw[fH]at hi;show hi) (by rw[fH]at c;show c)) (by rw[fH];show h)
theorem cw (b:h8 cel loc=LY):∀(xs:List α)(a:List Tr),a.length+xs.length<=1000000->
  (∀x∈xs,∀Y:Tr->List (Option Tr)->Prop,Y (out x) cel->gTg t (enc x) {aT k LX++k9 loc fr,cel} λm2=>f m2 λe m4=>fz m4 e λd g=>Y d g.cel)->Q (a++xs.map out) #v[loc,cel]->df k fr t cu f loc Q (xs.map enc) a cel
 | [],a,_,_,q=>by rw[gW,bY]at q;show q
 |x::xs,a,h,hs,q=>by
  rw[bA]at h;show{(),?_};show hs x aN (λd c=>h8 c loc=LY/\df k fr t cu f loc Q (xs.map enc) (a++[d]) c) {b,?_};show cw b xs (a++[out x]) (by rw[aH,cK];lia) (λy i=>hs y (aI _ i)) ?_;rw[dD];show q
theorem jj (g:h8 cel loc=LY):∀(xs:List α)(a:List Tr),a.length+xs.length<=1000000->
  (∀x∈xs,∀(Y:Tr->List (Option Tr)->Prop)(Z:List (Option Tr)->Prop),(p x=LY->Y (out x) cel)->(p x=LZ->Z cel)->gTg t (enc x) {aT k LX++k9 loc fr,cel} λm2=>c m2 λb j=>if b=LY then f j λl m4=>fz m4 l λd m=>Y d m.cel else Z j.cel)->
  Q (a++(xs.filter p).map out) #v[loc,cel]->df k fr t c f loc Q (xs.map enc) a cel
 | [],a,_,_,q=>by rw[List.filter_nil,gW,bY]at q;show q
 |x::xs,a,n,hs,q=>by
  rw[bA]at n;show{(),?_};show hs x aN (λd e=>h8 e loc=LY/\df k fr t c f loc Q (xs.map enc) (a++[d]) e) (λe=>h8 e loc=LY/\df k fr t c f loc Q (xs.map enc) a e) (λh=>{g,?_}) (λh=>{g,?_})
  ·show jj g xs (a++[out x]) (by rw[aH,cK];lia) (λy i=>hs y (aI _ i)) ?_;rw[dD];rw[List.filter_cons_of_pos h]at q;show q
  ·show jj g xs a () (λy i=>hs y (aI _ i)) ?_;rw[List.filter_cons_of_neg (by rw[h];show aQ)]at q;show q
def vv (n:Nat):iz 0 n=(bG n).map λi:Nat=>Tr.v (.int (i:Int)):=by
 unfold iz;congr 1
 funext i
 rw[Int.zero_add]
end
section
variable {X:Cx}
def gRev (f g:GE):GE:=λm Q=>f m λa b=>g b λc m2=>lk m2 a λd=>match d,c with
 | .tup l,.val (.v (.int i))=>i=-1/\Q (.val (.tup l.reverse)) m2
 |_,_=>False
def alh (l:VE X e f)(hs:VE X st g):VE X (.Subscript e (.Slice LX LX (KE st) L) n) (gRev f g):=⟨PE.sub (afy l.out hs.out) λN H Q ⟨W,m,R,o,rel,h,q⟩=>⟨W,m,_,o,rel,h,λc p r x s l1 u w=>⟨r,p,_,rfl,u,s,λO m2 W2 y A l2 i C=>by
  obtain⟨d,D,b⟩:_:=gx i.ok (w.mono l2) A
  split at b
  · obtain⟨rfl,b⟩:_:=b;cases(Rp.vI C).1;obtain⟨a,xs,rfl,E,G⟩:_:=D.tup i.ok.sub;show{rfl,a,xs,rfl,E,Ca (R:=λc=>R c m2) i.ok (λc I z h5 j J=>q c m2 I z h5 (l1.trans (l2.trans j.lx)) (i.lift j.lx j.cs j.ok) (J.old (l1.trans l2).toLe)) b G.reverse}
  · show b.elim⟩⟩⟩
def U7 (o:Int->Int->Int)(i:Nat)(f:GE):GS:=λE m=>match m.loc[i]? with
 |some (KE (.v (.v (.int a))))=>f m λd c=>(match d with
   | .val (.v (.int b))=>E.nx {c.loc.set i (KE (.v (.v (.int (o a b))))),c.cel}
   |_=>False)
 |_=>False
def Mp (h:lfS b O (U7 o i f) D d H):tAug i (lf b f) (ipI o) D d H:=by
 obtain⟨W,m,E,g,l,rel,h,n,_⟩:=h;unfold U7 at h
 split at h
 ·rename_i a e
  obtain⟨x,j,p⟩:=rel.loc i _ e;cases(Rp.vI p).1;show{_,j,W,m,_,g,rel,h,λu z q y c l1 r s=>?_}
  split at c
  ·cases(Rp.vI s).1;show{_,_,rfl,rfl,n _ q _ c (l.trans l1.toLe) l1.same (r.set (w:=.v _) (Rp.v rfl))}
  ·show c.elim
 ·show h.elim
def ip_or:PIp X .BitOr (ipI λi j=>dW i j):=by
 intro c s d H x y v u Q I a b h;obtain⟨i,j,rfl,rfl,q⟩:_:=h;obtain⟨t,rfl⟩:_:=a;obtain⟨t',rfl⟩:_:=b;show PyProof.Rows.ior_int {.int _,H,I.tok _,{_,rfl},q}
def ali:PIp X .BitXor (ipI λi j=>jQ i j):=by
 intro c s d H x y v u Q I a b h;obtain⟨i,j,rfl,rfl,q⟩:_:=h;obtain⟨t,rfl⟩:_:=a;obtain⟨t',rfl⟩:_:=b;show PyProof.Rows.ixor_int {.int _,H,I.tok _,{_,rfl},q}
abbrev Jj:Nat->GE->GS:=U7 λi j=>dW i j
abbrev Fh:Nat->GE->GS:=U7 λi j=>jQ i j
def Pc (a:X.N.Nodup)(hi:X.N[i]?=KE x)(b:Loc X.env.scope x)(c:VE X e f)(d:X.fn x=LY\/X.env.scope.names.lookup x=KE .local:=by first | show .inl rfl | show .inr rfl | assumption):VS X (.AugAssign (.Name x j) .BitOr e g) (Jj i f):=#v[λO=>PS.sub (Wl a hi b c.out ip_or d) λ_ _ _ h=>Mp h]
def Mq (a:X.N.Nodup)(hi:X.N[i]?=KE x)(b:Loc X.env.scope x)(c:VE X e f)(d:X.fn x=LY\/X.env.scope.names.lookup x=KE .local:=by first | show .inl rfl | show .inr rfl | assumption):VS X (.AugAssign (.Name x j) .BitXor e g) (Fh i f):=#v[λO=>PS.sub (Wl a hi b c.out ali d) λ_ _ _ h=>Mp h]
abbrev yg:GS:=λ_ _=>False
structure Gc (b:B)(mg:Str->Option aE)(x:Str)(d:Tr):Prop where
 ex:∃v u,mg x=KE u/\RelV v u/\∀F,Rp b F v d
def vgl (h:Gc X.B X.mg x d)(b:Gl X x:=by rfl)(hd:(x == ("__debug__":Str))=LZ:=by decide):VE X (.Name x c) (gC d):=by
 obtain⟨v,u,a,r,k⟩:=h;show agu b a r k hd
section
variable {κ:Type}[DecidableEq κ]
def iq (ks:List κ)(l:List Tr)(k:κ):Option Tr:=((ks.zip l).find? λp=>decide (p.1=k)).map (·.2)
def ir (ks:List κ)(k:κ):List κ:=if k∈ks then ks else ks++[k]
def je (ks:List κ)(l:List Tr)(k:κ)(d:Tr):List Tr:=if k∈ks then qR (λa d'=>if a=k then d else d') ks l else l++[d]
variable {ε:Type}{key:ε->κ}{val:ε->V}{b:B}{F:Hp}
theorem Cj (k:κ):∀{L:List ε}{l:List Tr},Rps b F (L.map val) l->(∀d,iq (L.map key) l k=KE d->∃x,(L.find? λe=>decide (key e=k)).map val=KE x/\Rp b F x d)/\((L.find? λe=>decide (key e=k)).isSome=decide (k∈L.map key))
 | [],[],.nil=>{λd h=>(by cases h),by simp}
 |e::L,d::l,.cons h r=>by
  obtain⟨a,f⟩:=Cj k (L:=L) r;by_cases c:key e=k
  ·show{λd' h'=>?_,by simp[dI,c]};have z:iq ((e::L).map key) (d::l) k=KE d:=(by simp[iq,dI,c]);rw[z]at h';cases h';show{val e,by simp[dI,c],h}
  ·show{λd' h'=>?_,?_}
   ·have z:iq ((e::L).map key) (d::l) k=iq (L.map key) l k:=(by simp[iq,dI,c]);rw[z]at h';obtain⟨x,g,i⟩:=a d' h';show{x,by rw[dI];simp only[MG c];show g,i}
   ·have:¬k=key e:=λz=>c z.symm;rw[dI];simp only[MG c];rw[f];simp[this]
theorem Yo (k:κ)(a:Rp b F y d)(f:∀e,val (g e)=if key e=k then y else val e):∀{L:List ε}{l:List Tr},Rps b F (L.map val) l->Rps b F ((L.map g).map val) (qR (λi d'=>if i=k then d else d') (L.map key) l)
 | [],[],.nil=>.nil
 |e::L,d'::l,.cons h r=>by
  show .cons ?_ (Yo k a f r);change Rp b F (val (g e)) (if key e=k then d else d')
  rw[f];by_cases c:key e=k
  ·rw[ME c,ME c];show a
  ·rw[MF c,MF c];show h
def ql (k:κ)(a:Rp b F y d)(h0:key e0=k)(f:val e0=y)(hk:∀e,key (g e)=key e)(h:∀e,val (g e)=if key e=k then y else val e){L L':List ε}(r:Rps b F (L.map val) l)
  (e:L'=if (L.find? λe=>decide (key e=k)).isSome=LY then L.map g else L++[e0]):ir (L.map key) k=L'.map key/\Rps b F (L'.map val) (je (L.map key) l k d):=by
 have z:=(Cj (key:=key) (val:=val) k r).2;unfold ir je;subst e;by_cases c:k∈L.map key
 ·rw[z,MH c,ME rfl,ME c,ME c];show{?_,Yo k a h r};rw[dO];congr 1
  funext e
  show(hk e).symm
 ·rw[z,MG c,MF aQ,MF c,MF c];show{by rw[bE,List.map_singleton,h0],?_};rw[bE,List.map_singleton,f];show r.append (.cons a .nil)
end
def itT:I2->Tr
 | .inl i=>.v (.int i)
 | .inr l=>tI l
def Mr (h:SqT b.K F a xs)(r:Rps b F xs (k.map itT)):KeyAt b.K F a k:=by
 show{xs,h,?_};clear h
 induction k generalizing xs with
 |nil=>cases r;show .nil
 |cons i k d=>
  cases r with
  |cons h r=>
   show .cons ?_ (d r);cases i with
   |inl i=>show(Rp.vI h).1
   |inr l=>
    obtain⟨c,ys,rfl,e,f⟩:=Rp.tupI h;cases f.flat;show#v[c,rfl,e]
def setG:Tr->Tr->Tr->(Tr->Prop)->Prop
 | .lst l,.v (.int k),e,R=>ku (ixN l.length k) λn=>R (.lst (l.set n e))
 | .dk ks l,.v (.int i),e,R=>ks.length < 1000000/\R (.dk (ir ks (.inl i)) (je ks l (.inl i) e))
 | .dct ks l,.tup t,e,R=>∃k:List I2,t=k.map itT/\ks.length < 1000000/\R (.dct (ir ks k) (je ks l k e))
 |_,_,_,_=>False
def rSetG (b:B):K8:=λo i v H Q=>∃W cel j a d k e R,W.H=H/\Wok b W cel/\o=.ref a/\W.C j=KE a/\cel[j]?=KE (KE d)/\Top b W i k/\Rp b W.F v e/\setG d k e R/\
 ∀d' c,R d'->Lx W c->(∀j,c.C j=W.C j)->Wok b c (cel.set j (KE d'))->Q c.H
def ahl (hu:X.A.units+64 < dP):Tn X (rSetG X.B):=by
 intro Y s σ H o i v z iv u Q I C D E h;obtain⟨W,cel,j,a,d,k,e,R,rfl,ok,rfl,p,hd,G,J,h,q⟩:_:=h;unfold setG at h
 split at h
 ·obtain⟨xs,g1,r⟩:_:=ok.lst p hd;cases G.v;obtain⟨n,hn,h⟩:_:=ja h;obtain⟨l3,L⟩:_:=j7 (d':=.lst _) (o:=.lst (xs.set n v)) ok p hd {_,bo,r.set J n};show Lh Y s σ W.H _ _ v z iv u Q I C D E {a,xs,_,n,rfl,rfl,g1,by rw[r.length];show hn,q _ _ h l3 (λ_=>rfl) L}
 ·cases G.v;cases(show z=bZ a from C);obtain⟨a',y,q2,kvs,g1,rfl,r⟩:_:=ok.cell j _ hd;rw[p]at y;cases y;obtain⟨hz,h⟩:_:=h
  rename_i b
  obtain⟨N,O⟩:_:=ql (key:=λm:Key×V=>m.1) (val:=λm=>m.2) (Sum.inl b) J (g:=λm=>if m.1=Sum.inl b then (m.1,v)else m) (e0:=(Sum.inl b,v)) rfl rfl (λe=>by split<;>rfl) (λe=>by split<;>rfl) r (L':=pq kvs (Sum.inl b) v) (by
    unfold pq;rw[Dq];unfold oq;rw[gO])
  obtain⟨l3,L⟩:_:=j7 (d':=.dk (ir (kvs.map (·.1)) (Sum.inl b)) (je (kvs.map (·.1)) _ (Sum.inl b) _)) (o:=.dK (pq kvs (Sum.inl b) v)) ok p hd {_,bo,N,O};show Xp () I (DPut.k (k:=Sum.inl b) g1 (by rw[<-aB (f:=(·.1))];show bO hz (by decide))) D E λs' I'=>{_,I',q _ _ h l3 (λ_=>rfl) L}
 ·obtain⟨l,rfl,hz,h⟩:_:=h;obtain⟨c,ys,rfl,t1,t2⟩:_:=Rp.tupI G;obtain⟨a',y,q2,kvs,KI,g1,T,gz,gs,rfl,r⟩:_:=ok.cell j _ hd;rw[p]at y;cases y;have kt:=Mr t1 t2;have dd:DictAt X.prog X.w X.K W.H a kvs:={#v[KI,g1],λx hx=>j5 (T x hx) ok.sub,gz,gs};obtain⟨N,O⟩:_:=ql (key:=λe:List I2×MA×V=>e.1) (val:=λe=>e.2.2) l J (g:=λe=>if e.1=l then (e.1,e.2.1,v)else e) (e0:=(l,c,v)) rfl rfl (λe=>by split<;>rfl) (λe=>by split<;>rfl) r (L':=ny kvs l c v) (by
    unfold ny atK;rw[gO])
  have st:=λep=>j7 (d':=.dct (ir (kvs.map (·.1)) l) (je (kvs.map (·.1)) _ l _)) (o:=jk X.prog X.w a ep (ny kvs l c v)) ok p hd ⟨_,ep,bo,λe he=>by
      rcases Ul he with⟨z1,U⟩ | z1
      · rcases U with U | ⟨e',BU,z3,z4⟩
        · rw[z1,U];show kt
        · have:=T e' BU;rw[z3,z4]at this;rw[z1];show this
      · show T e z1,bL (Uk _ _ _ _) (by
        have:kvs.length < 1000000:=(by rw[<-aB (f:=(·.1))];show hz);show bL this (by decide)),gs,N,O⟩
  show Xr rfl rfl rfl () Y s σ W.H _ _ v z iv u Q I C D E ⟨a,kvs,c,l,rfl,rfl,dd,j5 kt ok.sub,by rw[<-aB (f:=(·.1))];show bO hz (by decide),λep=>q _ _ h (st ep).1 (λ_=>rfl) (st ep).2⟩
 ·show h.elim
def qw (i:Nat)(f g:GE):GS:=λE m=>f m λb h=>fz h b λe m2=>match m2.loc[i]? with
 |some (KE (.c j))=>g m2 λl a=>lk a (.cel j) λd=>lk a l λk=>setG d k e λd'=>E.nx {a.loc,a.cel.set j (KE d')}
 |_=>False
def ki (G:X.N[i]?=KE x)(I:Vis X.env.scope x)(J:X.A.units+64 < dP)(L:VE X e f)(hk:VE X k g)(hs:rX [.Subscript (.Name x p) k b] e q.line X.env=pure LZ:=by rfl)(hw:rY [.Subscript (.Name x p) k b] e X.env=pure LX:=by rfl)
  (r:(jK [.Subscript (.Name x p) k b] X.env).map (·.2)=[lR (.Subscript (.Name x p) k b) X.env]:=by rfl)
  (Q:∀v,lR (.Subscript (.Name x p) k b) X.env v=(do
    let c <-jZ [v] (eval (.Name x p) X.env)
    let iv <-jZ [v,c] (eval k X.env)
    oX b
    jZ [v,c,iv] (uP c iv v)
    release [v,c,iv] []):=by intro _;rfl) (hd:(x == ("__debug__":Str))=LZ:=by decide) (T:(x == ("__classdict__":Str))=LZ:=by decide) :
  VS X (.Assign [.Subscript (.Name x p) k b] e q) (qw i f g):=⟨λO=>PS.sub (La L.out (Wk (kf G I hd T) hk.out (ahl J) Q) hs hw r) λD σ H ⟨W,m,E,U,l,rel,h,n,_⟩=>⟨W,m,_,U,rel,h,λev m1 W1 y r l1 Y r1=>by
obtain⟨d0,m2,W2,s,l2,e2,w,r2⟩:=mv l1 Y r1 r
split at s
· rename_i j hj
  obtain⟨z,q1,a,rfl,ca⟩:=w.loc i _ hj;show{_,q1,?_};rw[<-e2];show{W2,m2,_,rfl,w,s,λek m3 W3 kx h3 l3 o r3=>?_};obtain⟨d,hd,h4⟩:=vk h3;obtain⟨kt,tk,h5⟩:=gx o.ok r3 h4;obtain⟨u,C,_⟩:=o.ok.cell j d hd;have ea:u=a:=(by have:=l3.cx j u C;rw[ca]at this;cases this;rfl);subst ea;show{W3,m3.cel,j,u,d,kt,d0,_,rfl,o.ok,rfl,C,hd,tk,Rp.mono l3.same r2,h5,λd' W' h6 l4 cs CA=>n _ W' _ h6 (l.trans (l2.trans (l3.trans l4)).toLe) (Same.tr l2.same (Same.tr l3.same l4.same)) (o.setc l4 cs CA)}
· show s.elim⟩⟩
def aer:GE:=λm Q=>Q (.new (.dk [] [])) m
def aes:GE:=λm Q=>Q (.new (.dct [] [])) m
def ahm:VE X (.Dict [] [] a) aer:=⟨PE.sub aau λg H Q ⟨W,m,R,b,rel,h,q⟩ p c=>by
  subst b;obtain⟨l2,e,f⟩:=o7 (d:=.dk [] []) (o:=.dK []) rel.ok c {[],bo,rfl,.nil};show q _ m _ _ h l2 (rel.lift l2 (λ_=>rfl) e) f⟩
def ahn:VE X (.Dict [] [] a) aes:=⟨PE.sub (aay rfl rfl) λj H Q ⟨W,m,R,b,rel,h,q⟩ p ep c hs=>by
  subst b;obtain⟨l2,f,g⟩:=o7 (d:=.dct [] []) (o:=jk X.prog X.w p ep []) rel.ok c {[],ep,bo,(λe i=>nomatch i),cT _,hs,rfl,.nil};show q _ m _ _ h l2 (rel.lift l2 (λ_=>rfl) f) g⟩
def ixD:G2
 | .dk ks l,.v (.int i),R=>ku (iq ks l (.inl i)) λd=>R (.val d)
 | .dct ks l,.tup t,R=>∃k:List I2,t=k.map itT/\ku (iq ks l k) λd=>R (.val d)
 |x,y,R=>ixG x y R
def Sr {b:B}{W:Wd}{k:List I2}{x:V}(ok:Same W.F W.H)(t:Top b W x (.tup (k.map itT))):∃c,x=.ref c/\KeyAt b.K W.H c k:=by
 obtain⟨c,ys,rfl,a,d⟩:=Rp.tupI t;show{c,rfl,j5 (Mr a d) ok}
def alj (G:X.A.units+64 < dP):IxR X (rG X.B ixD):=by
 intro value slice r s w H x y v u Q I b f h hs;obtain⟨W,cel,J,L,R,rfl,ok,j,ty,h,q⟩:=h;unfold ixD at h
 split at h
 ·rename_i ks l i
  obtain⟨a,kvs,rfl,g1,rfl,m⟩:=j;cases ty.v;cases(show v=bZ a from b);obtain⟨d,e,h⟩:=ja h;obtain⟨z,n,o⟩:=(Cj (key:=λp:Key×V=>p.1) (val:=λp=>p.2) (Sum.inl i) m).1 d e;have g:DGet W.H a (.int i) (KE z):=by
   have:=DGet.k (k:=Sum.inl i) g1;rw[show oq kvs (Sum.inl i)=KE z from n]at this;show this
  show PyProof.Rows.tail_any (O6 I g) PySem.F.slot_dict_getitem.lookup (Xo () I g f λN s' C D=>{z,W.H,C,D,q _ W z h (After.refl ok) o}) hs
 ·obtain⟨k,rfl,h⟩:=h;obtain⟨a,kvs,rfl,g1,O,rfl,m⟩:=j;obtain⟨c,rfl,E⟩:=Sr ok.sub ty;obtain⟨d,e,h⟩:=ja h;obtain⟨z,n,o⟩:=(Cj (key:=λe:List I2×MA×V=>e.1) (val:=λe=>e.2.2) k m).1 d e;show aax rfl rfl rfl () value slice r s w W.H _ _ v u Q I b f {a,kvs,c,k,z,rfl,rfl,g1,E,n,q _ W z h (After.refl ok) o} hs
 ·show aen value slice r s w W.H x y v u Q I b f {W,cel,_,_,R,rfl,ok,j,ty,h,q} hs
def gj (c:X.A.units+64 < dP)(d:VE X a fa)(e:VE X b f)(hs:Gm b:=by show λ_ _=>rfl):VE X (.Subscript a b g) (gOp ixD fa f):=#v[PE.sub (Kw (alj c) d.out e.out hs) λ_ _ _ h=>ya h]
def ky {a:Type}[DecidableEq a](ks:List a)(k:a):Bool:=ks.any λx=>decide (x=k)
theorem D7 {a ε:Type}[DecidableEq a]{key:ε->a}(k:a):∀(L:List ε),(L.find? λe=>decide (key e=k)).isSome=ky (L.map key) k
 | []=>rfl
 |e::L=>by
  have b:=D7 (key:=key) k L;unfold ky at b ⊢;rw[bB,jG,<-b,dI];by_cases c:key e=k
  ·simp[c]
  ·simp[c]
def inD (a:Bool):G2
 | .v (.int i),.dk ks _,R=>R (.val (.v (.bl (if a then !ky ks (Sum.inl i)else ky ks (Sum.inl i)))))
 | .tup t,.dct ks _,R=>∃k:List I2,t=k.map itT/\R (.val (.v (.bl (if a then !ky ks k else ky ks k))))
 |x,y,R=>inG a x y R
def Bk (m:X.A.units+64 < dP):OpG X (eP .NotIn) (inD LY):=by
 intro g s j H x y v u Q I b d h;obtain⟨W,cel,w,z,R,rfl,ok,f,ty,h,q⟩:=h;unfold inD at h
 split at h
 ·rename_i i ks l
  obtain⟨a,kvs,rfl,g1,rfl,n⟩:=ty;cases f.v;cases(show u=bZ a from d);show agg () I (DGet.k (k:=Sum.inl i) g1) b λs' o=>{.bl _,W.H,o,rfl,?_};rw[show(oq kvs (Sum.inl i)).isSome=ky (kvs.map (·.1)) (Sum.inl i)by unfold oq;rw[gO];show D7 (key:=λp:Key×V=>p.1) _ _];show q _ W _ h (After.refl ok) (Rp.v rfl)
 ·obtain⟨k,rfl,h⟩:=h;obtain⟨a,kvs,rfl,g1,C,rfl,n⟩:=ty;obtain⟨c,rfl,r⟩:=Sr ok.sub f;show Xq rfl rfl rfl () g s j W.H _ _ v u Q I b d {c,k,a,kvs,rfl,rfl,r,g1,?_};rw[show(atK kvs k).isSome=ky (kvs.map (·.1)) k by unfold atK;rw[gO];show D7 (key:=λe:List I2×MA×V=>e.1) _ _];show q _ W _ h (After.refl ok) (Rp.v rfl)
 ·show abo m g s j W.H x y v u Q I b d {W,cel,_,_,R,rfl,ok,f,ty,h,q}
end
open PyProof.Rows (envOfC)
section
variable {P:aV}{w:bC}{K:aF}{mg:Str->Option aE}{base:MB}{X:Cx}
theorem yh:∀{p l},(ins p x l).length=l.length+1
 |0,_=>rfl
 |p+1,[]=>rfl
 |p+1,y::l=>by change(ins p x l).length+1=_;rw[yh];rfl
theorem Ss:∀{p:Nat}{xs:List V}{ds:List Tr},Rps b F xs ds->∀{i:Nat}{u:Wt},(ins p (KE (Wt.c 0)) (vsW ds))[i]?=KE (KE u)->∃x,(ins p (V.ref a) xs)[i]?=KE x/\((u=.c 0/\x=.ref a)\/∃d,u=.v d/\Rp b F x d)
 |0,xs,ds,r,0,u,h=>by
  have h':KE (KE (Wt.c 0))=KE (KE u):=h;cases h';show{_,rfl,.inl #v[rfl,rfl]}
 |0,xs,ds,r,i+1,u,h=>by
  have h':(vsW ds)[i]?=KE (KE u):=h;rw[aL]at h';rcases e:ds[i]? with _ | d
  ·rw[e]at h';cases h'
  ·rw[e]at h';cases h';obtain⟨y,f,g⟩:_:=r.get e;show{y,f,.inr #v[d,rfl,g]}
 |p+1,_,_,.nil,i,u,h=>by
  have h':([KE (Wt.c 0)]:List (Option Wt))[i]?=KE (KE u):=h;cases i with
  |zero=>cases h';show{_,rfl,.inl #v[rfl,rfl]}
  |succ i=>simp at h'
 |p+1,_,_,.cons k r,0,u,h=>by
  have h':KE (KE (Wt.v _))=KE (KE u):=h;cases h';show{_,rfl,.inr {_,rfl,k}}
 |p+1,_,_,.cons k r,i+1,u,h=>Ss (p:=p) r (i:=i) (u:=u) h
def fn_r (F:Fun K x vC st f fd)(S:fq N ps (bq st))
  (hb:Rdx P w K mg base N vC st f k g)
  (hg:Pr p g N.length nc ps.length gf):FnOk P w K mg base CX0 (k+1) f fd ps (spR #v[P,w,K] ps.length p gf):=by
 show F.ok S (λvs H Q E h=>h.1) λvA A outer s H vs Q E hr h=>?_;obtain⟨hl,W,xs,ds,d,a,R,rfl,rfl,c0,ok,O,GX,q⟩:=h;have hN:∀j,W.C (j+1)=LX:=λj=>by
  cases e:W.C (j+1)with
  |none=>rfl
  |some a=>obtain⟨d',hd⟩:=ok.live (j+1) a e;simp at hd
 have fin:∀G D m o x,U6 R G D->Le W m->Rel ⟨P,w,K⟩ m D o->Rev ⟨P,w,K⟩ W m x G->Q x m.H:=λG D m o x h l rel r=>by
  unfold U6 at h
  split at h
  ·rename_i e he
   obtain⟨T,U,k1,k2⟩:=rel.ok.cell 0 e he;have ea:W.C 0=KE T:=by
    rcases l.cl 0 T U with z | z
    ·show z
    ·show MI rfl z.2
   have I:∀j,(if j=0 then m.C 0 else LX)=W.C j:=λj=>by
    cases j with
    |zero=>rw[ME rfl,U,ea]
    |succ j=>rw[MF (),hN j]
   have Y:Le W ⟨m.F,m.H,λj=>if j=0 then m.C 0 else LX⟩:=l.cut λj b e=>by rw[<-I j];show e
   have zV:Wok ⟨P,w,K⟩ ⟨m.F,m.H,λj=>if j=0 then m.C 0 else LX⟩ [KE e]:=⟨rel.ok.sub,λj d' hj=>(by
     cases j with
     |zero=>cases hj;show#v[T,U,k1,k2]
     |succ j=>simp at hj),λj b e=>(by
     cases j with
     |zero=>show{_,rfl}
     |succ j=>
       have J:(if j+1=0 then m.C 0 else LX)=KE b:=e
       rw[MF (qS j)]at J;cases J),λj k b e J=>by
     have n:∀{j},(if j=0 then m.C 0 else LX)=KE b->j=0:=λ{j} z=>by
       cases j with
       |zero=>rfl
       |succ j=>rw[MF ()]at z;cases z
     rw[n e,n J]⟩
   have nc:∀{b:MA},m.C 0≠KE b->∀j,(if j=0 then m.C 0 else LX)≠KE b:=λh j z=>by
    cases j with
    |zero=>show h z
    |succ j=>rw[MF ()]at z;cases z
   obtain⟨f1,f2,f3⟩:=Sn l hN rel r;cases G with
   |val d=>show q _ _ {m.F,m.H,λj=>if j=0 then m.C 0 else LX} x h Y I zV (f1 d rfl)
   |new d=>
    obtain⟨b,rfl,z0,z1,z2,z3⟩:=f2 d rfl;show q _ _ {m.F,m.H,λj=>if j=0 then m.C 0 else LX} _ h Y I zV {b,rfl,z0,z1,nc (z3 0),z2}
   |cel j=>
    cases j with
    |zero=>show h.elim
    |succ j=>
     change (match D.cel[j+1]? with | some (KE d)=>R (.new d) e | _=>False)at h
     rcases L:D.cel[j+1]? with _ | _ | d
     ·rw[L]at h;show h.elim
     ·rw[L]at h;show h.elim
     ·rw[L]at h;obtain⟨b,rfl,z0,z1,z2,z3⟩:=f3 j d rfl L;show q _ _ {m.F,m.H,λj=>if j=0 then m.C 0 else LX} _ h Y I zV {b,rfl,z0,z1,nc (λz=>by have:=rel.ok.dist _ _ _ z z3;lia),z2}
  ·show h.elim
 show{_,(hb vA A outer s W.H E hr).out W,W,_,_,rfl,Le.refl W,{{ok.sub,λj d' h=>?_,λj b e=>?_,ok.dist},λi u hu=>?_,?_},hg ds d R (by rw[yh,O.length]at hl;show hl) GX,λD m o h l _ rel=>fin (.val (.v .non)) D m o .non h l rel (Rp.v rfl),fin,λ_ _ _ h=>h.elim,λ_ _ _ h=>h.elim}
 ·cases j with
  |zero=>show ok.cell 0 d' h
  |succ j=>
   have h':(aT nc (LX:Option Tr))[j]?=KE (KE d'):=h;rw[dJ]at h'
   split at h'<;>cases h'
 ·obtain⟨d',hd⟩:=ok.live j b e;cases j with
  |zero=>show#v[d,rfl]
  |succ j=>simp at hd
 ·obtain⟨y,hy,ry⟩:=Ss (b:=#v[P,w,K]) (a:=a) O (G5 hu);show{y,D6 hy,?_};rcases ry with⟨rfl,rfl⟩ | ⟨d',rfl,r⟩
  ·show#v[a,rfl,c0]
  ·show r
 ·change(locs N.length (ins p (KE (.c 0)) (vsW ds))).length=_;rw[Bj];unfold locs;rw[aH,cA,yh,yh,aB,O.length]
def refA (p:Nat):List Ev->(List Tr->Nat->Prop)->Prop
 | [],_=>False
 |e::r,Q=>match p with
  |0=>(match e with
    | .cel j=>xi r λds=>Q ds j
    |_=>False)
  |p+1=>(match e with
    | .val d=>refA p r λds j=>Q (d::ds) j
    |_=>False)
theorem Su:∀{p g xs Q},Paired (Rev b O W) xs g->refA p g Q->∃ys ds j a,xs=ins p (.ref a) ys/\Rps b W.F ys ds/\(∀i,W.C j=KE i->i=a)/\Q ds j
 |_,[],_,_,.nil,h=>by cases (by assumption:Nat)<;>show h.elim
 |0,e::r,_,Q,.cons h t,q=>by
  cases e with
  |cel j=>
   obtain⟨a,rfl,c⟩:_:=h;obtain⟨ds,f,q⟩:_:=o8 t q;show{_,ds,j,a,rfl,f,c,q}
  |val _=>show q.elim
  |new _=>show q.elim
 |p+1,e::r,_,Q,.cons h t,q=>by
  cases e with
  |val d=>
   obtain⟨ys,ds,j,a,rfl,f,c,q⟩:_:=Su (p:=p) t q;show{_::ys,d::ds,j,a,rfl,.cons h f,c,q}
  |cel _=>show q.elim
  |new _=>show q.elim
def alk (R:Ev->Tr->Prop):Ev->Tr->Prop
 | .cel _,_=>False
 |ev,d=>R ev d
def gy (n p:Nat)(g:GR)(ga:GA):GE:=λm Q=>ga m λb a=>refA p b λds j=>ds.length+1=n/\lk a (.cel j) λd=>g ds d (alk λc d'=>Q c {a.loc,a.cel.set j (KE d')})
def U8 (ok:Wok b W cel)(i:W.C j=KE a)(E:cel[j]?=KE (KE d))(l:Le {W.F,W.H,λk=>if k=0 then KE a else LX} f)(G:∀k,f.C k=if k=0 then KE a else LX)(s:Wok b f [KE d']):Lx W #v[f.F,f.H,W.C]/\Wok b #v[f.F,f.H,W.C] (cel.set j (KE d')):=by
 have y:=b7 E;have m:∀{x},x≠a->∀k,(if k=0 then KE a else LX)≠KE x:=λn k z=>by
  split at z
  ·cases z;show n rfl
  ·cases z
 show{{{l.same,λx o e n=>l.fr x o e (m λz=>n j (by rw[i,z])),λx e n=>?_,λk x e=>.inl e,l.dm},λk x e=>e},{s.sub,λk e hk=>?_,λk x e=>?_,ok.dist}}
 ·rcases l.nw x e n with z | ⟨k,z⟩ | z
  ·show .inl z
  ·have p:(if k=0 then KE a else LX)=KE x:=z
   split at p
   ·cases p;show .inr (.inl #v[j,i])
   ·cases p
  ·show .inr (.inr z)
 ·by_cases c:k=j
  ·subst c;rw[cM y]at hk;cases hk;obtain⟨N,g,r,h⟩:_:=s.cell 0 _ rfl;rw[G 0,ME rfl]at g;cases g;show#v[a,i,r,h]
  ·rw[bM (λz=>c z.symm)]at hk;obtain⟨x,g,r,h⟩:_:=ok.cell k e hk;have A:x≠a:=λz=>c (ok.dist k j x g (by rw[z];show i));show{x,g,?_,h.mono l.same λo z=>l.fr x o z (m A)};cases q:f.F x with
   |none=>rfl
   |some u=>
    rcases l.nw x r (by rw[q];show λz=>by cases z)with z | ⟨k,z⟩ | ⟨o,z,I⟩
    ·obtain⟨o,D⟩:_:=h.has;rw[show W.H x=LX from z]at D;cases D
    ·show MI z (m A k)
    ·show MI I (h.nimm o z)
 ·obtain⟨J,L⟩:_:=ok.live k x e;by_cases c:k=j
  ·subst c;show{d',cM y}
  ·show{J,by rw[bM (λz=>c z.symm)];show L}
def Fi (h:lf b (gy n p g ga) O H Q):lfA b ga O H λvs T=>spR b n p g (vs++[]) T Q E:=by
 obtain⟨W,m,R,U,rel,h,q⟩:=h;show{W,m,_,U,rel,h,λvO m1 c xs Y l1 f r1=>?_};obtain⟨ys,ds,j,a,rfl,D,ha,hl,h2⟩:=Su r1 Y;obtain⟨d,hd,h3⟩:=vk h2;obtain⟨i,G,k1,k2⟩:=f.ok.cell j d hd;have ea:=ha i G;subst ea;have EV:Wok b ⟨c.F,c.H,λk=>if k=0 then KE i else LX⟩ [KE d]:=⟨f.ok.sub,λk e hk=>(by
   cases k with
   |zero=>cases hk;show#v[i,rfl,k1,k2]
   |succ k=>simp at hk),λk x e=>(by
   cases k with
   |zero=>show#v[d,rfl]
   |succ k=>
     have l:(if k+1=0 then KE i else LX)=KE x:=e
     rw[MF (qS k)]at l;cases l),λk k' x e l=>by
   have n:∀{j},(if j=0 then KE i else LX)=KE x->j=0:=λ{j} z=>by
     cases j with
     |zero=>rfl
     |succ j=>rw[MF ()]at z;cases z
   rw[n e,n l]⟩
 show{by rw[bY,yh,D.length];show hl,{c.F,c.H,λk=>if k=0 then KE i else LX},ys,ds,d,i,_,rfl,by rw[bY],rfl,EV,D,h3,λev d' r y s l4 c4 CA I=>?_}
 obtain⟨l5,J⟩:=U8 f.ok G hd l4 c4 CA;cases ev with
 |cel j=>show s.elim
 |val e=>show q _ _ #v[r.F,r.H,c.C] y s (l1.trans l5) (f.setc l5 (λ_=>rfl) J) I
 |new e=>
  obtain⟨x,rfl,h0,u,h2',A⟩:=I;show q _ _ #v[r.F,r.H,c.C] _ s (l1.trans l5) (f.setc l5 (λ_=>rfl) J) {x,rfl,l1.dm x h0,u,λk z=>?_,A};obtain⟨l,he⟩:=f.ok.live k x z;obtain⟨x',L,_,q3⟩:=f.ok.cell k l he;rw[show c.C k=KE x from z]at L;cases L;obtain⟨o,N⟩:=q3.has;rw[show c.H x=LX from h0]at N;cases N
def vcr (F:Fo X.prog X.w X.K X.mg X.base j x ps (spR X.B n l g))(m:Room k X.A)(o:VA X (e::d) ga)(hk:j<=k:=by decide)(q:Gl X x:=by rfl)
  (r:(x == ("__debug__":Str))=LZ:=by decide) (s:aP (e::d) X.env=(LZ,eval e X.env)::aP d X.env:=by rfl) (u:(dU i (aP d X.env)).any (·.1)=LZ:=by rfl) :
  VE X (.Call (.Name x p) (e::d) [] i) (gy n l g ga):=by
 show#v[?_];obtain⟨f,fd,F,a,b,c⟩:_:=F;show PE.sub (B5 F (m.mono hk) q a b c .nil yz o.out r s u) λy H Q h=>Fi h
def vfr (F:Fd K mg x st ps f fd)(S:fq N ps (bq st))
  (a:Rdx P w K mg base N x st f k g)
  (b:Pr p g N.length nc ps.length c):Fo P w K mg base (k+1) x ps (spR #v[P,w,K] ps.length p c):=
 .of F (fn_r F.fn S a b)
end
open PyProof.Rows (envOfC)
section
variable {P:aV}{w:bC}{K:aF}{mg:Str->Option aE}{base:MB}{X:Cx}
theorem G6 (f:Str):∀{fs:List (Str×V)}{l:List Tr},Rps b F (fs.map (·.2)) l->(∀d,iq (fs.map (·.1)) l f=KE d->∃x,fs.lookup f=KE x/\Rp b F x d)/\(ky (fs.map (·.1)) f=LZ->fs.lookup f=LX)
 | [],[],.nil=>{λd h=>(by cases h),λ_=>rfl}
 | (g,x)::fs,d::l,.cons h r=>by
  obtain⟨e,i⟩:=G6 f (fs:=fs) r;by_cases c:g=f
  ·subst c;show{λd' h'=>?_,λh'=>?_}
   ·have z:iq (((g,x)::fs).map (·.1)) (d::l) g=KE d:=(by simp[iq,dI]);rw[z]at h';cases h';show{x,by simp[kM],h}
   ·simp[ky]at h'
  ·have a:(f == g)=LZ:=beq_eq_false_iff_ne.mpr λz=>c z.symm;show{λd' h'=>?_,λh'=>?_}
   ·have z:iq (((g,x)::fs).map (·.1)) (d::l) f=iq (fs.map (·.1)) l f:=(by simp[iq,dI,c]);rw[z]at h';obtain⟨y,j,m⟩:=e d' h';show{y,by rw[qO,a];show j,m}
   ·rw[qO,a];show i ?_;unfold ky at h' ⊢;rw[bB,jG,Bool.or_eq_false_iff]at h';show h'.2
def Ms (C:MA)(f:Str)(b:GE):GE:=λm Q=>b m λc a=>lk a c λd=>match d with
 | .obj g ns l=>g=C/\ku (iq ns l f) λe=>Q (.val e) a
 |_=>False
def Fj {C:MA}{f:Str}{o:MC}{i:GE}{g:Pos}(c:Cls X.K C)(l:NoAttr X.K C f)(n:VE X o i)(p:hX o f X.env (eval o X.env)=eval o X.env:=by rfl):VE X (.Attribute o f g) (Ms C f i):=⟨PE.sub (ajo n.out p) λT H Q ⟨W,m,R,r,rel,h,q⟩=>⟨W,m,_,r,rel,h,λU s u x z l1 j A=>by
  obtain⟨d,D,b⟩:=gx j.ok A z
  split at b
  · obtain⟨rfl,b⟩:=b;obtain⟨e,E,G⟩:=ja b;obtain⟨a,I,fs,rfl,J,rfl,L⟩:=D;obtain⟨y,N,O⟩:=(G6 f L).1 e E;show{a,_,I,fs,y,rfl,J,c,l,N,q _ s u y G l1 j O}
  · show b.elim⟩⟩
structure Mo (P:aV)(w:bC)(K:aF)(mg:Str->Option aE)(base:MB)(k:Nat)(C:MA)(m:Str)(ps:List Str)(sp:Sp):Prop where
 cl:Cls K C
 ex:∃f fd,FnOk P w K mg base CX0 k f fd ps sp/\Tw K C m f/\Binds K fd ps []
def K3 (C:MA)(name:Str)(n:Nat)(g:GP)(c:GE)(ga:GA):GE:=λm Q=>c m λa e=>fz e a λd m2=>match d with
 | .obj b ns l=>b=C/\ky ns name=LZ/\ga m2 λf h=>xi f λds=>ds.length+1=n/\g (.obj b ns l::ds) (K2 λa=>Q a h)
 |_=>False
def ach {n:Nat}{xs:List V}{ds:List Tr}{R:Ev->M->Prop}(l:Lx O W)(rel:Rel b W m u)(r:Rp b W.F x d)(f:Rps b W.F xs ds)(A:ds.length+1=n)(h:g (d::ds) (K2 λc=>R c m))
  (q:∀c i a x,R c i->Lx O a->Rel b a i u->Rev b O a x c->Q x a.H):spP b n g (x::(xs++[])) W.H Q E:=by
 show{by rw[bY,bA,f.length];show A,{W.F,W.H,λ_=>LX},d::ds,_,rfl,rel.ok.cut,by rw[bY];show .cons r f,h,λc a y e l3 o D p=>?_};obtain⟨l4,s⟩:=Ji rel.ok l3 D;cases c with
 |cel j=>show e.elim
 |val d=>show q _ m #v[a.F,a.H,W.C] y e (l.trans l4) (rel.lift l4 (λ_=>rfl) s) ((zo rel.ok p (λj z=>nomatch z) o).old l.toLe)
 |new d=>show q _ m #v[a.F,a.H,W.C] y e (l.trans l4) (rel.lift l4 (λ_=>rfl) s) ((zo rel.ok p (λj z=>nomatch z) o).old l.toLe)
def G7 {l b:Pos}(F:Mo X.prog X.w X.K X.mg X.base y C name ps (spP X.B n g))(z:Room k X.A)(D:VE X o G)(I:VA X (e::i) ga)(hk:y<=k:=by decide)
  (J:aP (e::i) X.env=(LZ,eval e X.env)::aP i X.env:=by rfl) (L:(dU b (aP i X.env)).any (·.1)=LZ:=by rfl)
  (N:eval (.Call (.Attribute o name l) (e::i) [] b) X.env=(do
    let p <-eval o X.env
    oX l.atName
    let (f,first) <-jZ [p] (pK p name pl)
    tY b f first (dU b (aP (e::i) X.env)) (nL b (kN [] X.env))):=by rfl) :
  VE X (.Call (.Attribute o name l) (e::i) [] b) (K3 C name n g G ga):=by
 show#v[?_];obtain⟨c,f,fd,F,mt,bd⟩:=F;show PE.sub (afm (pl:=pl) (E:=E0) D.out c mt F (z.mono hk) bd .nil yz I.out J L N) λσ H Q ⟨W,m,R,O,rel,h,q⟩=>⟨W,m,_,O,rel,h,λev m1 W1 x T l1 U Y=>by
   obtain⟨d,m2,W2,j,l2,r,s,u⟩:=mv l1 U Y T
   split at j
   · obtain⟨rfl,hn,j⟩:=j;obtain⟨a,dx,fs,rfl,k1,rfl,k2⟩:=Top.of (W:=W2) u s.ok.sub;show{a,dx,fs,rfl,by rw[<-r];show k1,(G6 name k2).2 hn,?_};rw[<-r];show{W2,m2,_,rfl,s,j,λvO m3 W3 xs h3 l3 vW r3=>?_};obtain⟨ds,rr,hl,h4⟩:=o8 r3 h3;show ach (l2.trans l3) vW (u.mono l3.same) rr hl h4 q
   · show j.elim⟩
def U9 (C:MA)(i:Nat)(f:Str)(b:GE):GS:=λE m=>b m λg h=>fz h g λe m2=>match m2.loc[i]? with
 |some (KE (.c j))=>lk m2 (.cel j) λd=>(match d with
   | .obj a ns l=>a=C/\ky ns f=LZ/\ns.length < 1000/\E.nx {m2.loc,m2.cel.set j (KE (.obj a (ns++[f]) (l++[e])))}
   |_=>False)
 |_=>False
theorem Mt:∀{fs},ky (fs.map (·.1)) f=LZ->kq f v fs=fs++[(f,v)]
 | [],_=>rfl
 | (g,x)::fs,h=>by
  unfold ky at h;rw[bB,jG,Bool.or_eq_false_iff]at h;have c:¬g=f:=of_decide_eq_false h.1;rw[kq,MF c,Mt (fs:=fs) h.2];rfl
def Yp (c:Cls X.K C)(G:NoAttr X.K C f)(I:X.N[i]?=KE x)(J:Vis X.env.scope x)(L:VE X e Q)(hs:kA e (KE (.Attribute (.Name x p) f T)) q.line X.env=pure LZ:=by rfl)
  (hd:(x == ("__debug__":Str))=LZ:=by decide) (U:(x == ("__classdict__":Str))=LZ:=by decide):VS X (.Assign [.Attribute (.Name x p) f T] e q) (U9 C i f Q):=⟨λO=>PS.sub (ajp (kf I J hd U) L.out hs) λD σ H ⟨W,m,E,Y,l,rel,h,n,_⟩=>⟨W,m,_,Y,rel,h,λev m1 W1 y h1 l1 uT r1=>by
  obtain⟨d0,m2,W2,r,l2,e2,g,r2⟩:=mv l1 uT r1 h1
  split at r
  · rename_i j hj
    obtain⟨z,q1,a,rfl,u⟩:=g.loc i _ hj;show{_,q1,?_};obtain⟨d,hd,b⟩:=vk r
    split at b
    · obtain⟨rfl,hk,hz,b⟩:=b;obtain⟨a',A,k1,s,fs,k2,rfl,k3⟩:=g.ok.cell j _ hd;rw[u]at A;cases A;rw[<-e2];show⟨a,_,s,fs,rfl,k2,c,G,by rw[<-aB (f:=(·.1))];show hz,?_⟩;rw[Mt hk];obtain⟨l3,yL⟩:=j7 (d':=.obj _ (fs.map (·.1)++[f]) (_++[d0])) (o:=.ins _ s (fs++[(f,y)])) g.ok u hd {s,_,bo,by rw[bE];rfl,by rw[bE];show k3.append (.cons r2 .nil)};show n _ _ _ b (l.trans (l2.trans l3).toLe) (Same.tr l2.same l3.same) (g.setc l3 (λ_=>rfl) yL)
    · show b.elim
  · show r.elim⟩⟩
structure Ko (P:aV)(w:bC)(K:aF)(mg:Str->Option aE)(base:MB)(k:Nat)(x:Str)(C:MA)(ps:List Str)(sp:Sp):Prop where
 ex:∃f fd,Mk K C f/\FnOk P w K mg base CX0 k f fd ps sp/\mg x=KE (.ref C)/\Binds K fd ps []
def aet:Ev->Prop
 | .val (.v .non)=>True
 |_=>False
def aeu (C:MA)(n:Nat)(g:GR)(ga:GA):GE:=λm Q=>ga m λa b=>xi a λds=>ds.length+1=n/\g ds (.obj C [] []) λc d'=>aet c/\Q (.new d') b
def aho (F:Ko X.prog X.w X.K X.mg X.base kc x C ps (spR X.B n 0 g))(hr:Room k X.A)(ha:VA X (e::L) ga)(hk:kc+1<=k:=by decide)(hg:Gl X x:=by rfl)
  (xS:(x == ("__debug__":Str))=LZ:=by decide) (he:aP (e::L) X.env=(LZ,eval e X.env)::aP L X.env:=by rfl) (wQ:(dU O (aP L X.env)).any (·.1)=LZ:=by rfl) :
  VE X (.Call (.Name x p) (e::L) [] O) (aeu C n g ga):=by
 show#v[?_];obtain⟨f,fd,M,F,hm,bd⟩:=F;show PE.sub (afn M F (hr.mono hk) hg hm bd .nil yz ha.out xS he wQ) λσ H Q ⟨W,m,R,hW,rel,h,q⟩=>⟨W,m,_,hW,rel,h,λvO m1 b xs h1 l1 c r1=>by
   obtain⟨ds,rr,hl,h2⟩:=o8 r1 h1;intro y l d T ne;have fy:=c.ok.Fn d;have i:∀{a u},b.H a=KE u->upd (upd b.H l (.own y)) y (.ins C l []) a=KE u:=λ{a u} e=>(by rw[ay (cf e d),ay (cf e T)];show e);have EV:Wok X.B ⟨b.F,upd (upd b.H l (.own y)) y (.ins C l []),λk=>if k=0 then KE y else LX⟩ [KE (.obj C [] [])]:=⟨λa u e=>i (c.ok.sub a u e),λk e hk=>(by
     cases k with
     |zero=>cases hk;show{y,rfl,fy,l,[],bo,rfl,.nil}
     |succ k=>simp at hk),λk a e=>(by
     cases k with
     |zero=>show{_,rfl}
     |succ k=>
       have D:(if k+1=0 then KE y else LX)=KE a:=e
       rw[MF (qS k)]at D;cases D),λk k' a e D=>by
     have n:∀{j},(if j=0 then KE y else LX)=KE a->j=0:=λ{j} z=>by
       cases j with
       |zero=>rfl
       |succ j=>rw[MF ()]at z;cases z
     rw[n e,n D]⟩
   show{by rw[bY,bA,rr.length];show hl,{b.F,upd (upd b.H l (.own y)) y (.ins C l []),λk=>if k=0 then KE y else LX},xs,ds,.obj C [] [],y,_,rfl,by rw[bY];rfl,rfl,EV,rr,h2,λev d' r v E l3 c3 yL r3=>?_}
   have vn:v=.non:=by
     obtain⟨E,_⟩:=E;unfold aet at E
     split at E
     · show(Rp.vI r3).1
     · show E.elim
   obtain⟨y',q1,q2,q3⟩:=yL.cell 0 d' rfl;rw[c3 0]at q1;cases(show KE y=KE y' from q1);have U:∀{a},a≠y->∀k,(if k=0 then KE y else LX)≠KE a:=λn k z=>by
     split at z
     · cases z;show n rfl
     · cases z
   have lx:Lx b ⟨r.F,r.H,b.C⟩:=by
     show{{l3.same,λa u e n=>l3.fr a u (i e) (U (cf e d)),λa e n=>?_,λk a e=>.inl e,λa z=>?_},λk a e=>e}
     · rcases l3.nw a e n with z | ⟨k,z⟩ | ⟨o,z,Y⟩
       · show .inl ?_;cases G:b.H a with
         |none=>rfl
         |some u=>cases(show KE u=LX from(i G).symm.trans z)
       · have I:(if k=0 then KE y else LX)=KE a:=z
         split at I
         · cases I;show .inl d
         · cases I
       · cases G:b.H a with
         |none=>show .inl rfl
         |some u=>cases(show KE u=KE o from(i G).symm.trans z);show .inr (.inr {_,rfl,Y})
     · have I:=l3.dm a z;cases G:b.H a with
       |none=>rfl
       |some u=>cases(show KE u=LX from(i G).symm.trans I)
   have okc:Wok X.B ⟨r.F,r.H,b.C⟩ m1.cel:=by
     show{yL.sub,λk e hk=>?_,c.ok.live,c.ok.dist};obtain⟨a,N,p2,J⟩:=c.ok.cell k e hk;obtain⟨o,s⟩:=J.has;show{a,N,?_,J.mono l3.same λu z=>l3.fr a u (i z) (U (cf z d))};cases qf:r.F a with
     |none=>rfl
     |some u=>
       rcases l3.nw a p2 (by rw[qf];show λz=>by cases z)with z | ⟨k,z⟩ | ⟨o',z,Y⟩
       · cases(show KE o=LX from(i s).symm.trans z)
       · show MI z (U (cf s d) k)
       · cases(show KE o=KE o' from(i s).symm.trans z);show MI Y (J.nimm _ s)
   show{vn,q _ m1 #v[r.F,r.H,b.C] _ E.2 (l1.trans lx) (c.lift lx (λ_=>rfl) okc) {y,rfl,l1.dm y d,q2,λk z=>?_,q3}};obtain⟨D,BU⟩:=c.ok.live k y z;obtain⟨x',N,_,J⟩:=c.ok.cell k D BU;rw[show b.C k=KE y from z]at N;cases N;obtain⟨o,s⟩:=J.has;rw[d]at s;cases s⟩
end
end VL
namespace Bits
open PySem
def Mu (a b:Nat):(2 * a) &&& (2 * b+1)=2 * (a &&& b):=by
 apply lF;intro i;cases i with
 |zero=>simp
 |succ i=>
  rw[kK,gL,gL,gL,show 2 * a / 2=a by lia,show(2 * b+1) / 2=b by lia,show 2 * (a &&& b) / 2=a &&& b by lia,kK]
def Sv (a b:Nat):(2 * a+1) &&& (2 * b)=2 * (a &&& b):=by
 rw[Nat.and_comm,Mu,Nat.and_comm]
def ahp (a b:Nat):(2 * a) &&& (2 * b)=2 * (a &&& b):=by
 apply lF;intro i;cases i with
 |zero=>simp
 |succ i=>
  rw[kK,gL,gL,gL,show 2 * a / 2=a by lia,show 2 * b / 2=b by lia,show 2 * (a &&& b) / 2=a &&& b by lia,kK]
def ahq:∀m,0 < m->∃k,m - (m &&& (m - 1))=2 ^ k/\2 ^ k<=m/\m &&& 2 ^ k=2 ^ k:=by
 intro m
 induction m using Nat.strongRecOn with
 |ind m a=>
  intro c;rcases Nat.mod_two_eq_zero_or_one m with h | h
  ·obtain⟨q,rfl⟩:∃q,m=2 * q:={m / 2,()};obtain⟨k,d,f,b⟩:=a q () ();have e:2 * q - 1=2 * (q - 1)+1:=();show{k+1,?_,?_,?_}
   ·rw[e,Mu,mE];lia
   ·rw[mE];lia
   ·rw[mE,oG (2 ^ k) 2,ahp,b]
  ·obtain⟨q,rfl⟩:∃q,m=2 * q+1:={m / 2,()};show{0,?_,?_,?_}
   ·have e:2 * q+1 - 1=2 * q:=();rw[e,Sv,Nat.and_self];lia
   ·rw[Nat.pow_zero];lia
   ·rw[Nat.pow_zero];have:=Sv q 0;apply lF;intro i;cases i with
    |zero=>simp
    |succ i=>simp[gL]
def Mask (n:Nat)(m:Int):Prop:=0<=m/\m < 2 ^ n
def ly (h:Mask n m):∃k:Nat,m=(k:Int)/\k < 2 ^ n:=by
 obtain⟨h0,a⟩:=h;show{m.toNat,(),?_};have:((2:Int) ^ n)=((2 ^ n:Nat):Int):=∅;rw[this]at a;lia
def Fk {n k:Nat}(h:k < 2 ^ n):Mask n (k:Int):=by
 show{(),?_};have:((2:Int) ^ n)=((2 ^ n:Nat):Int):=∅;rw[this];lia
def Yq (n:Nat):Mask n 0:=Fk (k:=0) (oK n)
def aci {n k:Nat}(h:k < n):Mask n (2 ^ k):=by
 have e:((2:Int) ^ k)=((2 ^ k:Nat):Int):=∅;rw[e];show Fk (Nat.pow_lt_pow_right (by decide) h)
def Yr (a b:Nat):dW (a:Int) (b:Int)=((a ||| b:Nat):Int):=by
 unfold dW eG rP;have c:decide (0<=-(a:Int) - 1)=LZ:=(by simp;lia);have d:decide (0<=-(b:Int) - 1)=LZ:=(by simp;lia);rw[c,d];dsimp only;have e:(-(-(a:Int) - 1) - 1).toNat=a:=();have f:(-(-(b:Int) - 1) - 1).toNat=b:=();rw[e,f];lia
def ahr {n:Nat}{a b:Int}(c:Mask n a)(d:Mask n b):Mask n (dW a b):=by
 obtain⟨x,rfl,e⟩:=ly c;obtain⟨y,rfl,f⟩:=ly d;rw[Yr];show Fk (Nat.or_lt_two_pow e f)
def Sw (a b:Nat):eG (a:Int) (b:Int)=((a &&& b:Nat):Int):=by
 rw[PyProof.Rows.bitAnd_pp () ()];rfl
def MaskP (n:Nat)(m:Int)(p:Nat->Prop):Prop:=Mask n m/\∀j,j < n->(m.toNat.testBit j=LY↔p j)
def MaskP.iff (h:MaskP n m p)(e:∀j,j < n->(p j↔q j)):MaskP n m q:=
 {h.1,λj a=>(h.2 j a).trans (e j a)}
def j8 (n:Nat):MaskP n 0 (λ_=>False):={Yq n,λj _=>by simp}
def ahs (k:Nat):((2:Int) ^ k).toNat=2 ^ k:=by
 have e:((2:Int) ^ k)=((2 ^ k:Nat):Int):=∅;rw[e,bV]
def tj (h:k < n):MaskP n (2 ^ k) (λj=>j=k):=⟨aci h,λj _=>by
  rw[ahs,Nat.testBit_two_pow];simp[eq_comm]⟩
def vw (c:MaskP n a p)(d:MaskP n b q):MaskP n (dW a b) (λj=>p j\/q j):=by
 show{ahr c.1 d.1,λj e=>?_};have f:=c.2 j e;have g:=d.2 j e;obtain⟨x,rfl,h⟩:=ly c.1;obtain⟨y,rfl,i⟩:=ly d.1;rw[Yr,bV,Nat.testBit_or,lQ];rw[bV]at f g;rw[f,g]
def MaskP.uniq (c:MaskP n a p)(d:MaskP n b p):a=b:=by
 have e:=c.2;have f:=d.2;obtain⟨x,rfl,h⟩:=ly c.1;obtain⟨y,rfl,i⟩:=ly d.1;rw[bV]at e f;congr 1;apply lF;intro j;by_cases g:j < n
 ·have:=(e j g).trans (f j g).symm;cases l:x.testBit j<;>cases m:y.testBit j<;>simp_all
 ·have o:2 ^ n<=2 ^ j:=Nat.pow_le_pow_right (by decide) ();rw[Nat.testBit_lt_two_pow (),Nat.testBit_lt_two_pow ()]
def MaskP.zero_iff (c:MaskP n a p):a=0↔∀j,j < n->¬p j:=by
 constructor
 ·intro d j b h;subst d;have:=(c.2 j b).mpr h;simp at this
 ·intro h;show c.uniq ((j8 n).iff λj b=>{λz=>z.elim,λz=>h j b z})
def aht (x k:Nat)(h:x &&& 2 ^ k=2 ^ k)(j:Nat):(x - 2 ^ k).testBit j=(x.testBit j && decide (j≠k)):=by
 have i:x.testBit k=LY:=by
  have:=MK (λz=>Nat.testBit z k) h;simp only[kK,Nat.testBit_two_pow_self,nK]at this;show this
 have l:=oK k;have m:x / 2 ^ k % 2=1:=by
  rw[Nat.testBit_eq_decide_div_mod_eq]at i;show of_decide_eq_true i
 have ex:=Nat.div_add_mod x (2 ^ k);have g:x % 2 ^ k < 2 ^ k:=kI _ l;generalize x / 2 ^ k=a at m ex;generalize x % 2 ^ k=b at ex g;obtain⟨c,rfl⟩:∃c,a=2 * c+1:={a / 2,()};have n:x - 2 ^ k=2 ^ k * (2 * c)+b:=by
  rw[<-ex,Nat.mul_add,Nat.mul_one];lia
 rw[n,<-ex,Nat.testBit_two_pow_mul_add _ g,Nat.testBit_two_pow_mul_add _ g];by_cases f:j < k
 ·rw[ME f,ME f];have:decide (j≠k)=LY:=(by simp;lia);rw[this,nK]
 ·rw[MF f,MF f];by_cases e:j=k
  ·subst e;simp
  ·obtain⟨d,rfl⟩:∃d,j=k+(d+1):={j - k - 1,()};have o:k+(d+1) - k=d+1:=();rw[o,gL,gL,show 2 * c / 2=c by lia,show(2 * c+1) / 2=c by lia];have:decide (k+(d+1)≠k)=LY:=∅;rw[this,nK]
def Ys (h:MaskP n m p)(h0:m≠0):∃k:Nat,eG m (-m)=2 ^ k/\k < n/\p k/\MaskP n (jQ m (2 ^ k)) (λj=>p j/\j≠k)/\jQ m (2 ^ k) < m:=by
 have a:=h.2;obtain⟨x,rfl,d⟩:=ly h.1;have f:0 < x:=();obtain⟨k,g,i,b⟩:=ahq x f;have hk:k < n:=(Nat.pow_lt_pow_iff_right (by decide)).mp (Nat.lt_of_le_of_lt i d);have e:((2:Int) ^ k)=((2 ^ k:Nat):Int):=∅;rw[bV]at a;have l:x.testBit k=LY:=by
  have:=MK (λz=>Nat.testBit z k) b;simp only[kK,Nat.testBit_two_pow_self,nK]at this;show this
 have c:jQ (x:Int) (2 ^ k)=((x - 2 ^ k:Nat):Int):=by
  rw[e,PyProof.Rows.bitXor_and,Sw,b];lia
 show{k,?_,hk,(a k hk).mp l,?_,?_}
 ·rw[PyProof.Rows.bitAnd_pn () ()];have o:(rP (-(x:Int))).toNat=x - 1:=(by unfold rP;lia);rw[o,e,<-g];have:=Nat.and_le_left (n:=x) (m:=x - 1);simp only[bV];lia
 ·rw[c];show{Fk (),λj q=>?_};rw[bV,aht x k b j,cQ,a j q,decide_eq_true_iff]
 ·rw[c];have:0 < 2 ^ k:=oK k;lia
def Yt (h:Mask n m)(j:Nat):(eG (m / 2 ^ ((j:Int)).toNat) 1 != 0)=m.toNat.testBit j:=by
 obtain⟨x,rfl,a⟩:=ly h;rw[bV,bV];have e:((x:Int)) / 2 ^ j=((x / 2 ^ j:Nat):Int):=∅;rw[e,show(1:Int)=((1:Nat):Int)from rfl,Sw,Nat.and_one_is_mod,Nat.testBit_eq_decide_div_mod_eq];have:=Nat.mod_two_eq_zero_or_one (x / 2 ^ j);rcases this with z | z<;>rw[z]<;>simp
def RelP (n:Nat)(ns:List Int)(R:Nat->Nat->Prop):Prop:=ns.length=n/\∀i m,ns[i]?=KE m->MaskP n m (R i)
theorem RelP.iff (h:RelP n ns R)(e:∀i j,i < n->j < n->(R i j↔S i j)):RelP n ns S:=
 {h.1,λi m a=>(h.2 i m a).iff λj b=>e i j (by rw[<-h.1];show(bJ.mp a).1) b}
def RelP.mask (h:RelP n ns R)(a:m∈ns):Mask n m:=by
 obtain⟨i,hi⟩:=kX.mp a;show(h.2 i m hi).1
def RelP.at (h:RelP n ns R)(hk:k < n):∃m,ns[k]?=KE m/\MaskP n m (R k):=by
 have a:k < ns.length:=(by rw[h.1];show hk);show{ns[k],aC a,h.2 k _ (aC a)}
inductive Star (n:Nat)(R:Nat->Nat->Prop):Nat->Nat->Prop
 |refl {i:Nat}:Star n R i i
 |step {i k j:Nat}:R i k->k < n->Star n R k j->Star n R i j
def Star.trans (a:Star n R i j)(b:Star n R j k):Star n R i k:=by
 induction a with
 |refl=>show b
 |step r h _ c=>show .step r h (c b)
inductive Thru (n:Nat)(R:Nat->Nat->Prop)(m:Nat):Nat->Nat->Prop
 |refl {i:Nat}:Thru n R m i i
 |one {i j:Nat}:R i j->Thru n R m i j
 |step {i k j:Nat}:k < n->k < m->Thru n R m i k->Thru n R m k j->Thru n R m i j
def Thru.zero:Thru n R 0 i j↔j=i\/R i j:=by
 constructor
 ·intro h;cases h with
  |refl=>show .inl rfl
  |one r=>show .inr r
  |step _ h _ _=>show MI h (iJ _)
 ·rintro(rfl | h)
  ·show .refl
  ·show .one h
def Thru.mono (e:m<=a)(h:Thru n R m i j):Thru n R a i j:=by
 induction h with
 |refl=>show .refl
 |one r=>show .one r
 |step b f _ _ c d=>show .step b () c d
def Thru.succ (g:m < n):Thru n R (m+1) i j↔Thru n R m i j\/(Thru n R m i m/\Thru n R m m j):=by
 constructor
 ·intro h
  induction h with
  |refl=>show .inl .refl
  |one r=>show .inl (.one r)
  |@step i k j c l _ _ e f=>
   by_cases hk:k=m
   ·subst hk;show .inr {?_,?_}
    ·rcases e with a | a
     ·show a
     ·show a.1
    ·rcases f with a | a
     ·show a
     ·show a.2
   ·have d:k < m:=();rcases e with a | a<;>rcases f with b | b
    ·show .inl (.step c d a b)
    ·show .inr {.step c d a b.1,b.2}
    ·show .inr {a.1,.step c d a.2 b}
    ·show .inr #v[a.1,b.2]
 ·rintro(a | ⟨a,b⟩)
  ·show a.mono ()
  ·show .step g () (a.mono ()) (b.mono ())
def Thru.star (a:j < n):Thru n R n i j↔Star n R i j:=by
 constructor
 ·intro h
  induction h with
  |refl=>show .refl
  |one r=>show .step r a .refl
  |step b _ _ _ c d=>show(c b).trans (d a)
 ·intro h
  induction h with
  |refl=>show .refl
  |step r h _ e=>show .step h h (.one r) (e a)
def pick {a:Type}(m:Int)(xs:List a)(k:Nat):List a:=(bG k).filterMap λi=>if m.toNat.testBit i=LY then xs[i]? else LX
def Yu (m:Int)(xs:List a):pick m xs 0=[]:=rfl
def Mv {a:Type}{m:Int}{xs:List a}{k:Nat}{x:a}(h:m.toNat.testBit k=LY)(e:xs[k]?=KE x):pick m xs (k+1)=pick m xs k++[x]:=by
 unfold pick;rw[kD,nS];simp[h,e]
def Sx {a:Type}{m:Int}{xs:List a}{k:Nat}(h:m.toNat.testBit k=LZ):pick m xs (k+1)=pick m xs k:=by
 unfold pick;rw[kD,nS];simp[h]
end Bits
namespace S1
def longer (a:List (List Int))(c:Nat):List (List Int):=a.flatMap λl=>(bG c).map λ(v:Nat)=>l++[(v:Int)]
def iw (a:List (List Int))(cs:List Nat):List (List Int):=cs.foldl longer a
def mul (cs:List Nat):Nat:=cs.foldl (· * ·) 1
def t5 (a:List (List Int))(c:Nat):(longer a c).length=a.length * c:=by
 induction a with
 |nil=>simp[longer]
 |cons l r b=>
  have e:longer (l::r) c=((bG c).map λ(v:Nat)=>l++[(v:Int)])++longer r c:=(by simp[longer,qF]);rw[e,aH,b,aB,bS,bA,Nat.succ_mul,oF]
theorem Dh:∀cs a,(iw a cs).length=cs.foldl (· * ·) a.length
 | [],_=>rfl
 |c::r,a=>by
  change(iw (longer a c) r).length=r.foldl (· * ·) (a.length * c);rw[Dh r,t5]
structure Good (cs:List Nat)(ls:List (List Int)):Prop where
 wide:∀l∈ls,l.length=cs.length
 rng:∀l∈ls,∀(i:Nat)(v:Int),l[i]?=KE v->∃c,cs[i]?=KE c/\0<=v/\v < (c:Int)
 ord:ls.Pairwise λa b=>HT.lexLt a b=LY
theorem Mw:∀a x y,x < y->HT.lexLt (a++[x]) (a++[y])=LY
 | [],x,y,h=>by
  change HT.lexLt [x] [y]=LY;rw[HT.lexLt_cons,MF ()];show MH h
 |z::r,x,y,h=>by
  change HT.lexLt (z::(r++[x])) (z::(r++[y]))=LY;rw[HT.lexLt_cons,ME rfl];show Mw r x y h
theorem Sy:∀a b x y,a.length=b.length->HT.lexLt a b=LY->HT.lexLt (a++[x]) (b++[y])=LY
 | [],[],_,_,_,h=>by cases h
 | [],_::_,_,_,e,_=>by cases e
 |_::_,[],_,_,e,_=>by cases e
 |p::r,q::t,x,y,e,h=>by
  have d:r.length=t.length:=(by simpa using e);change HT.lexLt (p::(r++[x])) (q::(t++[y]))=LY;rw[HT.lexLt_cons]at h ⊢;by_cases c:p=q
  ·rw[ME c]at h ⊢;show Sy r t x y d h
  ·rw[MF c]at h ⊢;show h
def uh {a:List (List Int)}{c:Nat}{m:List Int}(h:m∈longer a c):∃l∈a,∃v:Nat,v < c/\m=l++[(v:Int)]:=by
 obtain⟨l,b,h⟩:=List.mem_flatMap.mp h;obtain⟨v,d,e⟩:=dG.mp h;show{l,b,v,dN.mp d,e.symm}
theorem Good.longer (g:Good cs ls)(c:Nat):Good (cs++[c]) (longer ls c) where
 wide:=λm hm=>by
  obtain⟨l,hl,v,hv,rfl⟩:=uh hm;rw[aH,aH,g.wide l hl];rfl
 rng:=λm hm i v hi=>by
  obtain⟨l,hl,w,hw,rfl⟩:=uh hm;have wl:=g.wide l hl;rcases Nat.lt_trichotomy i l.length with q | q | q
  ·rw[bT q]at hi;obtain⟨c',hc,r⟩:=g.rng l hl i v hi;show{c',by rw[bT ()];show hc,r}
  ·subst q;have e:v=(w:Int):=(by simpa using hi.symm);show{c,by rw[wl];simp,(),()}
  ·rw[bU (by rw[aH,cK];lia)]at hi;cases hi
 ord:=by
  have w:=g.wide;have o:=g.ord;clear g
  induction ls with
  |nil=>show jJ
  |cons l r ih=>
   have e:S1.longer (l::r) c=((bG c).map λ(v:Nat)=>l++[(v:Int)])++S1.longer r c:=(by simp[S1.longer,qF]);obtain⟨o1,o2⟩:=iD.mp o;rw[e,List.pairwise_append];show{?_,ih (λm hm=>w m (aI _ hm)) o2,?_}
   ·rw[List.pairwise_map];show List.Pairwise.imp (R:=λ(a b:Nat)=>a < b) (λ{a b} h=>Mw l (a:Int) (b:Int) ()) List.pairwise_lt_range
   ·intro a ha b hb;obtain⟨v,hv,rfl⟩:=dG.mp ha;obtain⟨m,hm,u,hu,rfl⟩:=uh hb;show Sy l m _ _ (by rw[w l aN,w m (aI _ hm)]) (o1 m hm)
def Good.start:Good [] [[]] where
 wide:=λl hl=>by rw[aZ.mp hl];rfl
 rng:=λl hl i v hi=>by rw[aZ.mp hl]at hi;cases i<;>cases hi
 ord:=mS _ _
theorem Good.all:∀(r cs:List Nat) {ls:List (List Int)},Good cs ls->Good (cs++r) (iw ls r)
 | [],cs,ls,g=>by rw[bY];show g
 |c::r,cs,ls,g=>by
  have q:=Good.all r (cs++[c]) (g.longer c);rw[dD]at q;show q
def di (cs:List Nat):List (List Int):=iw [[]] cs
def i6 (cs:List Nat):Good cs (di cs):=Good.all cs [] Good.start
def yi (cs:List Nat):(di cs).length=mul cs:=Dh cs [[]]
def Mx (cs:List Nat)(c:Nat):di (cs++[c])=longer (di cs) c:=by
 simp[di,iw,kS]
theorem My:∀(cs:List Nat)(k:Nat),(∀c∈cs,c<=6)->cs.foldl (· * ·) k<=k * 6 ^ cs.length
 | [],k,_=>by simp
 |c::r,k,h=>by
  have q:=My r (k * c) λd hd=>h d (aI _ hd);have a:=h c aN;change r.foldl (· * ·) (k * c)<=k * 6 ^ (r.length+1);show bL q ?_;rw[mE,sI,oG (6 ^ r.length) 6];show Nat.mul_le_mul_left _ (Nat.mul_le_mul_right _ a)
def alm (cs:List Nat)(h:∀c∈cs,c<=6):mul cs<=6 ^ cs.length:=by
 have q:=My cs 1 h
 rwa [Nat.one_mul]at q
end S1
namespace PB
open PySem L2 VL Bits
abbrev iL (ns:List Int):Tr:=.lst (ns.map λn=>Tr.v (.int n))
abbrev Rl:=Nat->Nat->Prop
def orR (_:Nat)(R S:Rl):Rl:=λi j=>R i j\/S i j
def p9 (n:Nat)(R S:Rl):Rl:=λi j=>∃k,k < n/\R i k/\S k j
def Mz (n:Nat)(R:Rl):Rl:=λi j=>j=i/\∀k,k < n->¬R i k
def D8 (n:Nat)(S:Rl)(R:Ev->Prop):Prop:=∀ns,RelP n ns S->R (.new (iL ns))
def OutV (n:Nat)(S:Rl)(R:Ev->Prop):Prop:=∀ns,RelP n ns S->R (.val (iL ns))
def bg (h:Nat.ble n 1000000=LY):n<=1000000:=Nat.le_of_ble_eq_true h
def bj {a:Type}{l:List a}{i:Nat}{x:a}(h:l[i]?=KE x):atI l (i:Int)=KE x:=by
 have b:=b7 h;unfold atI ixN;rw[ME (lS _),ME (by exact_mod_cast b)];simpa using h
def Yv:GS:=(bh (gOp qt (gLst (gA1 (gI 0))) (aa 0)))
def o9:GP:=λds R=>∃n:Nat,ds=[.v (.int n)]/\n<=300/\D8 n (λ_ _=>False) R
def G8 (n:Nat)(x:Tr):(aT n [x]).flatten=aT n x:=by
 induction n with
 |zero=>rfl
 |succ n a=>rw[fK,iM,a,fK];rfl
def Yw:Pm (Yv) 1 1 1 (o9):=by
 intro ds R b h;obtain⟨n,rfl,c,q⟩:=h;show{by decide,by change(-1000000:Int)<=(n:Int);lia,by change(n:Int)<=1000000;lia,by change 1 * ((n:Int)).toNat<=1000000;lia,?_};change R (.new (.lst (aT ((n:Int)).toNat [Tr.v (.int 0)]).flatten));rw[G8,bV,<-List.map_replicate (f:=λn=>Tr.v (.int n)) (a:=0)];show q _ {by simp,λi m e=>by rw[dJ]at e;split at e<;>cases e;show j8 n}
def Va:GS:=(bh (c8 1 [] (giR (gA1 (aa 0))) (.one 0) cu (gOp (gn Gh λi j=>.int (i * 2 ^ j.toNat)) (gI 1) (aa 0))))
def mw:GP:=λds R=>∃n:Nat,ds=[.v (.int n)]/\n<=300/\D8 n (λi j=>j=i) R
def n9 {n:Nat}:iz 0 ((n:Int)).toNat=(bG n).map λi:Nat=>Tr.v (.int (i:Int)):=by rw[bV,vv]
def ma {a:Type}(l:List a)(g:a->Int):(l.map λx=>Tr.v (.int (g x)))=(l.map g).map λn=>Tr.v (.int n):=by rw[dO];rfl
def Vb:Pm (Va) 1 1 1 (mw):=by
 intro ds R b h;obtain⟨n,rfl,c,q⟩:=h;show{by change(-1000000:Int)<=(n:Int);lia,by change(n:Int)<=1000000;lia,?_};change df _ _ _ _ _ _ _ (iz 0 ((n:Int)).toNat) _ _;rw[n9];show cw (out:=λi:Nat=>Tr.v (.int (2 ^ i))) rfl _ _ (by simp;lia) (λi hi Y a=>?_) ?_
 ·have d:=dN.mp hi;show{{by change(0:Int)<=(i:Int);lia,by change(i:Int)<=1000000;lia,by decide},?_};change Y (.v (.int (1 * 2 ^ ((i:Int)).toNat))) _;rw[rL,bV];show a
 ·change R (.new (.lst ([]++(bG n).map λi:Nat=>Tr.v (.int (2 ^ i)))));rw[bH,ma];show q _ {by simp,λi m e=>?_};rw[aL]at e;by_cases hi:i < n
  ·rw[cB hi]at e;cases e;show tj hi
  ·rw[bU (by simpa using hi)]at e;cases e
def acj (ns c:List Int):prs (ns.map λn=>Tr.v (.int n)) (c.map λn=>Tr.v (.int n))=(ns.zip c).map λp=>Tr.tup [.v (.int p.1),.v (.int p.2)]:=by
 unfold prs
 induction ns generalizing c with
 |nil=>rfl
 |cons a ns d=>cases c with
  |nil=>rfl
  |cons b c=>rw[bB,bB,List.zipWith_cons_cons,d];rfl
def Pd:GS:=(bh (c8 2 [] (U4 (gaV (aa 0) (gA1 (aa 1)))) (.tup [0,1]) cu (gOp (ff λi j=>.int (dW i j)) (aa 0) (aa 1))))
def og:GP:=λds R=>∃n ns a A B,ds=[iL ns,iL a]/\RelP n ns A/\RelP n a B/\n<=300/\D8 n (orR n A B) R
def Pe:Pm (Pd) 2 1 2 (og):=by
 intro ds R r h;obtain⟨n,ns,f,A,B,rfl,c,d,s,q⟩:=h;change df _ _ _ _ _ _ _ (prs _ _) _ _;rw[acj];show cw (out:=λp:Int×Int=>Tr.v (.int (dW p.1 p.2))) rfl _ _ (by simp[c.1,d.1];lia) (λp u Y g=>g) ?_;change R (.new (.lst ([]++(ns.zip f).map λp=>Tr.v (.int (dW p.1 p.2)))));rw[bH,ma];show q _ {by simp[c.1,d.1],λi m e=>?_};rw[aL]at e;obtain⟨⟨a,b⟩,j,rfl⟩:=dR.mp e;obtain⟨l,o⟩:=List.getElem?_zip_eq_some.mp j;show vw (c.2 i a l) (d.2 i b o)
def Vc (ns:List Int):jo (ns.map λn=>Tr.v (.int n))=(bG ns.length).map λi:Nat=>Tr.tup [.v (.int (i:Int)),.v (.int (ns.getD i 0))]:=by
 show eZ λi=>?_;unfold jo;rw[oR,aL,aL];by_cases hi:i < ns.length
 ·rw[cB hi,aC hi];simp[cI,aC hi]
 ·rw[bU (),bU (by simpa using hi)];rfl
def Fl:GS:=(bh (c8 2 [] (U5 (gA1 (aa 0))) (.tup [0,1]) cu (gIf (j6 (aa 1)) (gI 0) (gOp (gn Gh λi j=>.int (i * 2 ^ j.toNat)) (gI 1) (aa 0)))))
def qb:GP:=λds R=>∃n ns A,ds=[iL ns]/\RelP n ns A/\n<=300/\D8 n (Mz n A) R
def Fm:Pm (Fl) 1 1 1 (qb):=by
 intro ds R l h;obtain⟨n,ns,A,rfl,a,o,q⟩:=h;change df _ _ _ _ _ _ _ (jo _) _ _;rw[Vc];show cw (out:=λi:Nat=>Tr.v (.int (if ns.getD i 0=0 then 2 ^ i else 0))) rfl _ _ (by simp[a.1];lia) (λi hi Y b=>?_) ?_
 ·have p:=dN.mp hi;have r:=a.1;change if (ns.getD i 0 != 0)=LY then _ else _
  by_cases c:ns.getD i 0=0
  ·rw[MF (by rw[c];decide)];rw[ME c]at b;show{{by change(0:Int)<=(i:Int);lia,by change(i:Int)<=1000000;lia,by decide},?_};change Y (.v (.int (1 * 2 ^ ((i:Int)).toNat))) _;rw[rL,bV];show b
  ·rw[ME (bne_iff_ne.mpr c)];rw[MF c]at b;show b
 ·change R (.new (.lst ([]++(bG ns.length).map λi:Nat=>Tr.v (.int (if ns.getD i 0=0 then 2 ^ i else 0)))))
  rw[bH,ma];show q _ {by simp[a.1],λi m e=>?_};rw[aL]at e;by_cases hi:i < ns.length
  ·rw[cB hi]at e;cases e;have d:i < n:=(by rw[<-a.1];show hi);have f:ns[i]?=KE (ns.getD i 0):=(by rw[cI,aC hi];rfl);have z:=(a.2 i _ f).zero_iff;change MaskP n (if ns.getD i 0=0 then 2 ^ i else 0) _
   split
   ·rename_i c
    show(tj d).iff λj g=>{λe=>{e,z.mp c},λe=>e.1}
   ·rename_i c
    show(j8 n).iff λj g=>{λe=>e.elim,λe=>c (z.mpr e.2)}
  ·rw[bU (by simpa using hi)]at e;cases e
def M0:GS:=(bh (c8 2 [1] (U5 (gA1 (aa 0))) (.tup [0,1]) (j6 (gOp (ff λi j=>.int (eG i j)) (gOp (gn (λ_ j=>0<=j) λi j=>.int (i / 2 ^ j.toNat)) (aa 2) (aa 0)) (gI 1))) (aa 1)))
def vx:GP:=λds R=>∃n m ls,ds=[.lst (ls.map tI),.v (.int m)]/\Mask n m/\ls.length<=300/\R (.new (.lst ((pick m ls ls.length).map tI)))
def wu (l:List a)(f:a->Tr):jo (l.map f)=(l.zipIdx).map λp=>Tr.tup [.v (.int (p.2:Int)),f p.1]:=by
 show eZ λi=>?_;unfold jo;rw[oR,aL,aL,lG];cases l[i]?<;>simp
def ack (m:Int)(xs:List f):pick m xs xs.length=((xs.zipIdx).filter λp=>m.toNat.testBit p.2).map (·.1):=by
 have:∀k,k<=xs.length->pick m xs k=(((xs.take k).zipIdx).filter λp=>m.toNat.testBit p.2).map (·.1):=by
  intro k
  induction k with
  |zero=>intro _;rw[Yu];simp
  |succ k d=>
   intro hk;have a:k < xs.length:=hk;have e:xs.take (k+1)=xs.take k++[xs[k]]:=(by rw[cU,aC a];rfl);rw[e,List.zipIdx_append,List.filter_append,bE,<-d ()];have b:(xs.take k).length=k:=(by rw[bN];lia);cases c:m.toNat.testBit k with
   |true=>rw[Mv c (aC a)];simp[b,c]
   |false=>rw[Sx c];simp[b,c]
 rw[this xs.length (aJ _),cW]
def M1:Pm (M0) 2 1 2 (vx):=by
 intro ds R f h;obtain⟨n,m,ls,rfl,a,g,q⟩:=h;change df _ _ _ _ _ _ _ (jo _) _ _;rw[wu];show jj (p:=λp:List Int×Nat=>m.toNat.testBit p.2) (out:=λp=>tI p.1) rfl _ _ (by simp;lia) (λp i Y Z b d=>?_) ?_
 ·show{by change(0:Int)<=(p.2:Int);lia,?_};change if (eG (m / 2 ^ ((p.2:Int)).toNat) 1 != 0)=LY then _ else _
  rw[Yt a];cases c:m.toNat.testBit p.2 with
  |true=>rw[ME rfl];show b c
  |false=>rw[MF aQ];show d c
 ·change R (.new (.lst ([]++((ls.zipIdx).filter λp=>m.toNat.testBit p.2).map λp=>tI p.1)));rw[bH];have e:((ls.zipIdx).filter λp=>m.toNat.testBit p.2).map (λp=>tI p.1)=(pick m ls ls.length).map tI:=(by rw[ack,dO];rfl);rw[e];show q
def G9:GS:=(aq (bp 2 (gI 0)) (aq (yd [3] (j6 (aa 0)) (aq (bp 3 (gOp (ff λi j=>.int (eG i j)) (aa 0) (xj (aa 0)))) (aq (Jj 2 (gX (aa 1) (gOp (ff λi j=>.int (i - j)) (gMt "int" U1 (aa 3) gaN) (gI 1)))) (Fh 0 (aa 3))))) (bh (aa 2))))
def qx:GP:=λds R=>∃n m ns p B,ds=[.v (.int m),iL ns]/\MaskP n m p/\RelP n ns B/\∀z:Int,MaskP n z (λj=>∃k,k < n/\p k/\B k j)->R (.val (.v (.int z)))
def Ha:Pm (G9) 4 1 2 (qx):=by
 intro ds R I h;obtain⟨n,m,ns,p,B,rfl,C,D,q⟩:=h;show⟨λk g=>∃a z l,k=a.toNat/\g={[KE (.v (.v (.int a))),KE (.v (iL ns)),KE (.v (.v (.int z))),LX],[LX]}/\MaskP n a l/\(∀j,l j->p j)/\MaskP n z (λj=>∃k,k < n/\p k/\¬l k/\B k j),⟨_,m,0,p,rfl,rfl,C,λ_ h=>h,(j8 n).iff λj _=>⟨λh=>h.elim,λo=>by obtain⟨k,_,d,e,_⟩:=o;show e d⟩⟩,?_⟩;intro k g r;obtain⟨a,z,l,rfl,rfl,u,w,hz⟩:=r;change if (a != 0)=LY then _ else _
 by_cases c:a=0
 ·rw[MF (by rw[c];decide)];show q z (hz.iff λj _=>⟨λo=>by obtain⟨k,h0,d,_,e⟩:=o;show#v[k,h0,d,e],λ⟨k,h0,d,e⟩=>{k,h0,d,λf=>?_,e}⟩);show u.zero_iff.mp c k h0 f
 ·rw[ME (bne_iff_ne.mpr c)];obtain⟨k,y,hk,E,s,lt⟩:=Ys u c;obtain⟨b,G,H⟩:=D.at hk;rw[<-y]at s lt;show{λg=>g={[KE (.v (.v (.int (jQ a (eG a (-a)))))),KE (.v (iL ns)),KE (.v (.v (.int (dW z b)))),KE (.v (.v (.int (eG a (-a)))))],[LX]},?_,?_}
  ·intro g r;subst r;show{_,?_,jQ a (eG a (-a)),dW z b,_,rfl,rfl,s,λj h=>w j h.1,(vw hz H).iff λj _=>{λh=>?_,λ⟨i,h0,d,e,f⟩=>?_}}
   ·have d:=s.1.1;lia
   ·rcases h with⟨i,h0,d,e,f⟩ | h
    ·show{i,h0,d,λz=>e z.1,f}
    ·show{k,hk,w k E,λz=>z.2 rfl,h}
   ·by_cases A:i=k
    ·subst A;show .inr f
    ·show .inl {i,h0,d,λz=>e #v[z,A],f}
  ·show⟨rfl,ax (x:=.v (.int b)) ?_ rfl⟩;change atI (ns.map _) (((jW (eG a (-a)):Nat):Int) - 1)=_;rw[y,aan,show(((k+1:Nat):Int) - 1)=(k:Int)by lia];show bj (by rw[aL,G];rfl)
def D9:GS:=(aq (jm 2 0 aer) (aq (fk [3] (giL (aa 0)) (.one 3) (sIf (gT (gOp (inD LY) (aa 3) (aa 2))) (qw 2 (ar 2 qx (gaV (aa 3) (gA1 (aa 1)))) (aa 3)) dz)) (bh (c8 1 [2] (giL (aa 0)) (.one 0) cu (gOp ixD (aa 1) (aa 0))))))
def i7:GP:=λds R=>∃n ns a A B,ds=[iL ns,iL a]/\RelP n ns A/\RelP n a B/\n<=300/\D8 n (p9 n A B) R
theorem Bm {e d:Type}[DecidableEq e](f:d->e)(g:d->Tr)(i:∀a b,f a=f b->a=b)(k:d):∀(l:List d),k∈l->iq (l.map f) (l.map g) (f k)=KE (g k)
 | [],h=>nomatch h
 |a::l,h=>by
  unfold iq;by_cases c:a=k
  ·subst c;simp[dI]
  ·have j:=Bm f g i k l ((aU.mp h).resolve_left λz=>c z.symm);unfold iq at j;rw[bB,bB,pN,dI];simp only[MG (λz=>c (i _ _ z))];show j
def acm {e d:Type}[DecidableEq e][DecidableEq d](f:d->e)(g:∀a b,f a=f b->a=b)(k:d)(l:List d):ky (l.map f) (f k)=decide (k∈l):=by
 unfold ky
 induction l with
 |nil=>rfl
 |cons a l h=>
  rw[bB,jG,h];by_cases c:a=k
  ·simp[c]
  ·have:¬f a=f k:=λz=>c (g _ _ z);have:¬k=a:=λz=>c z.symm;simp[*]
abbrev kT (ks:List Int)(f:Int->Int):Tr:=.dk (ks.map λk=>(Sum.inl k:Key)) (ks.map λk=>Tr.v (.int (f k)))
def Hb:∀a b:Int,(Sum.inl a:Key)=Sum.inl b->a=b:=λa b h=>by injection h
def aln (ks:List Int)(f:Int->Int)(k:Int)(h:k ∉ ks):Tr.dk (ir (ks.map λk=>(Sum.inl k:Key)) (Sum.inl k)) (je (ks.map λk=>(Sum.inl k:Key)) (ks.map λk=>Tr.v (.int (f k))) (Sum.inl k) (.v (.int (f k))))=kT (ks++[k]) f:=by
 have c:¬(Sum.inl k:Key)∈ks.map λk=>(Sum.inl k:Key):=λz=>by
  obtain⟨a,b,e⟩:=dG.mp z;show h (Hb _ _ e ▸ b)
 unfold ir je;rw[MF c,MF c];simp[kT]
open Classical in
def M4 (n:Nat)(p:Nat->Prop):∃z:Int,MaskP n z p:=by
 have:∀k,k<=n->∃z:Int,MaskP n z (λj=>j < k/\p j):=by
  intro k
  induction k with
  |zero=>intro _;show{0,(j8 n).iff λj _=>{λh=>h.elim,λh=>MI h.1 (iJ _)}}
  |succ k a=>
   intro hk;obtain⟨z,hz⟩:=a ();by_cases c:p k
   ·show{_,(vw hz (tj (n:=n) (k:=k) ())).iff λj _=>{λh=>?_,λh=>?_}}
    ·rcases h with h | h
     ·show{(),h.2}
     ·subst h;show{(),c}
    ·by_cases e:j=k
     ·show .inr e
     ·show .inl {(),h.2}
   ·show{z,hz.iff λj _=>{λh=>{(),h.2},λh=>{?_,h.2}}};by_cases e:j=k
    ·subst e;show MI h.2 c
    ·lia
 obtain⟨z,hz⟩:=this n (aJ _);show{z,hz.iff λj b=>{λh=>h.2,λh=>#v[b,h]}}
def Mask.self {n:Nat}{m:Int}(h:Mask n m):MaskP n m (λj=>m.toNat.testBit j=LY):={h,λ_ _=>uQ}
noncomputable def Ck (n:Nat)(B:Rl)(m:Int):Int:=Classical.choose (M4 n λj=>∃k,k < n/\m.toNat.testBit k=LY/\B k j)
def M5 (n:Nat)(B:Rl)(m:Int):MaskP n (Ck n B m) (λj=>∃k,k < n/\m.toNat.testBit k=LY/\B k j):=Classical.choose_spec (M4 n λj=>∃k,k < n/\m.toNat.testBit k=LY/\B k j)
def Ea:Pm (D9) 4 2 2 (i7):=by
 intro ds R C h;obtain⟨n,ns,r,A,B,rfl,g,D,L,q⟩:=h;show du (I:=λi m=>∃ks:List Int,m={[KE (.v (iL ns)),KE (.v (iL r)),KE (.c 1),LX],[LX,KE (kT ks (Ck n B))]}/\(∀x∈ns.take i,x∈ks)/\ks.length<=i) {[],rfl,(λx f=>nomatch f),aJ _} ?_ ?_
 ·intro i x m N f o s;obtain⟨ks,rfl,l,E⟩:=o;have hi:=b7 f;have C:=g.1;have u:∀d:List Int,x∈d->(∀y∈ks,y∈d)->∀y∈ns.take (i+1),y∈d:=λd G hs y hy=>by
   rw[cU,f]at hy;rcases cS.mp hy with hy | hy
   ·show hs y (l y hy)
   ·cases aZ.mp hy;show G
  change if (!ky (ks.map λk=>(Sum.inl k:Key)) (Sum.inl x))=LY then _ else _
  rw[acm (λk=>(Sum.inl k:Key)) Hb];by_cases c:x∈ks
  ·rw[MH c,MF (by decide)];show s _ {ks,rfl,u ks c λ_ h=>h,()}
  ·rw[MG c,ME (by decide)];have H:Mask n x:=g.mask (aR f);show{rfl,n,x,r,_,B,rfl,Mask.self H,D,λz hz=>?_};cases hz.uniq (M5 n B x);show{by change(ks.map _).length < 1000000;rw[aB];lia,?_};change N _;show s _ {ks++[x],?_,u _ ∅ λy hy=>dS _ hy,by rw[aH,cK];lia};change({_,[LX,KE (Tr.dk _ _)]}:M)=_;rw[aln ks (Ck n B) x c];rfl
 ·intro m o;obtain⟨ks,rfl,l,E⟩:=o;rw[cW]at l;show cw (out:=λx:Int=>Tr.v (.int (Ck n B x))) rfl _ _ (by simp[g.1];lia) (λx f Y J=>?_) ?_
  ·show ax (Bm (λk=>(Sum.inl k:Key)) (λk=>Tr.v (.int (Ck n B k))) Hb x ks (l x f)) J
  ·change R (.new (.lst ([]++ns.map λx=>Tr.v (.int (Ck n B x)))));rw[bH,ma];show q _ {by simp[g.1],λi m e=>?_};rw[aL]at e;obtain⟨x,w,rfl⟩:=dR.mp e;show(M5 n B x).iff λj O=>⟨λp=>by obtain⟨k,a,b,c⟩:=p;show{k,a,((g.2 i x w).2 k a).mp b,c},λp=>by obtain⟨k,a,b,c⟩:=p;show{k,a,((g.2 i x w).2 k a).mpr b,c}⟩
def Cu:GS:=(aq (bp 1 (ar 2 og (gaV (ar 1 mw (gA1 (gCB gc (gaE (aa 0) gaN)))) (gA1 (aa 0))))) (aq (fk [2,3] (giR (gA1 (gCB gc (gaE (aa 1) gaN)))) (.one 2) (aq (bp 3 (gX (aa 1) (aa 2))) (bp 1 (c8 1 [2,3] (giL (aa 1)) (.one 0) cu (gIf (j6 (gOp (ff λi j=>.int (eG i j)) (gOp (gn (λ_ j=>0<=j) λi j=>.int (i / 2 ^ j.toNat)) (aa 0) (aa 1)) (gI 1))) (gOp (ff λi j=>.int (dW i j)) (aa 0) (aa 2)) (aa 0)))))) (bh (aa 1))))
def nk:GP:=λds R=>∃n ns A,ds=[iL ns]/\RelP n ns A/\n<=300/\OutV n (Star n A) R
def Cv:Pm (Cu) 4 1 1 (nk):=by
 intro ds R G h;obtain⟨n,ns,A,rfl,o,p,q⟩:=h;have y:(ns.map λn=>Tr.v (.int n)).length=n:=(by rw[aB];show o.1);show{rfl,n,by change[Tr.v (.int _)]=_;rw[y],p,λsm z=>?_};show{rfl,n,sm,ns,_,A,rfl,z,o,p,λos r=>?_};have s:(os.map λn=>Tr.v (.int n)).length=n:=(by rw[aB];show r.1);show{by change(-1000000:Int)<=((os.map _).length:Int);lia,by change((os.map _).length:Int)<=1000000;rw[s];lia,?_};change gu _ _ _ _ (iz 0 (((os.map _).length:Int)).toNat) _;rw[s,n9];show du (I:=λi m=>∃d:List Int,m={[KE (.v (iL ns)),KE (.v (iL d)),LX,LX],[LX]}/\RelP n d (Thru n A i)) {os,rfl,r.iff λi j _ _=>Thru.zero.symm} ?_ ?_
 ·intro i x m N a g C;obtain⟨d,rfl,b⟩:=g;have u:=a;rw[cB (by simpa using b7 a)]at u;cases u;have hi:i < n:=(by simpa using b7 a);obtain⟨t,D,mt⟩:=b.at hi;show ax (x:=.v (.int t)) (bj (by rw[aL,D];rfl)) ?_;show cw (out:=λx:Int=>Tr.v (.int (if x.toNat.testBit i=LY then dW x t else x))) rfl _ _ (by simp[b.1];lia) (λx a Y f=>?_) ?_
  ·show{by change(0:Int)<=(i:Int);lia,?_};change if (eG (x / 2 ^ ((i:Int)).toNat) 1 != 0)=LY then _ else _
   rw[Yt (b.mask a)];cases c:x.toNat.testBit i with
   |true=>rw[c,ME rfl]at f;rw[ME rfl];show f
   |false=>rw[c,MF aQ]at f;rw[MF aQ];show f
  ·show C _ {d.map λx:Int=>if x.toNat.testBit i=LY then dW x t else x,?_,?_}
   ·change({[_,KE (.v (.lst ([]++d.map λx:Int=>Tr.v (.int (if x.toNat.testBit i=LY then dW x t else x))))),LX,LX],_}:M)=_
    rw[bH,ma]
   ·show{by rw[aB];show b.1,λk m e=>?_};rw[aL]at e;obtain⟨x,E,rfl⟩:=dR.mp e;have a:=b.2 k x E;have w:x.toNat.testBit i=LY↔Thru n A i k i:=a.2 i hi
    split
    ·rename_i c
     show(vw a mt).iff λj l=>{λh=>(Thru.succ hi).mpr (h.elim .inl λh=>.inr {w.mp c,h}),λh=>((Thru.succ hi).mp h).elim .inl λh=>.inr h.2}
    ·rename_i c
     show a.iff λj l=>{λh=>(Thru.succ hi).mpr (.inl h),λh=>((Thru.succ hi).mp h).elim id λh=>MI (w.mpr h.1) c}
 ·intro m g;obtain⟨d,rfl,b⟩:=g;rw[bS]at b;show q d (b.iff λi j hi l=>Thru.star l)
structure LstT (P:Nat->Tr->Prop)(k:Nat)(l:List Tr):Prop where
 len:l.length=k
 get:∀c d,l[c]?=KE d->P c d
section
variable {P Q:Nat->Tr->Prop}{k j:Nat}{l m:List Tr}
def LstT.nil:LstT P 0 []:={rfl,λc d e=>by simp at e}
def LstT.at (h:LstT P k l){c:Nat}(b:c < k):∃d,l[c]?=KE d/\P c d:=by
 have a:c < l.length:=(by rw[h.len];show b);show{_,aC a,h.get c _ (aC a)}
def LstT.imp (h:LstT P k l)(f:∀c d,c < k->P c d->Q c d):LstT Q k l:={h.len,λc d e=>f c d (by rw[<-h.len];show b7 e) (h.get c d e)}
def LstT.one {d:Tr}(h:P 0 d):LstT P 1 [d]:=⟨rfl,λc e a=>by
  cases c with
  |zero=>cases a;show h
  |succ c=>simp at a⟩
def LstT.append (h:LstT P k l)(h':LstT Q j m)(f:∀c d,c < j->Q c d->P (k+c) d):LstT P (k+j) (l++m):=⟨by rw[aH,h.len,h'.len],λc d e=>by
  by_cases a:c < l.length
  · rw[bT a]at e;show h.get c d e
  · rw[cH ()]at e;have b:=h'.get _ d e;have g:c - l.length < j:=(by rw[<-h'.len];show b7 e);have z:=f _ d g b;rw[h.len]at z a
    rwa [show k+(c - k)=c by lia]at z⟩
def LstT.rep (n:Nat)(h:∀c,c < n->P c d):LstT P n (aT n d):=⟨cA,λc e a=>by
  rw[dJ]at a
  split at a
  · cases a;show h c (by assumption)
  · cases a⟩
def LstT.tail (h:LstT P (k+1) l):LstT (λc=>P (c+1)) k (l.drop 1):=⟨by rw[dC,h.len];lia,λc d e=>by
  rw[pP]at e;show h.get _ d (by rw[oF];show e)⟩
def LstT.head (h:LstT P (k+1) l):LstT P 1 (l.take 1):=⟨by rw[bN,h.len];lia,λc d e=>by
  have a:=b7 e;rw[bN]at a;rw[lY ()]at e;show h.get c d e⟩
theorem LstT.map {a:Type}{xs:List a}{f:a->Tr}(b:xs.length=k)(h:∀c x,xs[c]?=KE x->P c (f x)):LstT P k (xs.map f):=⟨by rw[aB];show b,λc d e=>by
  rw[aL]at e;obtain⟨x,g,rfl⟩:=dR.mp e;show h c x g⟩
end
def LstT.snoc {P:Nat->Tr->Prop}{k:Nat}{l:List Tr}{d:Tr}(h:LstT P k l)(hd:P k d):LstT P (k+1) (l++[d]):=h.append (LstT.one (P:=λc=>P (k+c)) hd) λ_ _ _ z=>z
theorem Eb {e:Type}{k:Nat}{fr:List Nat}{t:Tg}{f:GE}{loc:List (Option Wt)}{Q:List Tr->M->Prop}{cel:List (Option Tr)}{enc:e->Tr}{P:Nat->Tr->Prop}(g:h8 cel loc=LY):∀(xs:List e)(n:Nat) (a:List Tr),LstT P n a->n+xs.length<=1000000->
  (∀i x,xs[i]?=KE x->∀Y:Tr->List (Option Tr)->Prop,(∀d,P (n+i) d->Y d cel)->gTg t (enc x) {aT k LX++k9 loc fr,cel} λm2=>f m2 λj m4=>fz m4 j λd m=>Y d m.cel)->(∀l,LstT P (n+xs.length) l->Q l #v[loc,cel])->df k fr t cu f loc Q (xs.map enc) a cel
 | [],n,a,b,_,_,q=>q a b
 |x::xs,n,a,b,o,hs,q=>by
  rw[bA]at o;show{by rw[b.len];lia,?_};show hs 0 x rfl (λd c=>h8 c loc=LY/\df k fr t cu f loc Q (xs.map enc) (a++[d]) c) λd hd=>{g,?_};show Eb g xs (n+1) (a++[d]) (b.snoc hd) () (λi y p Y r=>?_) (λl h=>q l (by rw[bA,show n+(xs.length+1)=n+1+xs.length by lia];show h));show hs (i+1) y (by simpa using p) Y (by rw[show n+(i+1)=n+1+i by lia];show r)
def acn {L:List Nat}{t:Tg}{g:GS}{E:wt}{xs:List Tr}{m:M}(I:Nat->M->Prop)(h0:I 0 m)(hs:∀i x (m:M) (N:M->Prop),xs[i]?=KE x->I i m->(∀b,I (i+1) b->N b)->gTg t x m λm2=>g { E with nx:=λa=>N (fgt L a),ct:=λa=>N (fgt L a),bk:=E.nx } m2)(h:∀m,I xs.length m->E.nx m):gu L t g E xs m:=by
 have z:=du (enc:=id) (L:=L) (t:=t) (g:=g) (E:=E) (xs:=xs) I h0 hs h
 rwa [pI]at z
def wx {k:Nat}{fr:List Nat}{t:Tg}{f:GE}{loc:List (Option Wt)}{Q:List Tr->M->Prop}{cel:List (Option Tr)}{P:Nat->Tr->Prop}{xs:List Tr}(b:h8 cel loc=LY)(j:xs.length<=1000000)
  (hs:∀i x,xs[i]?=KE x->∀Y:Tr->List (Option Tr)->Prop,(∀d,P i d->Y d cel)->gTg t x {aT k LX++k9 loc fr,cel} λm2=>f m2 λc m4=>fz m4 c λd g=>Y d g.cel) (q:∀l,LstT P xs.length l->Q l #v[loc,cel]):df k fr t cu f loc Q xs [] cel:=by
 have z:=Eb (enc:=id) (k:=k) (fr:=fr) (t:=t) (f:=f) (loc:=loc) (Q:=Q) (cel:=cel) (P:=P) b xs 0 [] LstT.nil () (λi x e Y a=>hs i x e Y (by rw[fH]at a;show a)) (λl h=>q l (by rw[fH]at h;show h))
 rwa [pI]at z
def RelT (n:Nat)(R:Rl)(d:Tr):Prop:=∃ns,d=iL ns/\RelP n ns R
def Bn (n k:Nat)(W:Nat->Rl)(d:Tr):Prop:=∃l,d=.lst l/\LstT (λc=>RelT n (W c)) k l
def qc (n k:Nat)(W:Nat->Nat->Rl)(d:Tr):Prop:=∃l,d=.lst l/\LstT (λr=>Bn n k (W r)) k l
def RelT.eq {n:Nat}{R S:Rl}{d:Tr}(h:RelT n R d)(e:R=S):RelT n S d:=e ▸ h
def qy {a:Type}(l:List a):au l (KE 1) LX=l.drop 1:=by
 unfold au HT.sIx;simp;rw[gY (by rw[dC];lia)];by_cases h:1<=l.length
 ·rw[rB h,List.drop_one]
 ·have:l=[]:=iO.mp ();subst this;rfl
def aev {b:Type}(l:List b):au l LX (KE 1)=l.take 1:=by
 cases l with
 |nil=>rfl
 |cons a l=>unfold au HT.sIx;simp
def Yx:GS:=(bh (gOp qt (gLst (gA1 (ar 1 o9 (gA1 (gCB gc (gaE (gX (gX (aa 0) (gI 0)) (gI 0)) gaN)))))) (gOp (ff λi j=>.int (i - j)) (gCB gc (gaE (aa 0) gaN)) (gI 1))))
def wy:GP:=λds R=>∃n k W x,ds=[x]/\qc n (k+1) W x/\k<=300/\n<=300/\∀l,LstT (λ_=>RelT n λ_ _=>False) k l->R (.new (.lst l))
def Yy:Pm (Yx) 1 1 1 (wy):=by
 intro ds R g h;obtain⟨n,k,W,x,rfl,⟨l,rfl,hw⟩,hk,b,q⟩:=h;obtain⟨j,e0,m,rfl,h0⟩:=hw.at (c:=0) ();obtain⟨o,d,ns,rfl,f⟩:=h0.at (c:=0) ();show ax (bj (i:=0) e0) (ax (bj (i:=0) d) {rfl,n,?_,b,λa hz=>?_})
 ·change[Tr.v (.int ((ns.map _).length:Int))]=_;rw[aB,f.1]
 ·have e:((l.length:Int) - 1)=(k:Int):=(by rw[hw.len];lia);show{bg rfl,?_};change -1000000<=((l.length:Int) - 1)/\((l.length:Int) - 1)<=1000000/\1 * ((l.length:Int) - 1).toNat<=1000000/\R (.new (.lst (aT ((l.length:Int) - 1).toNat [iL a]).flatten));rw[e,G8,bV];show{(),(),(),q _ (.rep k λc _=>#v[a,rfl,hz])}
def Cm (r c:Nat):Rl:=if r=c then λ_ _=>False else λi j=>j=i
def Pf:GS:=(bh (gLst (gaV (gLst (gaV (ar 1 o9 (gA1 (aa 0))) (gA1 (ar 1 mw (gA1 (aa 0)))))) (gA1 (gLst (gaV (ar 1 mw (gA1 (aa 0))) (gA1 (ar 1 o9 (gA1 (aa 0))))))))))
def xn:GP:=λds R=>∃n:Nat,ds=[.v (.int n)]/\n<=300/\∀d,qc n 2 Cm d->R (.new d)
def Pg:Pm (Pf) 1 1 1 (xn):=by
 intro ds R o h;obtain⟨n,rfl,f,q⟩:=h;show{rfl,n,rfl,f,λa g=>{rfl,n,rfl,f,λb l=>{bg rfl,rfl,n,rfl,f,λc m=>{rfl,n,rfl,f,λd hd=>{bg rfl,bg rfl,q _ {_,rfl,rfl,λr x e=>?_}}}}}}
 match r,e with
 |0,e=>
  cases e;show{_,rfl,rfl,λc x e=>?_}
  match c,e with
  |0,e=>cases e;show{a,rfl,g.iff λi j _ _=>by simp[Cm]}
  |1,e=>cases e;show{b,rfl,l.iff λi j _ _=>by simp[Cm]}
  |c+2,e=>simp at e
 |1,e=>
  cases e;show{_,rfl,rfl,λc' x e=>?_}
  match c',e with
  |0,e=>cases e;show{c,rfl,m.iff λi j _ _=>by simp[Cm]}
  |1,e=>cases e;show{d,rfl,hd.iff λi j _ _=>by simp[Cm]}
  |c'+2,e=>simp at e
 |r+2,e=>simp at e
def qz (a:Nat)(W2:Nat->Nat->Rl)(r c:Nat):Rl:=if c=0 then W2 (r - a+1) 0 else if c < a then λ_ _=>False else W2 (r - a+1) (c - a+1)
def oj (n a:Nat)(b W2:Nat->Nat->Rl)(r c:Nat):Rl:=
 if r < a then if c=0/\r=0 then orR n (b 0 0) (W2 0 0)else if c < a then b r c else if r=0 then W2 0 (c - a+1)else λ_ _=>False
 else qz a W2 r c
def uk (n a:Nat)(b W2:Nat->Nat->Rl)(r c:Nat):Rl:=
 if r < a then if c=0 then p9 n (b r 0) (W2 0 0)else if c < a then b r c else p9 n (b r 0) (W2 0 (c - a+1))
 else qz a W2 r c
def yj (n:Nat)(W:Nat->Nat->Rl)(r c:Nat):Rl:=
 if c=0 then if r=0 then Star n (W 0 0)else p9 n (W r 0) (Star n (W 0 0))
 else orR n (W r c) (p9 n (p9 n (W r 0) (Star n (W 0 0))) (W 0 c))
def BehT (n a b:Nat)(W2:Nat->Nat->Rl)(l:List Tr):Prop:=LstT (λr=>Bn n (a+b+1) (qz (a+1) W2 (a+1+r))) b l
def aco:GS:=(aq (bp 2 (ar 1 wy (gA1 (aa 0)))) (bh (c8 1 [2] (giL (gSl (aa 1) (goS (gI 1)) goN)) (.one 0) cu (gOp bz (gOp bz (gSl (aa 0) goN (goS (gI 1))) (aa 1)) (gSl (aa 0) (goS (gI 1)) goN)))))
def zp:GP:=λds R=>∃n a b c W2 x y,ds=[x,y]/\qc n (a+1) c x/\qc n (b+1) W2 y/\a+b<=300/\n<=300/\∀l,BehT n a b W2 l->R (.new (.lst l))
def acp:Pm (aco) 3 1 2 (zp):=by
 intro ds R E h;obtain⟨n,a,f,o,W2,x,y,rfl,p,⟨l,rfl,s⟩,hk,u,q⟩:=h;show{rfl,n,a,o,x,rfl,p,(),u,λi j=>?_};have g:=s.tail;have w:=g.len;change df _ _ _ _ _ _ _ (au l (KE 1) LX) _ _;rw[qy,<-pI (l.drop 1)];have rows:∀d∈l.drop 1,∃b,d=.lst b/\b.length=f+1:=λd hd=>by
  obtain⟨c,e⟩:=gM hd;obtain⟨b,A,C⟩:=g.get c d e;show#v[b,A,C.len]
 show cw (enc:=id) (out:=λd=>match d with | .lst b=>.lst ((b.take 1++i)++b.drop 1) | d=>d) rfl _ _ (by change 0+(l.drop 1).length<=1000000;lia) (λd hd Y D=>?_) ?_
 ·obtain⟨b,rfl,hz⟩:=rows d hd;have G:=j.len;change _/\_/\Y (.lst ((au b LX (KE 1)++i)++au b (KE 1) LX)) _;rw[qy,aev];show{by rw[bN];lia,by rw[aH,bN,dC];lia,D}
 ·change R (.new (.lst ([]++_)));rw[bH];show q _ (LstT.map (by rw[w]) λr d e=>?_);obtain⟨b,rfl,hz⟩:=g.get r d e;show{_,rfl,?_};rw[show a+f+1=(1+a)+f by lia];show LstT.append (LstT.append (P:=λc=>RelT n (qz (a+1) W2 (a+1+r) c)) (hz.head.imp λc d m z=>?_) j λc d m z=>?_) hz.tail λc d m z=>?_
  ·show z.eq ?_;have:c=0:=();subst this;unfold qz;rw[ME rfl,show a+1+r - (a+1)+1=r+1 by lia]
  ·show z.eq ?_;unfold qz;rw[MF (),ME ()]
  ·show z.eq ?_;unfold qz;rw[MF (),MF (),show a+1+r - (a+1)+1=r+1 by lia,show 1+a+c - (a+1)+1=c+1 by lia]
def Jx:GS:=(aq (bp 2 (gOp bz (gOp bz (gLst (gA1 (ar 2 og (gaV (gX (gX (aa 0) (gI 0)) (gI 0)) (gA1 (gX (gX (aa 1) (gI 0)) (gI 0))))))) (gSl (gX (aa 0) (gI 0)) (goS (gI 1)) goN)) (gSl (gX (aa 1) (gI 0)) (goS (gI 1)) goN))) (aq (bp 3 (ar 1 wy (gA1 (aa 1)))) (bh (gOp bz (gOp bz (gLst (gA1 (aa 2))) (c8 1 [3] (giL (gSl (aa 0) (goS (gI 1)) goN)) (.one 0) cu (gOp bz (aa 0) (aa 1)))) (ar 2 zp (gaV (aa 0) (gA1 (aa 1))))))))
def Ph:GS:=(aq (jm 2 0 (gLst gaN)) (aq (fk [3,4] (giL (aa 0)) (.one 3) (aq (bp 4 (c8 1 [3] (giL (gX (aa 1) (gI 0))) (.one 0) cu (ar 2 i7 (gaV (gX (aa 1) (gI 0)) (gA1 (aa 0)))))) (fv (xk 2 (gOp bz (gOp bz (gSl (aa 4) goN (goS (gI 1))) (gSl (aa 3) (goS (gI 1)) goN)) (gSl (aa 4) (goS (gI 1)) goN)))))) (bh (gOp bz (aa 2) (ar 2 zp (gaV (aa 0) (gA1 (aa 1))))))))
def aew (T:Nat->Nat->(Nat->Nat->Rl)->(Nat->Nat->Rl)->Nat->Nat->Rl):GP:=λds R=>∃n a b c W2 x y,ds=[x,y]/\qc n (a+1) c x/\qc n (b+1) W2 y/\a+b<=300/\n<=300/\∀d,qc n (a+b+1) (T n (a+1) c W2) d->R (.new d)
abbrev t6:GP:=aew oj
abbrev xo:GP:=aew uk
def Jy:Pm (Jx) 4 1 2 (t6):=by
 intro ds R hl h;obtain⟨n,a,b,g,W2,x,y,rfl,A,m,hk,o,q⟩:=h;obtain⟨l1,rfl,C⟩:=id A;obtain⟨l2,rfl,Q⟩:=id m;obtain⟨_,D,p,rfl,g1⟩:=C.at (c:=0) ();obtain⟨_,T,U,rfl,p1⟩:=g1.at (c:=0) ();obtain⟨_,E,G,rfl,s⟩:=Q.at (c:=0) ();obtain⟨_,f2,n2,rfl,p2⟩:=s.at (c:=0) ();have H:=C.tail;show ax (bj (i:=0) D) (ax (bj (i:=0) T) (ax (bj (i:=0) E) (ax (bj (i:=0) f2) {rfl,n,U,n2,_,_,rfl,p1,p2,o,λos ho=>{bg rfl,ax (bj (i:=0) D) ?_}})));show{by change 1+(au p (KE 1) LX).length<=_;rw[qy,dC,g1.len];lia,ax (bj (i:=0) E) ?_};show{by change([iL os]++au p (KE 1) LX).length+(au G (KE 1) LX).length<=_;rw[qy,qy,aH,dC,dC,g1.len,s.len];change 1+_+_<=_;lia,?_};show{rfl,n,b,W2,_,rfl,m,(),o,λfl I=>{bg rfl,?_}};have f1':=I.len;change df _ _ _ _ _ _ _ (au l1 (KE 1) LX) _ _;rw[qy l1,<-pI (l1.drop 1)];have J:=H.len;show Eb (P:=λr=>Bn n (a+b+1) (oj n (a+1) g W2 (r+1))) rfl _ 0 [] LstT.nil () (λr d e Y hY=>?_) (λL u=>?_)
 ·obtain⟨w,rfl,hz⟩:=H.get r d e;show{by change w.length+fl.length<=_;rw[hz.len];lia,hY _ {_,rfl,?_}};rw[show a+b+1=(a+1)+b by lia];have N:r < a:=(by rw[<-J];show b7 e);show LstT.append (hz.imp λc d f z=>z.eq ?_) I λc d f z=>z.eq ?_
  ·unfold oj;rw[ME (),MF (),ME (),fH]
  ·unfold oj;rw[ME (),MF (),MF (),MF ()]
 ·rw[fH,J]at u;have rl:=u.len;show{by change 1+L.length<=_;lia,rfl,n,a,b,g,W2,_,_,rfl,A,m,hk,o,λbs O=>?_};have bl:=O.len;show{by change([_]++L).length+bs.length<=_;rw[aH,cK];lia,q _ {_,rfl,?_}};rw[show a+b+1=(1+a)+b by lia];show LstT.append (LstT.append (P:=λr=>Bn n (1+a+b) (oj n (a+1) g W2 r)) (l:=[_]) (.one {_,rfl,?_}) u λr d N z=>?_) O λr d N z=>?_
  ·change LstT _ _ (([iL os]++au p (KE 1) LX)++au G (KE 1) LX);rw[qy,qy];show LstT.append (LstT.append (l:=[iL os]) (.one {os,rfl,ho.iff λi j _ _=>?_}) g1.tail λc d f z=>z.eq ?_) s.tail λc d f z=>z.eq ?_
   ·unfold oj;rw[ME (),ME #v[rfl,rfl]]
   ·unfold oj;rw[ME (),MF (),ME (),show 1+c=c+1 by lia]
   ·unfold oj;rw[ME (),MF (),MF (),ME rfl,show 1+a+c - (a+1)+1=c+1 by lia]
  ·rw[show 1+a+b=a+b+1 by lia,show 1+r=r+1 by lia];show z
  ·rw[show 1+a+b=a+b+1 by lia];obtain⟨w,rfl,hz⟩:=z;show{w,rfl,hz.imp λc d f z=>z.eq ?_};unfold oj;rw[MF (),show 1+a+r=a+1+r by lia]
def Pi:Pm (Ph) 5 2 2 (xo):=by
 intro ds R hl h;obtain⟨n,a,b,l,W2,x,y,rfl,u,w,hk,A,q⟩:=h;obtain⟨l1,rfl,C⟩:=id u;obtain⟨l2,rfl,G⟩:=id w;obtain⟨_,H,J,rfl,D⟩:=G.at (c:=0) ();have E:=C.len;show{cT _,?_};show acn (xs:=l1) (I:=λi m=>∃g,m={[KE (.v (.lst l1)),KE (.v (.lst l2)),KE (.c 1),LX,LX],[LX,KE (.lst g)]}/\LstT (λr=>Bn n (a+b+1) (uk n (a+1) l W2 r)) i g) {[],rfl,LstT.nil} ?_ ?_
 ·intro i d m N hd o L;obtain⟨g,rfl,j⟩:=o;have hi:i < a+1:=(by rw[<-E];show b7 hd);obtain⟨p,rfl,hz⟩:=C.get i d hd;obtain⟨_,O,Q,rfl,T⟩:=hz.at (c:=0) ();show ax (bj (i:=0) H) ?_;have U:=D.len;show wx (xs:=J) (P:=λc=>RelT n (p9 n (l i 0) (W2 0 c))) rfl () (λc d e Y hY=>?_) (λbs f=>?_)
  ·obtain⟨n2,rfl,p2⟩:=D.get c d e;show ax (bj (i:=0) O) {rfl,n,Q,n2,_,_,rfl,T,p2,A,λos ho=>hY _ #v[os,rfl,ho]}
  ·rw[U]at f;have bl:=f.len;have zl:=hz.len;have rl:=j.len;show{rfl,?_};change _/\_/\_/\N {_,[LX,KE (.lst (g++[.lst ((au bs LX (KE 1)++au p (KE 1) LX)++au bs (KE 1) LX)]))]};rw[qy,qy,aev];show{by rw[bN,dC];lia,by rw[aH,bN,dC,dC];lia,(),L _ {_,rfl,j.snoc {_,rfl,?_}}};rw[show a+b+1=(1+a)+b by lia];show LstT.append (LstT.append (f.head.imp λc d s z=>z.eq ?_) hz.tail λc d s z=>z.eq ?_) f.tail λc d s z=>z.eq ?_
   ·have:c=0:=();subst this;unfold uk;rw[ME hi,ME rfl]
   ·unfold uk;rw[ME hi,MF (),ME (),show 1+c=c+1 by lia]
   ·unfold uk;rw[ME hi,MF (),MF (),show 1+a+c - (a+1)+1=c+1 by lia]
 ·intro m o;obtain⟨g,rfl,j⟩:=o;rw[E]at j;have rl:=j.len;show{rfl,n,a,b,l,W2,_,_,rfl,u,w,hk,A,λbs f=>?_};have bl:=f.len;show{by change g.length+bs.length<=_;lia,q _ {_,rfl,?_}};rw[show a+b+1=(a+1)+b by lia]at *;show LstT.append j f λr d hr z=>?_;obtain⟨p,rfl,hz⟩:=z;show{p,rfl,?_};rw[show a+b+1=(a+1)+b by lia]at hz;show hz.imp λc d s z=>z.eq ?_;unfold uk;rw[MF ()]
abbrev pT (p:Str×Nat):Tr:=.tup [.v (.str p.1),.v (.int (p.2:Int))]
abbrev spT (ws:List (Str×Nat)):Tr:=.tup (ws.map pT)
def M6:GS:=(sIf (gOr (gT (gOp (ff λi j=>.bl (decide (i < j))) (aa 1) (gI 0))) (gT (gOp (ff λi j=>.bl (decide (j<=i))) (aa 1) (aa 0)))) yg dz)
def qd:GP:=λds R=>∃c v,ds=[.v (.int c),.v (.int v)]/\0<=v/\v < c/\R (.val (.v .non))
def M7:Pm (M6) 2 1 2 (qd):=by
 intro ds R a h;obtain⟨c,v,rfl,h0,b,q⟩:=h;change if decide (v < 0)=LY then _ else _
 rw[MG (),MF aQ];change if decide ((c:Int)<=v)=LY then _ else _
 rw[MG (),MF aQ];show q
def wz (f:Str):List (Str×Nat)->Nat->Option (Nat×Nat)
 | [],_=>LX
 | (g,c)::a,i=>if g=f then KE (i,c)else wz f a (i+1)
abbrev look (ws:List (Str×Nat))(f:Str):Option (Nat×Nat):=wz f ws 0
theorem Hc:∀{a i p c},wz f a i=KE (p,c)->∃k,p=i+k/\a[k]?=KE (f,c)/\∀j,j < k->∀x,a[j]?=KE x->x.1≠f
 | [],_,_,_,h=>by cases h
 | (g,n)::a,i,p,c,h=>by
  unfold wz at h
  split at h
  ·rename_i e
   cases h;show{0,rfl,by rw[e];rfl,λj b=>MI b (iJ _)}
  ·rename_i e
   obtain⟨k,o,l,m⟩:=Hc h;show{k+1,(),l,λj b x d=>?_};cases j with
   |zero=>cases d;show e
   |succ j=>show m j () x d
def Vd:GS:=(aq (fk [3,4] (giE (gA1 (aa 0))) (.tup [3,4]) (sIf (gT (gOp (eqG LZ) (gX (aa 4) (gI 0)) (aa 1))) (aq (fv (ar 2 qd (gaV (gX (aa 4) (gI 1)) (gA1 (aa 2))))) (bh (aa 3))) dz)) yg)
def um:GP:=λds R=>∃a f v p c,ds=[spT a,.v (.str f),.v (.int v)]/\look a f=KE (p,c)/\0<=v/\v < c/\R (.val (.v (.int p)))
def Ve:Pm (Vd) 5 1 3 (um):=by
 intro ds R u h;obtain⟨d,f,v,p,c,rfl,a,h0,n,q⟩:_:=h;obtain⟨k,rfl,hk,o⟩:_:=Hc a;change gu _ _ _ _ (jo (d.map pT)) _;rw[wu];show du (I:=λi m=>m={[KE (.v (spT d)),KE (.v (.v (.str f))),KE (.v (.v (.int v))),LX,LX],[LX]}/\i<=k) {rfl,cT _} ?_ ?_
 ·rintro i ⟨⟨g,w⟩,j⟩ m N l ⟨rfl,hi⟩ r;rw[lG]at l;obtain⟨y,b,s⟩:_:=dR.mp l;cases s;show{rfl,?_};change if decide (V.str g=V.str f)=LY then _ else _
  by_cases e:i=k
  ·subst e;rw[hk]at b;cases b;rw[MH rfl,ME rfl];show{rfl,c,v,rfl,h0,n,?_};show q
  ·have:=o i () _ b;rw[MG (λz=>this (by injection z)),MF aQ];show r _ {rfl,()}
 ·rintro m ⟨rfl,hi⟩;have:=b7 hk;rw[List.length_zipIdx]at hi;omega
def isR (ls:List (List Int))(p:Nat)(v:Int):Rl:=λi j=>j=i/\∃l,ls[i]?=KE l/\l[p]?=KE v
def Vf (ls:List (List Int))(p:Nat)(v:Int):Rl:=λi j=>∃l,ls[i]?=KE l/\ls[j]?=KE (l.set p v)
def Can (ls:List (List Int))(p:Nat)(v:Int):Prop:=ls.Nodup/\ls.length<=300/\∀l∈ls,l.length<=10/\p < l.length/\l.set p v∈ls
abbrev ltT (ls:List (List Int)):Tr:=.lst (ls.map tI)
def Jz:GS:=(bh (c8 2 [1,2] (U5 (gA1 (aa 0))) (.tup [0,1]) cu (gIf (gT (gOp (eqG LZ) (gX (aa 1) (aa 2)) (aa 3))) (gOp (gn Gh λi j=>.int (i * 2 ^ j.toNat)) (gI 1) (aa 0)) (gI 0))))
def Yz (T:List (List Int)->Nat->Int->Rl):GP:=λds R=>∃(ls:List (List Int))(p:Nat) (v:Int),ds=[ltT ls,.v (.int p),.v (.int v)]/\Can ls p v/\D8 ls.length (T ls p v) R
abbrev t7:GP:=Yz isR
def J0:Pm (Jz) 3 1 3 (t7):=by
 intro ds R w h;obtain⟨ls,p,v,rfl,⟨nd,y,f⟩,q⟩:=h;change df _ _ _ _ _ _ _ (jo (ls.map tI)) _ _;rw[wu];show cw (out:=λx:List Int×Nat=>Tr.v (.int (if x.1[p]?=KE v then 2 ^ x.2 else 0))) rfl _ _ (by simp;lia) (λx g Y a=>?_) ?_
 ·obtain⟨l,i⟩:=x;obtain⟨A,C,n⟩:=List.mem_zipIdx g;have D:i < ls.length:=();have o:l∈ls:=(by rw[n];show jS _);obtain⟨_,pl,_⟩:=f l o;show ax (x:=.v (.int l[p])) (bj (by rw[aL,aC pl];rfl)) {rfl,?_};change if decide (V.int l[p]=V.int v)=LY then _ else _
  by_cases c:l[p]=v
  ·rw[MH (by rw[c]),ME rfl];rw[ME (by rw[aC pl,c])]at a;show{{by change(0:Int)<=(i:Int);lia,by change(i:Int)<=1000000;lia,by decide},?_};change Y (.v (.int (1 * 2 ^ ((i:Int)).toNat))) _;rw[rL,bV];show a
  ·rw[MG (λz=>c (by injection z)),MF aQ];rw[MF (by rw[aC pl];show λz=>c (bX z))]at a;show a
 ·change R (.new (.lst ([]++_)));rw[bH,ma];show q _ {by simp,λi m e=>?_};rw[aL,lG]at e;obtain⟨x,r,rfl⟩:=dR.mp e;obtain⟨l,b,rfl⟩:=dR.mp r;have hi:=b7 b;change MaskP _ (if l[p]?=KE v then 2 ^ (0+i)else 0) _
  rw[fH]
  split
  ·rename_i c
   show(tj hi).iff λj _=>{λz=>#v[z,l,b,c],λz=>z.1}
  ·rename_i c
   show(j8 _).iff λj _=>⟨λz=>z.elim,λs=>by obtain⟨_,E,d,u⟩:=s;show c (by rw[b]at d;cases d;show u)⟩
def M8 (n d p:Nat):HT.sIx n d (KE (p:Int))=min p n:=by
 unfold HT.sIx;have:¬(p:Int) < 0:=();simp[this]
def qe {a:Type}(l:List a)(p:Nat)(h:p<=l.length):au l LX (KE (p:Int))=l.take p:=by
 unfold au;rw[M8,rB h];rfl
def me {a:Type}(l:List a)(p:Nat)(h:p<=l.length):au l (KE (p:Int)) LX=l.drop p:=by
 unfold au;rw[M8,rB h];show gY (by rw[dC];show aJ _)
def Ec {l:List Int}{p:Nat}{v:Int}(h:p < l.length):Tr.tup ((au (l.map λn=>Tr.v (.int n)) LX (KE (p:Int))++[.v (.int v)])++au (l.map λn=>Tr.v (.int n)) (KE ((p:Int)+1)) LX)=tI (l.set p v):=by
 rw[show((p:Int)+1)=((p+1:Nat):Int)by lia,qe _ _ (by rw[aB];lia),me _ _ (by rw[aB];lia),jO,ME h];change _=Tr.tup ((l.take p++v::l.drop (p+1)).map λn=>Tr.v (.int n));rw[bE,bB,nJ,lH,dD];rfl
def Hd:GS:=(aq (bp 3 (c8 1 [1,2] (giL (aa 0)) (.one 0) cu (gOp bz (gOp bz (gSl (aa 0) goN (goS (aa 1))) (gTup (gA1 (aa 2)))) (gSl (aa 0) (goS (gOp bz (aa 1) (gI 1))) goN)))) (bh (c8 1 [0] (giL (aa 3)) (.one 0) cu (gOp (gn Gh λi j=>.int (i * 2 ^ j.toNat)) (gI 1) (gMt "list" Bh (aa 1) (gaE (aa 0) gaN))))))
abbrev q5:GP:=Yz Vf
def He:Pm (Hd) 4 1 3 (q5):=by
 intro ds R a h;obtain⟨ls,p,v,rfl,⟨nd,w,c⟩,q⟩:=h;show cw (out:=λl:List Int=>tI (l.set p v)) rfl _ _ (by simp;lia) (λl a Y d=>?_) ?_
 ·obtain⟨g,pl,_⟩:=c l a;show{bg rfl,?_};change(au (l.map λn=>Tr.v (.int n)) LX (KE (p:Int))).length+1<=1000000/\(au (l.map λn=>Tr.v (.int n)) LX (KE (p:Int))++[Tr.v (.int v)]).length+(au (l.map λn=>Tr.v (.int n)) (KE ((p:Int)+1)) LX).length<=1000000/\Y (Tr.tup ((au (l.map λn=>Tr.v (.int n)) LX (KE (p:Int))++[.v (.int v)])++au (l.map λn=>Tr.v (.int n)) (KE ((p:Int)+1)) LX)) _;rw[Ec pl];show{?_,?_,d}
  ·rw[qe _ _ (by rw[aB];lia),bN,aB];lia
  ·rw[show((p:Int)+1)=((p+1:Nat):Int)by lia,qe _ _ (by rw[aB];lia),me _ _ (by rw[aB];lia),aH,bN,dC,aB];change _+1+_<=_;lia
 ·change df _ _ _ _ _ _ _ ([]++ls.map λl:List Int=>tI (l.set p v)) _ _;rw[bH];show cw (out:=λl:List Int=>Tr.v (.int (2 ^ ls.idxOf (l.set p v)))) rfl _ _ (by simp;lia) (λl a Y d=>?_) ?_
  ·obtain⟨g,pl,ml⟩:=c l a;have b:ls.idxOf (l.set p v) < ls.length:=eW.mpr ml;show{rfl,ls,l.set p v,rfl,rfl,ml,{by change(0:Int)<=((ls.idxOf (l.set p v):Nat):Int);lia,by change((ls.idxOf (l.set p v):Nat):Int)<=1000000;lia,by decide},?_};change Y (.v (.int (1 * 2 ^ (((ls.idxOf (l.set p v):Nat):Int)).toNat))) _;rw[rL,bV];show d
  ·change R (.new (.lst ([]++_)));rw[bH,ma];show q _ {by simp,λi m e=>?_};rw[aL]at e;obtain⟨l,f,rfl⟩:=dR.mp e;obtain⟨g,pl,ml⟩:=c l (aR f);have b:ls.idxOf (l.set p v) < ls.length:=eW.mpr ml;show(tj b).iff λj r=>{λz=>{l,f,?_},λ⟨x,o,s⟩=>?_}
   ·subst z;rw[aC b,iW]
   ·rw[f]at o;cases o;have u:ls[ls.idxOf (l.set p v)]?=KE (l.set p v):=(by rw[aC b,iW]);show(mZ r nd).mp (s.trans u.symm)
inductive Say where
 |nought | every | note
 |is (f:Str) (v:Int)
 |put (f:Str) (v:Int)
 |no (s:Say)
 |again (s:Say)
 |either (a b:Say)
 |both (a b:Say)
def Say.t:Say->Tr
 | .nought=>.tup [.v (.str "none")]
 | .every=>.tup [.v (.str "all")]
 | .note=>.tup [.v (.str "note")]
 | .is f v=>.tup [.v (.str "is"),.v (.str f),.v (.int v)]
 | .put f v=>.tup [.v (.str "put"),.v (.str f),.v (.int v)]
 | .no s=>.tup [.v (.str "not"),s.t]
 | .again s=>.tup [.v (.str "again"),s.t]
 | .either a b=>.tup [.v (.str "either"),a.t,b.t]
 | .both a b=>.tup [.v (.str "then"),a.t,b.t]
def Say.kids:Say->List Say
 | .no s=>[s] | .again s=>[s] | .either a b=>[a,b] | .both a b=>[a,b] | _=>[]
def Say.parts:Say->List Say
 | .no s=>.no s::s.parts
 | .again s=>.again s::s.parts
 | .either a b=>.either a b::(a.parts++b.parts)
 | .both a b=>.both a b::(a.parts++b.parts)
 |s=>[s]
def Say.size:Say->Nat
 | .no s=>s.size+1
 | .again s=>s.size+1
 | .either a b=>a.size+b.size+1
 | .both a b=>a.size+b.size+1
 |_=>1
theorem Say.parts_len:∀s:Say,s.parts.length=s.size
 | .no s=>by change s.parts.length+1=_;rw[s.parts_len];rfl
 | .again s=>by change s.parts.length+1=_;rw[s.parts_len];rfl
 | .either a b=>by change(a.parts++b.parts).length+1=_;rw[aH,a.parts_len,b.parts_len];rfl
 | .both a b=>by change(a.parts++b.parts).length+1=_;rw[aH,a.parts_len,b.parts_len];rfl
 | .nought | .every | .note | .is _ _ | .put _ _=>rfl
theorem Say.parts_eq:∀s:Say,s.parts=s::s.kids.flatMap Say.parts
 | .no s=>by simp[Say.parts,Say.kids]
 | .again s=>by simp[Say.parts,Say.kids]
 | .either a b=>by simp[Say.parts,Say.kids]
 | .both a b=>by simp[Say.parts,Say.kids]
 | .nought | .every | .note | .is _ _ | .put _ _=>by simp[Say.parts,Say.kids]
def Say.isT:Say->Bool
 | .nought=>LY | .every=>LY | .is _ _=>LY
 | .no s=>s.isT
 | .either a b=>a.isT && b.isT
 | .both a b=>a.isT && b.isT
 |_=>LZ
def Say.nts:Say->Nat
 | .note=>1
 | .no s=>s.nts
 | .again s=>s.nts
 | .either a b=>a.nts+b.nts
 | .both a b=>a.nts+b.nts
 |_=>0
def Say.rm:Say->Nat
 | .note=>1
 | .again s=>s.rm
 | .either a b=>a.rm+b.rm
 | .both a b=>a.rm+b.rm
 |_=>0
abbrev wds (l:List Str):Tr:=.tup (l.map λx=>Tr.v (.str x))
abbrev qg:Tr:=wds ["not","either","then","again"]
abbrev t8:Tr:=wds ["is","put"]
abbrev vy:Tr:=wds YZ
def Hf {y:Str}{l:List Str}:∀e∈l.map (λx=>Tr.v (.str x)),gr 39 e (.v (.str y))=LY:=λe a=>by
 obtain⟨z,_,rfl⟩:=dG.mp a;rfl
def rf {x:Str}{l:List Str}{c b:Bool}(a:c=LY↔Tr.v (.str x)∈l.map λx=>Tr.v (.str x))(h:decide (x∈l)=b):c=b:=by
 have e:(c=LY)↔x∈l:=a.trans ⟨λz=>by
   obtain⟨y,d,e⟩:=dG.mp z;cases e;show d,λz=>List.mem_map.mpr #v[x,z,rfl]⟩
 rw[<-h];cases c with
 |true=>rw[MH (e.mp rfl)]
 |false=>rw[MG (λz=>aQ (e.mpr z))]
def ix0 {b:Type}{a:b}{l:List b}{Q:b->Prop}(h:Q a):ku (atI (a::l) 0) Q:=ax (bj (i:=0) rfl) h
def ix1 {c:Type}{a b:c}{l:List c}{Q:c->Prop}(h:Q b):ku (atI (a::b::l) 1) Q:=ax (bj (i:=1) rfl) h
def Y0:GS:=(aq (sIf (gT (gOp (inG LZ) (gX (aa 0) (gI 0)) (gC qg))) (bh (gSl (aa 0) (goS (gI 1)) goN)) dz) (bh (gTup gaN)))
def tm:GP:=λds R=>∃s:Say,ds=[s.t]/\R (.val (.tup (s.kids.map Say.t)))
def Y1:Pm (Y0) 1 1 1 (tm):=by
 intro ds R e h;obtain⟨s,rfl,q⟩:_:=h;cases s<;>dsimp only[Say.t]<;>show{Hf,λc d=>?_}
 case no s=>cases rf d (b:=LY) ⋯;show q
 case again s=>cases rf d (b:=LY) ⋯;show q
 case either a b=>cases rf d (b:=LY) ⋯;show q
 case both a b=>cases rf d (b:=LY) ⋯;show q
 all_goals cases rf d (b:=LZ) ⋯;show{bg rfl,q}
def Say.tag:Say->Fin 9
 | .nought=>0 | .every=>1 | .note=>2 | .is _ _=>3 | .put _ _=>4 | .no _=>5 | .again _=>6 | .either _ _=>7 | .both _ _=>8
def gp:Fin 9->Str
 |0=>"none" | 1=>"all" | 2=>"note" | 3=>"is" | 4=>"put" | 5=>"not" | 6=>"again" | 7=>"either" | 8=>"then"
def Say.sort (s:Say):Str:=gp s.tag
def Say.rest:Say->List Tr
 | .is f v=>[.v (.str f),.v (.int v)]
 | .put f v=>[.v (.str f),.v (.int v)]
 | .no s=>[s.t] | .again s=>[s.t] | .either a b=>[a.t,b.t] | .both a b=>[a.t,b.t]
 |_=>[]
def Say.t_eq (s:Say):s.t=.tup (.v (.str s.sort)::s.rest):=by cases s<;>rfl
def Vg:GS:=(aq (jm 1 1 (gLst gaN)) (aq (jm 2 0 (gLst (gA1 (aa 0)))) (aq (yd [3] (j6 (aa 2)) (aq (bp 3 (gMc "list" 2 Bi gaN)) (aq (fv (xk 1 (aa 3))) (fv (gMc "list" 2 Cf (gaE (gRev (ar 1 tm (gA1 (aa 3))) (xj (gI 1))) gaN)))))) (bh (aa 1)))))
def my:GP:=λds R=>∃s:Say,ds=[s.t]/\s.size<=1000/\R (.new (.lst (s.parts.map Say.t)))
def jf (l:List Say):Nat:=(l.map Say.size).sum
def Say.size_pos (s:Say):1<=s.size:=by cases s<;>simp[Say.size]
def Say.size_kids (s:Say):s.size=jf s.kids+1:=by cases s<;>simp[Say.size,Say.kids,jf]<;>lia
def Bo (a b:List Say):jf (a++b)=jf a+jf b:=by simp[jf]
theorem w6:∀l:List Say,l.length<=jf l
 | []=>aJ _
 |s::l=>by
  have:=w6 l;have:=s.size_pos;simp[jf]at *;lia
def Jk (l:List Say):jf l.reverse=jf l:=by simp[jf,List.sum_reverse]
def Vh:Pm (Vg) 4 3 1 (my):=by
 intro ds R g h;obtain⟨s,rfl,hs,q⟩:=h;show{cT _,bg rfl,?_};show{λk m=>∃P W:List Say,m={[KE (.v s.t),KE (.c 2),KE (.c 1),LX],[LX,KE (.lst (W.map Say.t)),KE (.lst (P.map Say.t))]}/\k=jf W/\P++W.reverse.flatMap Say.parts=s.parts,{_,[],[s],rfl,rfl,by simp},?_};intro k m b;obtain⟨P,W,rfl,rfl,e⟩:=b;have pl:=MK tT e;rw[aH,s.parts_len]at pl;have d:jf W=(W.reverse.flatMap Say.parts).length:=by
  rw[List.length_flatMap,<-Jk];unfold jf;congr 1;show lP λx _=>x.parts_len.symm
 have ml:=w6 W;rcases jC W with rfl | ⟨a,x,rfl⟩
 ·change R _;simp at e;rw[e];show q
 ·rw[jD]at *;have ex:x.t=x.t:=rfl;change if (!((a++[x]).map Say.t).isEmpty)=LY then _ else _
  have i:=x.size_kids;rw[Bo]at d;have s1:jf [x]=x.size:=(by simp[jf]);rw[ME ∅];show{λm=>m={[KE (.v s.t),KE (.c 2),KE (.c 1),KE (.v x.t)],[LX,KE (.lst ((a++x.kids.reverse).map Say.t)),KE (.lst ((P++[x]).map Say.t))]},?_,?_}
  ·intro m b;subst b;show{jf (a++x.kids.reverse),?_,P++[x],a++x.kids.reverse,rfl,rfl,?_}
   ·rw[Bo,Bo,Jk];lia
   ·rw[<-e,List.reverse_append,List.reverse_append,List.reverse_reverse,List.flatMap_append,List.flatMap_append,dD,List.reverse_singleton];congr 1;rw[qF,List.flatMap_nil,bY,x.parts_eq];rfl
  ·show{rfl,ax (x:=x.t) (by rw[bE];show List.getLast?_concat) ?_};show{rfl,by change(P.map Say.t).length < 1000000;rw[aB];lia,rfl,rfl,x,rfl,rfl,?_};have f:((a++[x]).map Say.t).dropLast=a.map Say.t:=(by rw[bE];show List.dropLast_concat);change _/\(_:M)=_;rw[f];show⟨by rw[aB,gQ,aB];have:=w6 x.kids;have:=w6 a;lia,?_⟩;change({[KE (.v s.t),KE (.c 2),KE (.c 1),KE (.v x.t)],[LX,KE (.lst (a.map Say.t++(x.kids.map Say.t).reverse)),KE (.lst (P.map Say.t++[x.t]))]}:M)=_;rw[<-List.map_reverse,<-bE];rw[bE (l₁:=P)];rfl
def Say.own (a:List (Str×Nat)):Say->Prop
 | .is f v=>∃p c,look a f=KE (p,c)/\0<=v/\v < (c:Int)
 | .put f v=>∃p c,look a f=KE (p,c)/\0<=v/\v < (c:Int)
 | .no s=>s.isT=LY
 |_=>True
def Say.good (a:List (Str×Nat))(s:Say):Prop:=∀x∈s.parts,x.own a
def Say.inT:Say->Bool
 | .nought=>LY | .every=>LY | .is _ _=>LY | .no _=>LY | .either _ _=>LY | .both _ _=>LY
 |_=>LZ
theorem Say.isT_all:∀s:Say,s.parts.all Say.inT=s.isT
 | .no s=>by simp[Say.parts,Say.inT,Say.isT,s.isT_all]
 | .again s=>by simp[Say.parts,Say.inT,Say.isT]
 | .either a b=>by simp[Say.parts,Say.inT,Say.isT,a.isT_all,b.isT_all]
 | .both a b=>by simp[Say.parts,Say.inT,Say.isT,a.isT_all,b.isT_all]
 | .nought | .every | .note | .is _ _ | .put _ _=>by simp[Say.parts,Say.inT,Say.isT]
def Say.isN:Say->Bool
 | .note=>LY
 |_=>LZ
theorem Say.nts_all:∀s:Say,(s.parts.filter Say.isN).length=s.nts
 | .no s=>by simp[Say.parts,Say.isN,Say.nts,s.nts_all]
 | .again s=>by simp[Say.parts,Say.isN,Say.nts,s.nts_all]
 | .either a b=>by simp[Say.parts,Say.isN,Say.nts,a.nts_all,b.nts_all]
 | .both a b=>by simp[Say.parts,Say.isN,Say.nts,a.nts_all,b.nts_all]
 | .nought | .every | .note | .is _ _ | .put _ _=>rfl
def ahu (l:List a)(g:a->Bool):(l.map λx=>Tr.v (.bl (g x)))=(l.map g).map λn=>Tr.v (.bl n):=by rw[dO];rfl
def Y2:GS:=(bh (gCB (blsG λbs=>bs.all id) (gaE (c8 1 [] (giL (ar 1 my (gA1 (aa 0)))) (.one 0) cu (gOp (inG LZ) (gX (aa 0) (gI 0)) (gC vy))) gaN)))
def Bp:GP:=λds R=>∃s:Say,ds=[s.t]/\s.size<=1000/\R (.val (.v (.bl s.isT)))
def Y3:Pm (Y2) 1 1 1 (Bp):=by
 intro ds R e h;obtain⟨s,rfl,hs,q⟩:=h;show{rfl,s,rfl,hs,?_};show cw (out:=λx:Say=>Tr.v (.bl x.inT)) rfl _ _ (by change 0+_<=_;rw[s.parts_len];lia) (λx f Y a=>?_) ?_
 ·rw[x.t_eq];show ix0 ?_;show{Hf,λc d=>?_};cases rf d (b:=x.inT) ((⋯:∀n:Fin 9,decide (gp n∈[cZ "none",cZ "all",cZ "is",cZ "not",cZ "either",cZ "then"])=decide (n∈[0,1,3,5,7,8])) x.tag |>.trans (by cases x<;>rfl));show a
 ·show{s.parts.map Say.inT,by rw[bH];show ahu _ _,?_};change R (.val (.v (.bl ((s.parts.map Say.inT).all id))));rw[tF,show(id∘Say.inT)=Say.inT from rfl,s.isT_all];show q
def Vi:GS:=(bh (gCB gc (gaE (c8 1 [] (giL (ar 1 my (gA1 (aa 0)))) (.one 0) (gT (gOp (eqG LZ) (gX (aa 0) (gI 0)) (gS "note"))) (aa 0)) gaN)))
def zq:GP:=λds R=>∃s:Say,ds=[s.t]/\s.size<=1000/\R (.val (.v (.int (s.nts:Int))))
def Vj:Pm (Vi) 1 1 1 (zq):=by
 intro ds R d h;obtain⟨s,rfl,hs,q⟩:=h;show{rfl,s,rfl,hs,?_};show jj (p:=Say.isN) (out:=Say.t) rfl _ _ (by change 0+_<=_;rw[s.parts_len];lia) (λx f Y Z a b=>?_) ?_
 ·rw[x.t_eq];show ix0 ?_;show{rfl,?_};change if decide (V.str x.sort=V.str "note")=LY then _ else _
  have e:decide (V.str x.sort=V.str "note")=x.isN:=((⋯:∀n:Fin 9,decide (V.str (gp n)=V.str "note")=decide (n=2)) x.tag).trans (by cases x<;>rfl);rw[e];cases c:x.isN with
  |true=>rw[ME rfl];rw[<-x.t_eq];show a c
  |false=>rw[MF aQ];show b c
 ·change R (.val (.v (.int ((([]:List Tr)++(s.parts.filter Say.isN).map Say.t).length:Int))));rw[bH,aB,s.nts_all];show q
def Pj:GS:=(sIf (Gv (j6 (ar 1 Bp (gA1 (aa 0))))) yg dz)
def M9:GS:=(sIf (j6 (ar 1 zq (gA1 (aa 0)))) yg dz)
def sj:GP:=λds R=>∃s:Say,ds=[s.t]/\s.size<=1000/\s.isT=LY/\R (.val (.v .non))
def Pk:Pm (Pj) 1 1 1 (sj):=by
 intro ds R b h;obtain⟨s,rfl,hs,a,q⟩:=h;show{rfl,s,rfl,hs,?_};change if (!s.isT)=LY then _ else _
 rw[a,MF (by decide)];show q
def qh:GP:=λds R=>∃s:Say,ds=[s.t]/\s.size<=1000/\s.nts=0/\R (.val (.v .non))
def Na:Pm (M9) 1 1 1 (qh):=by
 intro ds R b h;obtain⟨s,rfl,hs,a,q⟩:=h;show{rfl,s,rfl,hs,?_};change if ((s.nts:Int) != 0)=LY then _ else _
 rw[a,MF (by decide)];show q
def Say.isNo:Say->Bool
 | .no _=>LY
 |_=>LZ
def Say.isF:Say->Bool
 | .is _ _=>LY
 | .put _ _=>LY
 |_=>LZ
def Pl:GS:=(aq (sIf (gT (gOp (inG LZ) (gX (aa 1) (gI 0)) (gC t8))) (fv (ar 3 um (gaV (aa 0) (gaV (gX (aa 1) (gI 1)) (gA1 (gX (aa 1) (gI 2))))))) dz) (sIf (gT (gOp (eqG LZ) (gX (aa 1) (gI 0)) (gS "not"))) (fv (ar 1 sj (gA1 (gX (aa 1) (gI 1))))) dz))
def xp:GP:=λds R=>∃(a:List (Str×Nat))(s:Say),ds=[spT a,s.t]/\s.size<=1000/\s.own a/\R (.val (.v .non))
def Pn:Pm (Pl) 2 1 2 (xp):=by
 intro ds R w h;obtain⟨e,s,rfl,hs,g,q⟩:_:=h;have j:decide (V.str s.sort=V.str "not")=s.isNo:=((⋯:∀n:Fin 9,decide (V.str (gp n)=V.str "not")=decide (n=5)) s.tag).trans (by cases s<;>rfl);have a:(!s.isNo)=LY\/∃y,s=.no y:=(by cases s<;>simp[Say.isNo]);have i:sIf (gT (gOp (eqG LZ) (gOp ixG (aa 1) (gC (.v (.int 0)))) (gC (.v (.str "not"))))) (fv (ar 1 sj (gaV (gOp ixG (aa 1) (gC (.v (.int 1)))) gaN))) dz { nx:=λm=>R (.val (.v .non)),rt:=vt R } ⟨locs 2 (vsW [spT e,.tup (.v (.str s.sort)::s.rest)]),aT 1 LX⟩:=by
  show ix0 ?_;show{rfl,?_};change if decide (V.str s.sort=V.str "not")=LY then _ else _
  rw[j];rcases a with a | ⟨y,rfl⟩
  ·rw[MF (by simpa using a)];show q
  ·rw[ME (show y.no.isNo=LY from rfl)];dsimp only[Say.rest];show{rfl,y,rfl,?_,g,q};simp[Say.size]at hs;omega
 rw[s.t_eq];show ix0 ?_;show{Hf,λc o=>?_};have d:s.isF=LZ\/(∃f v,s=.is f v)\/∃f v,s=.put f v:=(by cases s<;>simp[Say.isF]);cases rf o (b:=s.isF) ((⋯:∀n:Fin 9,decide (gp n∈[cZ "is",cZ "put"])=decide (n∈[3,4])) s.tag |>.trans (by cases s<;>rfl));rcases d with d | ⟨f,v,rfl⟩ | ⟨f,v,rfl⟩
 ·change if s.isF=LY then _ else _
  rw[d,MF aQ];show i
 all_goals
  obtain⟨p,c,l,r,u⟩:_:=g;change if LY=LY then _ else _
  rw[ME rfl];dsimp only[Say.rest];show#v[rfl,e,f,v,p,c,rfl,l,r,u,i]
theorem Say.parts_size:∀(s x:Say),x∈s.parts->x.size<=s.size
 | .no s,x,h=>by
  rcases aU.mp h with rfl | h
  ·show aJ _
  ·have:=s.parts_size x h;simp only[Say.size];lia
 | .again s,x,h=>by
  rcases aU.mp h with rfl | h
  ·show aJ _
  ·have:=s.parts_size x h;simp only[Say.size];lia
 | .either a b,x,h=>by
  rcases aU.mp h with rfl | h
  ·show aJ _
  ·rcases cS.mp h with h | h
   ·have:=a.parts_size x h;simp only[Say.size];lia
   ·have:=b.parts_size x h;simp only[Say.size];lia
 | .both a b,x,h=>by
  rcases aU.mp h with rfl | h
  ·show aJ _
  ·rcases cS.mp h with h | h
   ·have:=a.parts_size x h;simp only[Say.size];lia
   ·have:=b.parts_size x h;simp only[Say.size];lia
 | .nought,x,h | .every,x,h | .note,x,h | .is _ _,x,h | .put _ _,x,h=>by
  rcases aU.mp h with rfl | h
  ·show aJ _
  ·cases h
def J1:GS:=(fk [2] (giL (ar 1 my (gA1 (aa 1)))) (.one 2) (fv (ar 2 xp (gaV (aa 0) (gA1 (aa 2))))))
def km:GP:=λds R=>∃(a:List (Str×Nat))(s:Say),ds=[spT a,s.t]/\s.size<=1000/\s.good a/\R (.val (.v .non))
def J2:Pm (J1) 3 1 2 (km):=by
 intro ds R g h;obtain⟨a,s,rfl,hs,c,q⟩:=h;show{rfl,s,rfl,hs,?_};show du (I:=λ_ m=>m={[KE (.v (spT a)),KE (.v s.t),LX],[LX]}) rfl ?_ (λ_ _=>q);intro i x m N d e f;subst e;have b:=aR d;show⟨rfl,a,x,rfl,by have:=s.parts_size x b;lia,c x b,f _ rfl⟩
end PB
namespace VL
open PySem L2 PySem.Deep
def Vk (i0 iv k:Nat)(fr:List Nat)(i:GI)(t:Tg)(f:GE):GS:=λE m=>i0 < m.loc.length/\i m λds a=>match ds with
 | []=>False
 |d0::b=>gTg t d0 {aT k LX++k9 a.loc fr,a.cel} λm2=>f m2 λd m4=>match d with
  | .new (.lst (_::r))=>h8 m4.cel a.loc=LY/\df k fr t cu f a.loc (λe c=>match c.loc[iv]? with
    |some (KE (.v g))=>E.nx {c.loc.set i0 (KE (.v (.lst (.lst (g::r)::e)))),c.cel}
    |_=>False) b [] m4.cel
  |_=>False
def Y4 (l:Lx O W)(rel:Rel b W m s)(h0:O.H a=LX)(h:W.F a=LX)(u:∀j,W.C j≠KE a)(x:CellOk b W.F W.H a d):∃e,Lx O e/\e.H=W.H/\e.C=W.C/\(∀c,c≠a->e.F c=W.F c)/\Same W.F e.F/\Rel b e m s/\Rp b e.F (.ref a) d:=by
 have s1:Same W.F (ft W.F W.H a):=wq h;show{{ft W.F W.H a,W.H,W.C},{{λc o z=>s1 c o (l.same c o z),l.fr,λc z n=>?_,l.cl,l.dm},l.cx},rfl,rfl,λc q=>lp q,s1,{{Ba rel.ok.sub,λj d' A=>?_,rel.ok.live,rel.ok.dist},λi w hw=>?_,rel.len},x.keep h}
 ·by_cases q:c=a
  ·subst q;show .inl h0
  ·have p:ft W.F W.H a c≠LX:=n;rw[lp q]at p;show l.nw c z p
 ·obtain⟨r,f,g,D⟩:_:=rel.ok.cell j d' A;show{r,f,?_,D.mono s1 λ_ z=>z};change ft W.F W.H a r=LX;rw[lp (λz=>u j (by rw[<-z];show f))];show g
 ·obtain⟨y,f,g⟩:_:=rel.loc i w hw;show{y,f,?_};cases w with
  |v d'=>show Rp.mono s1 g
  |c j=>show g
def acq {b:Type}{a:b}{l:List b}:atI (a::l) 0=KE a:=by unfold atI ixN;rw[ME (by decide),ME (by rw[bA];omega)];rfl
def Y5 {b:B}{O:Wd}{i0 iv k:Nat}{fr:List Nat}{i:GI}{t:Tg}{f:GE}{A:St}{H:Hp}{Q:VK}{D0:Au}(ht:zi k t)
  (hQ:∀(D g:MA)(u0 v:V) (us rest:List V) (H1:Hp),i0 < A.length->H1 D=KE (.lst (.ref g::rest))->H1 g=KE (.lst (u0::us))->g≠D->A[iv]?=KE (KE v)->D0.nx (A.set i0 (KE (.ref D))) (upd H1 g (.lst (v::us)))->Q (.ref D) H1)
  (h:lfS b O (Vk i0 iv k fr i t f) D0 A H):y3 k fr (lfI b i) (gOf b.K t) (lfT b cu) (lf b f) A H Q:=by
 obtain⟨W,m,E,hW,l,rel,⟨D',h⟩,q,_⟩:_:=h;rw[rel.len]at D';show{W,m,_,hW,rel,h,λds m1 s J h1 l1 uT sq D hD=>?_};rcases ds with _ | ⟨d0,ds⟩
 ·show h1.elim
 have h0:W.H D=LX:=l1.dm D hD;obtain⟨lD,GU,aD,eD,_,fD,cD,_⟩:_:=o7 (d:=.lst []) (o:=.lst []) uT.ok hD {[],bo,.nil};cases eD
 let DF:Nat->List V->Hp->Prop:=λi ys w=>∃(W2:Wd)(G:List Tr) (cel:List (Option Tr)) (g:MA) (u0:V) (us rest:List V) (r:List Tr),1<=i/\W2.H=w/\Lx s W2/\Rel b W2 #v[m1.loc,cel] A/\ys=.ref g::rest/\W2.H D=KE (.lst ys)/\W2.F D=LX/\(∀j,W2.C j≠KE D)/\
  g≠D/\s.H g=LX/\W2.H g=KE (.lst (u0::us))/\W2.F g=LX/\(∀j,W2.C j≠KE g)/\Rps b W2.F us r/\Rps b W2.F rest G/\
  df k fr t cu f m1.loc (λG L=>match L.loc[iv]? with
    |some (KE (.v T))=>E.nx {L.loc.set i0 (KE (.v (.lst (.lst (T::r)::G)))),L.cel}
    |_=>False) (ds.drop (i - 1)) G cel
 have GV:∀(i n:Nat)(ys:List V) (w:Hp),(i+n=(d0::ds).length/\((i=0/\ys=[]/\w=upd s.H D (.lst []))\/DF i ys w))->
   w D=KE (.lst ys)/\((J.stop i w/\Q (.ref D) w)\/(J.go i w/\ys.length < sizeLine/\∃N:List V->Hp->Prop,(∀zQ H',N zQ H'->∃m',m' < n/\(i+1+m'=(d0::ds).length/\((i+1=0/\zQ=[]/\H'=upd s.H D (.lst []))\/DF (i+1) zQ H')))/\∀x H3,J.yld i w x H3->Kx k fr (gOf b.K t) (lfT b cu) (lf b f) A D ys N x H3)):=by
  rintro i n ys w ⟨en,⟨rfl,rfl,rfl⟩ | ⟨W2,G,cel,g,u0,us,rest,r,i1,rfl,l2,u,rfl,d1,d2,d3,I,b1,b2,b3,b4,rr,rs,p⟩⟩
  ·show{bo,.inr ?_};have u:=uT.lift lD (λ_=>rfl) GU;obtain⟨st,go⟩:_:=sq s.F (upd s.H D (.lst [])) (λ_ _ z=>z) u.ok.sub 0;obtain⟨g1,g2⟩:_:=go _ rfl;show{g1,by change 0 < sizeLine;decide,DF 1,λzQ H' z=>{n - 1,by rw[bA]at en;omega,by rw[bA]at en ⊢;omega,.inr z},λx H3 hy=>?_};obtain⟨W3,e3,l3,vW,r3⟩:_:=qv (W2:={s.F,upd s.H D (.lst []),s.C}) u (g2 x H3 hy);subst e3;show vp (vW.inner k fr) r3 h1 λm4 σ4 h4 zU DZ EU=>{Ci DZ ht EU,W3,m4,λc m'=>c=LY/\m'=m4,rfl,zU,#v[rfl,rfl],λcc L W5 h5 l5 yO=>?_};obtain⟨rfl,rfl⟩:_:=h5;show{W5,L,_,rfl,yO,h4,λev m6 U y h6 l6 zK r6=>?_};have BK:Lx (⟨s.F,upd s.H D (.lst []),s.C⟩:Wd) U:=l3.trans (l5.trans l6);rcases ev with d | d | j
   ·show h6.elim
   ·rcases d with _ | _ | (_ | ⟨z0,r⟩) | _ | _ | _ | _<;>try show h6.elim
    obtain⟨lv,h7⟩:_:=h6;obtain⟨g,rfl,p0,p1,p2,xs,p3,p4⟩:_:=r6;obtain⟨k1,k2,k3⟩:_:=i5 BK (bo (H:=s.H) (a:=D) (o:=.lst [])) fD cD;have ro:=u.outer BK zK lv;have I:g≠D:=λe=>by
     have w5:=i5 (l3.trans l5) (bo (H:=s.H) (a:=D) (o:=.lst [])) fD cD;rw[e,w5.1]at p0;cases p0
    obtain⟨l8,DC⟩:_:=ye (o:=.lst ([]++[.ref g])) (lD.trans BK) zK.ok hD k2 k3;obtain⟨x0,xs,rfl,pr⟩:∃x0 AE,xs=x0::AE/\Rps b U.F AE r:=(by cases p4 with | cons ph pr=>show{_,_,rfl,pr});show{k1,{U.F,upd U.H D (.lst ([]++[.ref g])),U.C},[],m6.cel,g,x0,xs,[],r,aJ _,rfl,l8,#v[DC,ro.loc,ro.len],rfl,bo,k2,k3,I,?_,?_,p1,p2,pr,.nil,h7}
    ·show(lD.trans (l3.trans l5)).dm g p0
    ·change upd U.H D _ g=_;rw[ay I];show p3
   ·show h6.elim
  ·show{d1,?_};obtain⟨st,go⟩:_:=sq W2.F W2.H l2.same u.ok.sub i;obtain⟨i',rfl⟩:∃i',i=i'+1:={i - 1,()};rw[Nat.add_sub_cancel]at p;by_cases ci:i' < ds.length
   ·have hd:(d0::ds)[i'+1]?=KE ds[i']:=(by rw[List.getElem?_cons_succ];show aC ci);rw[dZ ci]at p;obtain⟨g1,g2⟩:_:=go _ hd;obtain⟨hz,p⟩:_:=p;show .inr {g1,by rw[bA,rs.length];show bO (nP hz) (by decide),DF (i'+1+1),λzQ H' z=>{n - 1,by rw[bA]at en;omega,by rw[bA]at en ⊢;omega,.inr z},λx H3 hy=>?_};obtain⟨W3,e3,l3,vW,r3⟩:_:=qv (W2:=W2) u (g2 x H3 hy);subst e3;show vp (vW.inner k fr) r3 p λm4 σ4 h4 zU DZ EU=>{Ci DZ ht EU,W3,m4,λc m'=>c=LY/\m'=m4,rfl,zU,#v[rfl,rfl],λcc L W5 h5 l5 yO=>?_};have BI:Lx W2 W5:=l3.trans l5;obtain⟨rfl,rfl⟩:_:=h5;dsimp only[cu]at h4;rw[ME rfl]at h4
    ·show{W5,L,_,rfl,yO,h4,λev m6 U y h6 l6 zK r6=>?_};obtain⟨d',m7,W7,⟨lv,h7⟩,l7,e7,AV,r7⟩:_:=mv l6 zK r6 h6;have BJ:Lx W2 W7:=BI.trans l7;obtain⟨k1,k2,k3⟩:_:=i5 BJ d1 d2 d3;obtain⟨c1,c2,c3⟩:_:=i5 BJ b2 b3 b4;have ro:=u.outer BJ AV lv;obtain⟨l8,DC⟩:_:=ye (o:=.lst ((.ref g::rest)++[y])) (l2.trans BJ) AV.ok hD k2 k3;rw[<-e7];show{k1,{W7.F,upd W7.H D (.lst ((.ref g::rest)++[y])),W7.C},G++[d'],m7.cel,g,u0,us,rest++[y],r,(),rfl,l8,#v[DC,ro.loc,ro.len],rfl,bo,k2,k3,I,b1,?_,c2,c3,rr.mono BJ.same,(rs.mono BJ.same).append (.cons r7 .nil),h7};change upd W7.H D _ g=_;rw[ay I];show c1
   ·rw[kQ ()]at p;show .inl {st (by rw[bA]at *;omega),?_};change (match m1.loc[iv]? with | some (KE (.v T))=>E.nx {m1.loc.set i0 (KE (.v (.lst (.lst (T::r)::G)))),cel} | _=>False)at p
    rcases e:m1.loc[iv]? with _ | _ | (T | j)
    ·rw[e]at p;show p.elim
    ·rw[e]at p;show p.elim
    ·rw[e]at p;obtain⟨v,ev,rv⟩:_:=u.loc iv _ e;have rv:Rp b W2.F v T:=rv;show hQ D g u0 v us rest W2.H D' d1 b2 I ev ?_;obtain⟨l8,DC⟩:_:=ye (o:=.lst (v::us)) l2 u.ok b1 b3 b4;have AW:Rel b ⟨W2.F,upd W2.H g (.lst (v::us)),W2.C⟩ ⟨m1.loc,cel⟩ A:=#v[DC,u.loc,u.len];obtain⟨W9,l9,e9,c9,f9,s9,EW,r9⟩:_:=Y4 (d:=.lst (T::r)) l8 AW b1 b3 b4 {_,bo,.cons rv rr};have hD9:W9.H D=KE (.lst (.ref g::rest)):=(by rw[e9];change upd W2.H g _ D=_;rw[ay (Ne.symm I)];show d1);obtain⟨LN,DD,e10,c10,f10,HL,Y,FS⟩:_:=Y4 (a:=D) (d:=.lst (.lst (T::r)::G)) l9 EW hD (by rw[f9 D (Ne.symm I)];show d2) (λj=>by rw[c9];show d3 j) {_,hD9,.cons r9 (rs.mono s9)};have eH:upd W2.H g (.lst (v::us))=LN.H:=(by rw[e10,e9]);rw[eH];show q _ LN _ p (l.trans (l1.trans DD).toLe) (l1.trans DD).same (Y.set FS)
    ·rw[e]at p;show p.elim
 show{_,{(d0::ds).length,(),.inl #v[rfl,rfl,rfl]},GV}
section
variable {X:Cx}
def acr {i0 iv:Nat}{d:Str}{l m:Pos}{n:MD}{rest:List MD}{g:GS}{j iter e:MC}{b:mH}{c:Pos}{ns ys:List Str}{fr:List Nat}{cl:List (Str×MA)}{i:GI}{t:Tg}{f:GE}(o:X.N.Nodup)(p:X.N[i0]?=KE d)(q:X.env.scope.names.lookup d=KE .local)(S:pj X ns ys fr b cl)(r:X.calm=LY)
  (hi:VI X e iter i) (u:∀C s H a,VG (cxC X (ns++ys) b cl C s H a) e t) (w:∀C s H a,VE (cxC X (ns++ys) b cl C s H a) j f) (hk:zi ns.length t) (y:i0≠iv) (A:PS X n (K9 (yw iv) (gSub (tOp (rIxL X.K) (yw i0) (tC (.int 0))) (tC (.int 0)) aef))) (E:VSs X rest g)
  (hs:∀x,iK iter X.env x=pure x:=by intro _;rfl) (G:kA (.ListComp j [{e,iter,[],0}] b c) (KE (.Name d l)) m.line X.env=pure LY:=by rfl) :
  VSs X (.Assign [.Name d l] (.ListComp j [{e,iter,[],0}] b c) m::n::rest) (aq (Vk i0 iv ns.length fr i t f) g):=⟨λO=>
PSs.sub (gg (G4 (g:=gOf X.K t) (tt:=lfT X.B cu) (te:=lf X.B f) o p q S r hi.out (λC s H a=>(u C s H a).out) (λC s H a=>cp) (λC s H a=>(w C s H a).out) hs G)
  (gg A (E.out O))) λD Y H h=>Y5 (iv:=iv) (i0:=i0) (D0:={ D with nx:=lfS X.B O g D }) hk (λI J u0 v us rs H1 L Q T ne U z=>by
    show{v,by rw[bM y];show U,_,cM L,I,_,_,_,rfl,rfl,SqL.of Q,acq,J,_,0,0,rfl,rfl,T,by unfold ixN;rw[ME (by decide),ME (by rw[bA];omega)];rfl,z}) (Mf h)⟩
end
end VL
namespace S1
def Hg:m∈longer a c↔∃l∈a,∃v:Nat,v < c/\m=l++[(v:Int)]:=by
 constructor
 ·show uh
 ·intro b;obtain⟨l,d,v,e,rfl⟩:=b;show List.mem_flatMap.mpr {l,d,List.mem_map.mpr {v,dN.mpr e,rfl}}
def Vl (cs:List Nat)(l:List Int):Prop:=l.length=cs.length/\∀(i:Nat)(v:Int),l[i]?=KE v->∃c,cs[i]?=KE c/\0<=v/\v < (c:Int)
def Jl {cs:List Nat}{c:Nat}{l:List Int}{v:Int}:Vl (cs++[c]) (l++[v])↔Vl cs l/\0<=v/\v < (c:Int):=by
 constructor
 ·intro f;obtain⟨a,b⟩:=f;have g:l.length=cs.length:=(by simpa using a);show{{g,λi u hi=>?_},?_}
  ·have h:=(bJ.mp hi).1;obtain⟨d,hd,r⟩:=b i u (by rw[bT h];show hi);rw[bT ()]at hd;show#v[d,hd,r]
  ·obtain⟨d,hd,r⟩:=b l.length v ∅;rw[g]at hd;have:c=d:=(by simpa using hd);subst this;show r
 ·intro f;obtain⟨⟨a,b⟩,j⟩:=f;show{by simp[a],λi u hi=>?_};rcases Nat.lt_trichotomy i l.length with q | q | q
  ·rw[bT q]at hi;obtain⟨d,hd,r⟩:=b i u hi;show{d,by rw[bT ()];show hd,r}
  ·subst q;have e:v=u:=(by simpa using hi);subst e;show{c,by rw[a];simp,j}
  ·rw[bU (by rw[aH,cK];lia)]at hi;cases hi
def Po (cs:List Nat)(l:List Int):l∈di cs↔Vl cs l:=by
 suffices z:∀(ds:List Nat)(l:List Int),l∈di ds.reverse↔Vl ds.reverse l by
  have:=z cs.reverse l
  rwa [List.reverse_reverse]at this
 intro ds
 induction ds with
 |nil=>
  intro l;change l∈[[]]↔_;rw[aZ];constructor
  ·rintro rfl;show{rfl,λi v e=>by simp at e}
  ·rintro⟨h,_⟩;show iO.mp h
 |cons c cs a=>
  intro l;rw[jI,Mx,Hg];constructor
  ·intro d;obtain⟨m,f,v,n,rfl⟩:=d;show Jl.mpr {(a m).mp f,(),()}
  ·intro h;have b:l≠[]:=λe=>(by rw[e]at h;have:=h.1;simp at this);obtain⟨m,v,rfl⟩:∃m v,l=m++[v]:={l.dropLast,l.getLast b,(List.dropLast_concat_getLast b).symm};obtain⟨g,j,o⟩:=Jl.mp h;show{m,(a m).mpr g,v.toNat,(),by rw[Int.toNat_of_nonneg j]}
def alo (h:HT.lexLt a b=LY):a≠b:=by
 intro c;subst c
 induction a with
 |nil=>cases h
 |cons x r d=>rw[HT.lexLt_cons,ME rfl]at h;show d h
def jc (cs:List Nat):(di cs).Nodup:=(i6 cs).ord.imp λh=>alo h
def Pp {cs:List Nat}{l:List Int}{i:Nat}{v:Int}{c:Nat}(a:l∈di cs)(b:cs[i]?=KE c)(h0:0<=v)(d:v < (c:Int)):l.set i v∈di cs:=by
 rw[Po]at a ⊢;show{by rw[dY];show a.1,λj u e=>?_};rw[List.getElem?_set]at e
 split at e
 ·rename_i f
  subst f
  split at e
  ·cases e;show#v[c,b,h0,d]
  ·cases e
 ·show a.2 j u e
def Fp (a:∀c∈cs,c<=6)(b:cs.length<=3):(di cs).length<=216:=by
 rw[yi];show bL (alm cs a) (bL (Nat.pow_le_pow_right (by decide) b) (by decide))
end S1
namespace PB
open PySem L2 VL Bits S1
structure SpOk (ws:List (Str×Nat)):Prop where
 lo:1<=ws.length
 hi:ws.length<=3
 cnt:∀w∈ws,1<=w.2/\w.2<=6
abbrev LL (ws:List (Str×Nat)):List (List Int):=di (ws.map (·.2))
def Vm {a:List (Str×Nat)}(h:SpOk a):(LL a).length<=216:=Fp (λc b=>by
  obtain⟨x,d,rfl⟩:=dG.mp b;show(h.cnt x d).2) (by rw[aB];show h.hi)
def Nb {a:List (Str×Nat)}(h:SpOk a){x:Str}{p c:Nat}{v:Int}(lk:look a x=KE (p,c))(g0:0<=v)(g1:v < (c:Int)):Can (LL a) p v:=by
 have f:=Vm h;obtain⟨k,e0,b,_⟩:=Hc lk;rw[fH]at e0;subst e0;have g:p < a.length:=(bJ.mp b).1;show{jc _,(),λl d=>?_};have e:=(i6 _).wide l d;rw[aB]at e;have:=h.hi;show{(),(),Pp d (by rw[aL,b,rC]) g0 g1}
def Say.W (c:List (Str×Nat)):Say->Nat->Nat->Rl
 | .nought=>λ_ _ _ _=>False
 | .every=>λ_ _ i j=>j=i
 | .note=>Cm
 | .is f v=>λ_ _=>match look c f with | some (p,_)=>isR (LL c) p v | none=>λ_ _=>False
 | .put f v=>λ_ _=>match look c f with | some (p,_)=>Vf (LL c) p v | none=>λ_ _=>False
 | .no s=>λ_ _=>Mz (LL c).length (s.W c 0 0)
 | .again s=>yj (LL c).length (s.W c)
 | .either a b=>oj (LL c).length (a.rm+1) (a.W c) (b.W c)
 | .both a b=>uk (LL c).length (a.rm+1) (a.W c) (b.W c)
abbrev Hh (ws:List (Str×Nat))(s:Say)(d:Tr):Prop:=qc (LL ws).length (s.rm+1) (s.W ws) d
def Say.lone:Say->Bool
 | .nought=>LY | .every=>LY | .is _ _=>LY | .put _ _=>LY
 |_=>LZ
def ifN {c:Bool}{P Q:Prop}(h:c=LZ)(q:Q):if c=LY then P else Q:=by rw[MF (by rw[h];decide)];show q
def ifY {c:Bool}{P Q:Prop}(h:c=LY)(p:P):if c=LY then P else Q:=by rw[ME h];show p
def tE (k:Fin 9):decide (V.str (gp k)=V.str "either")=decide (k=7):=(⋯:∀k:Fin 9,decide (V.str (gp k)=V.str "either")=decide (k=7)) k
def tB (k:Fin 9):decide (V.str (gp k)=V.str "then")=decide (k=8):=(⋯:∀k:Fin 9,decide (V.str (gp k)=V.str "then")=decide (k=8)) k
def tA (k:Fin 9):decide (V.str (gp k)=V.str "again")=decide (k=6):=(⋯:∀k:Fin 9,decide (V.str (gp k)=V.str "again")=decide (k=6)) k
def tN (k:Fin 9):decide (V.str (gp k)=V.str "not")=decide (k=5):=(⋯:∀k:Fin 9,decide (V.str (gp k)=V.str "not")=decide (k=5)) k
def tO (k:Fin 9):decide (V.str (gp k)=V.str "note")=decide (k=2):=(⋯:∀k:Fin 9,decide (V.str (gp k)=V.str "note")=decide (k=2)) k
def tZ (k:Fin 9):decide (V.str (gp k)=V.str "none")=decide (k=0):=(⋯:∀k:Fin 9,decide (V.str (gp k)=V.str "none")=decide (k=0)) k
def tL (k:Fin 9):decide (V.str (gp k)=V.str "all")=decide (k=1):=(⋯:∀k:Fin 9,decide (V.str (gp k)=V.str "all")=decide (k=1)) k
def tI' (k:Fin 9):decide (V.str (gp k)=V.str "is")=decide (k=3):=(⋯:∀k:Fin 9,decide (V.str (gp k)=V.str "is")=decide (k=3)) k
def sfN {c:Bool}{P Q:Prop}(h:c=LZ)(q:Q):if (if LZ=LY then !c else c)=LY then P else Q:=by subst h;rw[MF (by decide)];show q
def sfY {c:Bool}{P Q:Prop}(h:c=LY)(p:P):if (if LZ=LY then !c else c)=LY then P else Q:=by subst h;rw[ME (by decide)];show p
def Ed:GS:=(aq (sIf (gT (gOp (eqG LZ) (gX (aa 2) (gI 0)) (gS "none"))) (bh (ar 1 o9 (gA1 (gCB gc (gaE (aa 1) gaN))))) dz) (aq (sIf (gT (gOp (eqG LZ) (gX (aa 2) (gI 0)) (gS "all"))) (bh (ar 1 mw (gA1 (gCB gc (gaE (aa 1) gaN))))) dz) (aq (bp 3 (ar 3 um (gaV (aa 0) (gaV (gX (aa 2) (gI 1)) (gA1 (gX (aa 2) (gI 2))))))) (aq (sIf (gT (gOp (eqG LZ) (gX (aa 2) (gI 0)) (gS "is"))) (bh (ar 3 t7 (gaV (aa 1) (gaV (aa 3) (gA1 (gX (aa 2) (gI 2))))))) dz) (bh (ar 3 q5 (gaV (aa 1) (gaV (aa 3) (gA1 (gX (aa 2) (gI 2)))))))))))
def ou:GP:=λds R=>∃(a:List (Str×Nat))(s:Say),ds=[spT a,ltT (LL a),s.t]/\SpOk a/\s.lone=LY/\s.own a/\D8 (LL a).length (s.W a 0 0) R
def Ee:Pm (Ed) 4 1 3 (ou):=by
 intro ds R i h;obtain⟨a,s,rfl,ok,lo,e,q⟩:=h;have le:=Vm ok;have g:((LL a).map tI).length=(LL a).length:=aB ..;rw[s.t_eq];cases s with
 |nought=>
  exists tZ,rfl;show{rfl,(LL a).length,?_,(),q};rw[<-g]
 |every=>
  exists tZ;exists tL,rfl;show{rfl,(LL a).length,?_,(),q};rw[<-g]
 |is f v=>
  obtain⟨p,c,l,b,d⟩:=e;dsimp only[Say.W]at q;rw[l]at q;exists tZ;exists tL;dsimp only[Say.rest];show{rfl,a,f,v,p,c,rfl,l,b,d,?_};exists tI',rfl;dsimp only[Say.rest];show{rfl,LL a,p,v,rfl,Nb ok l b d,q}
 |put f v=>
  obtain⟨p,c,l,b,d⟩:=e;dsimp only[Say.W]at q;rw[l]at q;exists tZ;exists tL;dsimp only[Say.rest];show{rfl,a,f,v,p,c,rfl,l,b,d,?_};exists tI';dsimp only[Say.rest];show{rfl,LL a,p,v,rfl,Nb ok l b d,q}
 |_=>cases lo
def Pq:GS:=(aq (bp 3 (ar 2 i7 (gaV (gX (aa 0) (gI 0)) (gA1 (aa 1))))) (aq (bp 4 (c8 2 [3] (U4 (gaV (gSl (aa 0) (goS (gI 1)) goN) (gA1 (gSl (aa 2) (goS (gI 1)) goN)))) (.tup [0,1]) cu (ar 2 og (gaV (aa 0) (gA1 (ar 2 i7 (gaV (aa 2) (gA1 (aa 1))))))))) (bh (gOp bz (gLst (gA1 (aa 3))) (aa 4)))))
def zr (n:Nat)(a:Nat->Rl)(A:Rl)(b:Nat->Rl)(c:Nat):Rl:=if c=0 then p9 n (a 0) A else orR n (a c) (p9 n (p9 n (a 0) A) (b c))
def xq:GP:=λds R=>∃(n k:Nat)(a b:Nat->Rl) (A:Rl) (x y z:Tr),ds=[x,y,z]/\Bn n (k+1) a x/\RelT n A y/\Bn n (k+1) b z/\k<=300/\n<=300/\∀l,LstT (λc=>RelT n (zr n a A b c)) (k+1) l->R (.new (.lst l))
def Pt:Pm (Pq) 5 1 3 (xq):=by
 intro ds R hl h;obtain⟨n,k,u,w,A,_,_,_,rfl,⟨r,rfl,f⟩,⟨x,rfl,y⟩,⟨m,rfl,h0⟩,hk,g,q⟩:=h;obtain⟨_,C,D,rfl,E⟩:=f.at (c:=0) ();have rl:=f.len;have G:=h0.len;have o:=f.tail;have p:=h0.tail;show ax (bj (i:=0) C) {rfl,n,D,x,_,_,rfl,E,y,g,λne s=>?_};change df _ _ _ _ _ _ _ (prs (au r (KE 1) LX) (au m (KE 1) LX)) _ _;rw[qy,qy];have pl:(prs (r.drop 1) (m.drop 1)).length=k:=(by rw[Cg,o.len,p.len,mF]);show wx (P:=λc=>RelT n (zr n u A w (c+1))) rfl () (λc d e Y H=>?_) (λbs j=>?_)
 ·obtain⟨a,b,I,J,rfl⟩:=Ml e;obtain⟨n3,rfl,L⟩:=o.get c a I;obtain⟨N,rfl,O⟩:=p.get c b J;show{rfl,n,ne,N,_,_,rfl,s,O,g,λQ T=>{rfl,n,n3,Q,_,_,rfl,L,T,g,λU p6=>H _ {U,rfl,?_}}};unfold zr;rw[MF ()];show p6
 ·rw[pl]at j;have bl:=j.len;show{bg rfl,?_};show{by change 1+bs.length<=_;lia,?_};show q _ ?_;rw[oF k 1];show LstT.append (k:=1) (l:=[iL ne]) (.one {ne,rfl,?_}) j λc d hc z=>?_
  ·unfold zr;rw[ME rfl];show s
  ·rw[oF 1 c];show z
def Nc:GS:=(aq (bp 1 (ar 1 nk (gA1 (gX (gX (aa 0) (gI 0)) (gI 0))))) (aq (Vk 2 1 1 [1,0] (giL (aa 0)) (.one 0) (ar 3 xq (gaV (aa 0) (gaV (aa 1) (gA1 (gX (aa 2) (gI 0))))))) (bh (aa 2))))
def vz:GP:=λds R=>∃(n k:Nat)(W:Nat->Nat->Rl) (x:Tr),ds=[x]/\qc n (k+1) W x/\k<=300/\n<=300/\∀d,qc n (k+1) (yj n W) d->R (.val d)
def jy {P:Nat->Tr->Prop}{k:Nat}{l:List Tr}(h:LstT P (k+1) l):∃d a,l=d::a/\P 0 d/\LstT (λc=>P (c+1)) k a:=by
 rcases l with _ | ⟨d,a⟩
 ·have:=h.len;simp at this
 ·show⟨d,a,rfl,h.get 0 d rfl,⟨by have:=h.len;simpa using this,λc x e=>h.get (c+1) x e⟩⟩
def LstT.cons {P:Nat->Tr->Prop}{k:Nat}{d:Tr}{l:List Tr}(h:P 0 d)(h':LstT (λc=>P (c+1)) k l):LstT P (k+1) (d::l):=⟨by rw[bA,h'.len],λc x e=>by
  cases c with
  |zero=>cases e;show h
  |succ c=>show h'.get c x e⟩
def Nd:Pm (Nc) 3 1 1 (vz):=by
 intro ds R E h;obtain⟨n,k,W,_,rfl,hw,hk,a,q⟩:=h;obtain⟨l,rfl,b⟩:=id hw;obtain⟨_,e0,m,rfl,h0⟩:=b.at (c:=0) ();obtain⟨_,s,u,rfl,w⟩:=h0.at (c:=0) ();have G:=b.len;show ax (bj (i:=0) e0) (ax (bj (i:=0) s) {rfl,n,u,_,rfl,w,a,λf g=>?_});show{fJ 2,?_};obtain⟨d0,H,rfl,y,o⟩:=jy b;have l2:=o.len;show ax (bj (i:=0) e0) {rfl,n,k,W 0,W 0,_,_,_,_,rfl,y,#v[f,rfl,g],#v[m,rfl,h0],hk,a,λr j=>?_};obtain⟨I,J,rfl,L,A⟩:=jy j;show{rfl,?_};show wx (P:=λc=>Bn n (k+1) (zr n (W (c+1)) (Star n (W 0 0)) (W 0))) rfl () (λc d e Y C=>?_) (λbs p=>?_)
 ·show ax (bj (i:=0) e0) {rfl,n,k,W (c+1),W 0,_,_,_,_,rfl,o.get c d e,#v[f,rfl,g],#v[m,rfl,h0],hk,a,λr j=>C _ #v[r,rfl,j]}
 ·show q _ {_,rfl,?_};rw[l2]at p;show LstT.cons {_,rfl,LstT.cons {f,rfl,?_} (A.imp λc d _ z=>z.eq ?_)} (p.imp λr d _ z=>?_)
  ·show g
  ·unfold zr yj;rw[MF (),MF ()]
  ·obtain⟨x,rfl,D⟩:=z;show{x,rfl,D.imp λc d _ z=>z.eq ?_};unfold zr yj;by_cases h:c=0
   ·rw[ME h,ME h,MF ()]
   ·rw[MF h,MF h]
def Hi:GS:=(aq (sIf (gT (gOp (eqG LZ) (gX (aa 2) (gI 0)) (gS "either"))) (bh (ar 2 t6 (gaV (gX (aa 3) (gI 0)) (gA1 (gX (aa 3) (gI 1)))))) dz) (aq (sIf (gT (gOp (eqG LZ) (gX (aa 2) (gI 0)) (gS "then"))) (bh (ar 2 xo (gaV (gX (aa 3) (gI 0)) (gA1 (gX (aa 3) (gI 1)))))) dz) (aq (sIf (gT (gOp (eqG LZ) (gX (aa 2) (gI 0)) (gS "again"))) (bh (ar 1 vz (gA1 (gX (aa 3) (gI 0))))) dz) (aq (sIf (gT (gOp (eqG LZ) (gX (aa 2) (gI 0)) (gS "not"))) (bh (gLst (gA1 (gLst (gA1 (ar 1 qb (gA1 (gX (gX (gX (aa 3) (gI 0)) (gI 0)) (gI 0))))))))) dz) (aq (sIf (gT (gOp (eqG LZ) (gX (aa 2) (gI 0)) (gS "note"))) (bh (ar 1 xn (gA1 (gCB gc (gaE (aa 1) gaN))))) dz) (bh (gLst (gA1 (gLst (gA1 (ar 3 ou (gaV (aa 0) (gaV (aa 1) (gA1 (aa 2)))))))))))))))
def mz:GP:=λds R=>∃(a:List (Str×Nat))(s:Say) (l:List Tr),ds=[spT a,ltT (LL a),s.t,.lst l]/\SpOk a/\s.own a/\s.rm<=300/\LstT (λc d=>∃y,s.kids[c]?=KE y/\Hh a y d) s.kids.length l/\∀d,Hh a s d->R (.new d)/\R (.val d)
def Hj:Pm (Hi) 4 1 4 (mz):=by
 intro ds R G h;obtain⟨m,s,l,rfl,ok,r,rm,f,q⟩:=h;have le:=Vm ok;have u:((LL m).map tI).length=(LL m).length:=aB ..;rw[s.t_eq];have j:=λd hd=>(q d hd).1;have w:=λd hd=>(q d hd).2;clear q;cases s with
 |either a b=>
  obtain⟨x,l,rfl,⟨_,e,g⟩,f⟩:=jy (k:=1) f;cases e;obtain⟨y,l,rfl,⟨_,e,n⟩,f⟩:=jy (k:=0) f;cases e;exists tE,rfl;show ix0 (ix1 {rfl,_,_,_,_,_,x,y,rfl,g,n,rm,(),j})
 |both a b=>
  obtain⟨x,l,rfl,⟨_,e,g⟩,f⟩:=jy (k:=1) f;cases e;obtain⟨y,l,rfl,⟨_,e,n⟩,f⟩:=jy (k:=0) f;cases e;exists tE;exists tB,rfl;show ix0 (ix1 {rfl,_,_,_,_,_,x,y,rfl,g,n,rm,(),j})
 |again a=>
  obtain⟨x,l,rfl,⟨_,e,g⟩,f⟩:=jy (k:=0) f;cases e;exists tE;exists tB;exists tA,rfl;show ix0 {rfl,_,_,_,x,rfl,g,rm,(),w}
 |no a=>
  obtain⟨x,l,rfl,⟨_,e,g⟩,f⟩:=jy (k:=0) f;cases e;exists tE;exists tB;exists tA;exists tN,rfl;obtain⟨xs,rfl,A⟩:=g;obtain⟨_,e0,H,rfl,h0⟩:=A.at (c:=0) ();obtain⟨_,C,D,rfl,E⟩:=h0.at (c:=0) ();show ix0 (ax (bj (i:=0) e0) (ax (bj (i:=0) C) {rfl,_,D,_,rfl,E,(),λo p=>{bg rfl,bg rfl,j _ {_,rfl,.one {_,rfl,.one #v[o,rfl,p]}}}}))
 |note=>
  exists tE;exists tB;exists tA;exists tN;exists tO,rfl;show{rfl,(LL m).length,?_,(),j};rw[<-u]
 |_=>
  exists tE;exists tB;exists tA;exists tN;exists tO;show{rfl,m,_,MK (λz=>[_,_,z]) (Say.t_eq _).symm,ok,rfl,r,λo p=>{bg rfl,bg rfl,j _ {_,rfl,.one {_,rfl,.one #v[o,rfl,p]}}}}
def Y6:GS:=(aq (jm 3 0 (gLst gaN)) (aq (fk [4,5] (giV (gA1 (ar 1 my (gA1 (aa 2))))) (.one 4) (aq (bp 5 (c8 1 [3] (giT (ar 1 tm (gA1 (aa 4)))) (.one 0) cu (gMc "list" 1 Bi gaN))) (fv (xk 3 (ar 4 mz (gaV (aa 0) (gaV (aa 1) (gaV (aa 4) (gA1 (aa 5)))))))))) (bh (gMc "list" 3 Bi gaN))))
theorem pops (b:k9 loc [3]=[KE (.c 1)])(e:∀st,h8 [LX,KE (.lst st)] loc=LY):∀(ks its a st:List Tr),its.length=ks.length->a.length+ks.length<=1000000->Q (a++ks) {loc,[LX,KE (.lst st)]}->df 1 [3] (.one 0) cu (gMc "list" 1 Bi gaN) loc Q its a [LX,KE (.lst (st++ks.reverse))]
 | [],[],a,st,_,_,q=>by
  rw[bY]at q;rw[jU,bY];show q
 |k::ks,d::its,a,st,f,g,q=>by
  rw[bA]at g;rw[jI,<-dD];show{(),?_};rw[b];show{rfl,ax (x:=k) List.getLast?_concat ?_};show{e _,?_};have i:((st++ks.reverse)++[k]).dropLast=st++ks.reverse:=List.dropLast_concat;change df _ _ _ _ _ _ _ _ _ [LX,KE (.lst (((st++ks.reverse)++[k]).dropLast))];rw[i];show pops b e ks its (a++[k]) st (by simpa using f) (by rw[aH,cK];lia) ?_;rw[dD];show q
 | [],_::_,_,_,h,_,_=>by cases h
 |_::_,[],_,_,h,_,_=>by cases h
theorem Say.isT_rm:∀s:Say,s.isT=LY->s.rm=0
 | .nought,_ | .every,_ | .is _ _,_ | .no _,_=>rfl
 | .either a b,h=>by
  simp only[Say.isT,cQ]at h;simp only[Say.rm,a.isT_rm h.1,b.isT_rm h.2]
 | .both a b,h=>by
  simp only[Say.isT,cQ]at h;simp only[Say.rm,a.isT_rm h.1,b.isT_rm h.2]
 | .note,h | .put _ _,h | .again _,h=>by cases h
def Bq:GP:=λds R=>∃(a:List (Str×Nat))(s:Say),ds=[spT a,ltT (LL a),s.t]/\SpOk a/\s.size<=1000/\s.good a/\s.rm<=300/\∀d,Hh a s d->R (.val d)
abbrev woM (ws:List (Str×Nat))(s:Say)(st:List Tr):M:={[KE (.v (spT ws)),KE (.v (ltT (LL ws))),KE (.v s.t),KE (.c 1),LX,LX],[LX,KE (.lst st)]}
abbrev woB:GS:=(aq (bp 5 (c8 1 [3] (giT (ar 1 tm (gaV (aa 4) gaN))) (.one 0) cu (gMc "list" 1 Bi gaN))) (fv (xk 3 (ar 4 mz (gaV (aa 0) (gaV (aa 1) (gaV (aa 4) (gaV (aa 5) gaN))))))))
def ng {s0 x:Say}{ks st rest:List Tr}(ok:SpOk a)(b:x.own a)(rm:x.rm<=300)(hk:LstT (λc d=>∃y,x.kids[c]?=KE y/\Hh a y d) x.kids.length ks)(hs:st.length < 1000000)
  (h:∀d,Hh a x d->gu [4,5] (.one 4) woB E rest (woM a s0 (st++[d]))):gu [4,5] (.one 4) woB E (x.t::rest) (woM a s0 (st++ks.reverse)):=by
 have e:=hk.len;have f:x.kids.length<=2:=(by cases x<;>simp[Say.kids]);show{rfl,x,rfl,?_};show pops rfl (λ_=>rfl) ks _ [] st (by rw[aB];show e.symm) (by change 0+_<=_;lia) ?_;show{rfl,rfl,a,x,ks,rfl,ok,b,rm,hk,λd hd=>{{hs,h d hd},{hs,h d hd}}}
theorem v7 {c:List (Str×Nat)}{s0:Say}{E:wt}(ok:SpOk c):∀(s:Say)(st rest:List Tr),s.good c->s.rm<=300->st.length+s.size < 100000->(∀d,Hh c s d->gu [4,5] (.one 4) woB E rest (woM c s0 (st++[d])))->gu [4,5] (.one 4) woB E ((s.parts.map Say.t).reverse++rest) (woM c s0 st)
 | .either a b,st,rest,g,rm,hs,h=>by
  have e:((Say.either a b).parts.map Say.t).reverse++rest=(b.parts.map Say.t).reverse++((a.parts.map Say.t).reverse++((Say.either a b).t::rest)):=(by simp[Say.parts]);have ga:a.good c:=λx i=>g x (aI _ (dS _ i));have m:b.good c:=λx i=>g x (aI _ (bQ _ i));have q:a.rm+b.rm<=300:=rm;have n:st.length+(a.size+b.size+1) < 100000:=hs;rw[e];show v7 ok b st _ m () () λo p=>v7 ok a _ _ ga () (by rw[aH,cK];have:=b.size_pos;lia) λj l=>?_;rw[dD];show ng (ks:=[j,o]) ok (g _ aN) rm (.cons #v[a,rfl,l] (.cons #v[b,rfl,p] .nil)) () h
 | .both a b,st,rest,g,rm,hs,h=>by
  have e:((Say.both a b).parts.map Say.t).reverse++rest=(b.parts.map Say.t).reverse++((a.parts.map Say.t).reverse++((Say.both a b).t::rest)):=(by simp[Say.parts]);have ga:a.good c:=λx i=>g x (aI _ (dS _ i));have m:b.good c:=λx i=>g x (aI _ (bQ _ i));have q:a.rm+b.rm<=300:=rm;have n:st.length+(a.size+b.size+1) < 100000:=hs;rw[e];show v7 ok b st _ m () () λo p=>v7 ok a _ _ ga () (by rw[aH,cK];have:=b.size_pos;lia) λj l=>?_;rw[dD];show ng (ks:=[j,o]) ok (g _ aN) rm (.cons #v[a,rfl,l] (.cons #v[b,rfl,p] .nil)) () h
 | .again a,st,rest,g,rm,hs,h=>by
  have e:((Say.again a).parts.map Say.t).reverse++rest=(a.parts.map Say.t).reverse++((Say.again a).t::rest):=(by simp[Say.parts]);have ga:a.good c:=λx i=>g x (aI _ i);have n:st.length+(a.size+1) < 100000:=hs;rw[e];show v7 ok a st _ ga rm () λj l=>?_;show ng (ks:=[j]) ok (g _ aN) rm (.cons #v[a,rfl,l] .nil) () h
 | .no a,st,rest,g,rm,hs,h=>by
  have e:((Say.no a).parts.map Say.t).reverse++rest=(a.parts.map Say.t).reverse++((Say.no a).t::rest):=(by simp[Say.parts]);have ga:a.good c:=λx i=>g x (aI _ i);have n:st.length+(a.size+1) < 100000:=hs;have it:a.isT=LY:=g _ aN;rw[e];show v7 ok a st _ ga (by rw[a.isT_rm it];lia) () λj l=>?_;show ng (ks:=[j]) ok (g _ aN) rm (.cons #v[a,rfl,l] .nil) () h
 | .nought,st,rest,g,rm,hs,h=>by
  have w:=ng (ks:=[]) (st:=st) ok (g _ aN) rm .nil () h
  rwa [jU,bY]at w
 | .every,st,rest,g,rm,hs,h=>by
  have w:=ng (ks:=[]) (st:=st) ok (g _ aN) rm .nil () h
  rwa [jU,bY]at w
 | .note,st,rest,g,rm,hs,h=>by
  have w:=ng (ks:=[]) (st:=st) ok (g _ aN) rm .nil () h
  rwa [jU,bY]at w
 | .is f v,st,rest,g,rm,hs,h=>by
  have w:=ng (ks:=[]) (st:=st) ok (g _ aN) rm .nil () h
  rwa [jU,bY]at w
 | .put f v,st,rest,g,rm,hs,h=>by
  have w:=ng (ks:=[]) (st:=st) ok (g _ aN) rm .nil () h
  rwa [jU,bY]at w
def Y7:Pm (Y6) 6 2 3 (Bq):=by
 intro ds R b h;obtain⟨c,s,rfl,ok,hs,a,rm,q⟩:=h;show{bg rfl,?_};show{rfl,s,rfl,hs,?_};have w:=v7 (s0:=s) (E:={ nx:=bh (gMc "list" 3 Bi gaN) { nx:=λm=>R (.val (.v .non)),rt:=vt R },rt:=vt R }) ok s [] [] a rm (by change 0+_ < _;lia) (λd hd=>by
   show{rfl,q d hd})
 rw[bY]at w;show w
end PB
namespace VL
open PySem L2 PySem.Deep PySem.SeqAt
open PyProof.Rows (envOfC)
structure Md (K:aF)(C:MA)(m vC:Str)(st:MD)(ps:List Str)(f:MA)(fd:gB):Prop where
 fn:Fun K m vC st f fd
 cl:Cls K C
 mt:Tw K C m f
 bd:Binds K fd ps []
structure Cd (K:aF)(mg:Str->Option aE)(x m vC:Str)(st:MD)(ps:List Str)(cR f:MA)(fd:gB):Prop where
 fn:Fun K m vC st f fd
 cm:ClsM K cR m f
 at_:mg x=KE (.ref cR)
 bd:Binds K fd ps []
structure Kd (K:aF)(mg:Str->Option aE)(x vC:Str)(st:MD)(ps:List Str)(C f:MA)(fd:gB):Prop where
 fn:Fun K "__init__" vC st f fd
 mk_:Mk K C f
 at_:mg x=KE (.ref C)
 bd:Binds K fd ps []
structure Co (P:aV)(w:bC)(K:aF)(mg:Str->Option aE)(base:MB)(k:Nat)(x m:Str)(ps:List Str)(sp:Sp):Prop where
 ex:∃C f fd,ClsM K C m f/\FnOk P w K mg base CX0 k f fd ps sp/\mg x=KE (.ref C)/\Binds K fd ps []
section
variable {P:aV}{w:bC}{K:aF}{mg:Str->Option aE}{base:MB}{X:Cx}
def vcm (F:Co X.prog X.w X.K X.mg X.base o x j ps (spR X.B n q g))(r:Room k X.A)(s:VA X (e::i) ga)(hk:o<=k:=by decide)(u:Gl X x:=by rfl)
  (y:(x == ("__debug__":Str))=LZ:=by decide) (z:aP (e::i) X.env=(LZ,eval e X.env)::aP i X.env:=by rfl) (D:(dU d (aP i X.env)).any (·.1)=LZ:=by rfl)
  (E:eval (.Call (.Attribute (.Name x p) j l) (e::i) [] d) X.env=(do
    let m <-eval (.Name x p) X.env
    oX l.atName
    let (f,first) <-jZ [m] (pK m j pl)
    tY d f first (dU d (aP (e::i) X.env)) (nL d (kN [] X.env))):=by rfl) :
  VE X (.Call (.Attribute (.Name x p) j l) (e::i) [] d) (gy n q g ga):=by
 show#v[?_];obtain⟨C,f,fd,c,F,a,b⟩:=F;show PE.sub (aar (pl:=pl) c F (r.mono hk) u a b .nil yz s.out y z D E) λG H Q h=>Fi h
def vfm (F:Md K C x a st ps f fd)(S:fq N ps (bq st))
  (b:Rdx P w K mg base N a st f k g)
  (c:Pm g N.length nc ps.length d):Mo P w K mg base (k+1) C x ps (spP #v[P,w,K] ps.length d):=
 {F.cl,f,fd,fn_g F.fn S b c,F.mt,F.bd}
def vfc (F:Cd K mg y x a st ps b f fd)(S:fq N ps (bq st))
  (c:Rdx P w K mg base N a st f k g)
  (d:Pr p g N.length nc ps.length e):Co P w K mg base (k+1) y x ps (spR #v[P,w,K] ps.length p e):=
 {b,f,fd,F.cm,fn_r F.fn S c d,F.at_,F.bd}
def vfk (F:Kd K mg y a st ps C f fd)(S:fq N ps (bq st))
  (b:Rdx P w K mg base N a st f k g)
  (c:Pr p g N.length nc ps.length d):Ko P w K mg base (k+1) y C ps (spR #v[P,w,K] ps.length p d):=
 {f,fd,F.mk_,fn_r F.fn S b c,F.at_,F.bd}
end
end VL
namespace PB
open PySem L2 VL Bits S1
def J3:GS:=(aq (jm 2 0 (gLst gaN)) (aq (fk [3] (giL (aa 0)) (.one 3) (fv (gMc "list" 2 Cf (gaE (c8 1 [3] (giR (gA1 (aa 1))) (.one 0) cu (gOp bz (aa 1) (gTup (gA1 (aa 0))))) gaN)))) (bh (aa 2))))
def t9:GP:=λds R=>∃(ls:List (List Int))(n:Nat),ds=[ltT ls,.v (.int n)]/\ls.length<=1000/\n<=100/\(∀l∈ls,l.length<=100)/\R (.new (ltT (longer ls n)))
def J4:Pm (J3) 4 2 2 (t9):=by
 intro ds R a h;obtain⟨ls,n,rfl,b,d,f,q⟩:=h;show{bg rfl,?_};show tf (I:=λi=>{[KE (.v (ltT ls)),KE (.v (.v (.int n))),KE (.c 1),LX],[LX,KE (.lst ((longer (ls.take i) n).map tI))]}) rfl (λi l N a g=>?_) ?_
 ·have m:=f l (aR a);show{rfl,by change(-1000000:Int)<=(n:Int);lia,by change(n:Int)<=1000000;lia,?_};change df _ _ _ _ _ _ _ (iz 0 n) _ _;rw[vv];show cw (out:=λv:Nat=>tI (l++[(v:Int)])) rfl _ _ (by simp;lia) (λv o Y j=>?_) ?_
  ·show{by change 1<=1000000;lia,by change(l.map _).length+1<=1000000;simp;lia,?_};change Y (.tup (l.map _++[_])) _;have e:tI (l++[(v:Int)])=.tup (l.map (λn=>Tr.v (.int n))++[.v (.int v)]):=(by simp[tI]);rw[<-e];show j
  ·have e:longer (ls.take (i+1)) n=longer (ls.take i) n++(bG n).map λv:Nat=>l++[(v:Int)]:=by
    unfold longer;rw[cU,a];simp
   have p:(longer (ls.take i) n).length<=100000:=by
    rw[t5,bN];show bL (Nat.mul_le_mul (bL (qN _ _) b) d) (by decide)
   show{?_,?_}
   ·rw[bH,aB,aB,bS];lia
   ·show cast (MK N ?_) g;rw[e,bE,dO];rfl
 ·change R _;rw[cW];show q
def Nf:GS:=(aq (bp 1 (gLst (gA1 (gTup gaN)))) (aq (fk [2] (giT (aa 0)) (.one 2) (bp 1 (ar 2 t9 (gaV (aa 1) (gA1 (gX (aa 2) (gI 1))))))) (bh (aa 1))))
def qi:GP:=λds R=>∃a:List (Str×Nat),ds=[spT a]/\SpOk a/\R (.val (ltT (LL a)))
def Jm (a:List (List Int))(cs:List Nat)(c:Nat):iw a (cs++[c])=longer (iw a cs) c:=by unfold iw;rw[kS];rfl
theorem SpOk.take (h:SpOk a)(i:Nat):(di ((a.take i).map (·.2))).length<=216:=Fp (λc b=>by
  obtain⟨x,d,rfl⟩:=dG.mp b;show(h.cnt x (oM d)).2) (by rw[aB,bN];have:=h.hi;lia)
def Ng:Pm (Nf) 3 1 1 (qi):=by
 intro ds R b h;obtain⟨a,rfl,ok,q⟩:=h;show{bg rfl,bg rfl,?_};show tf (I:=λi=>{[KE (.v (spT a)),KE (.v (ltT (di ((a.take i).map (·.2))))),LX],[LX]}) rfl (λi x N c d=>?_) ?_
 ·have e:=ok.cnt x (aR c);have f:=ok.hi;show⟨rfl,di ((a.take i).map (·.2)),x.2,rfl,by have:=ok.take i;lia,(),λl b=>?_,?_⟩
  ·rw[(i6 _).wide l b,aB,bN];lia
  ·show cast (MK N ?_) d;rw[cU,c];change({[_,KE (.v (ltT (di ((a.take i++[x]).map (·.2))))),_],_}:M)=_;rw[bE];unfold di;rw[bB,gW,Jm];rfl
 ·change R _;rw[cW];show q
def aex (C:MA)(ls:List (List Int))(k:Nat)(W:Nat->Nat->Rl)(d:Tr):Prop:=∃x,d=.obj C YE [ltT ls,x]/\qc ls.length (k+1) W x
def Pu (C:MA):GS:=(aq (U9 C 0 "letters" (aa 1)) (U9 C 0 "ways" (aa 2)))
def xr (C:MA):GR:=λds d R=>∃x y,ds=[x,y]/\d=.obj C [] []/\R (.val (.v .non)) (.obj C YE [x,y])
def Pv:Pr 0 (Pu C) 3 0 3 (xr C):=by
 intro ds d R a h;obtain⟨x,y,rfl,rfl,q⟩:=h;show{rfl,rfl,by decide,rfl,rfl,by decide,q}
def MskT (n:Nat)(T:Nat->Nat->Prop)(c:Nat)(d:Tr):Prop:=∃m,d=.v (.int m)/\MaskP n m (T c)
def Cp (W:Nat->Nat->Rl)(a:List Nat)(i:Nat)(c j:Nat):Prop:=∃r,r∈a/\W r c i j
abbrev rmT (rs:List Nat):Tr:=.tup (rs.map λ(r:Nat)=>Tr.v (.int (r:Int)))
def Ask (C:MA)(ls:List (List Int))(k:Nat)(W:Nat->Nat->Rl)(m:Tr)(a:List Nat)(l:List Int):Prop:=aex C ls k W m/\(∀r∈a,r < k+1)/\l∈ls/\ls.length<=300/\k<=300
def Cw (C:MA):GS:=(aq (bp 3 (gMt "list" Bh (Ms C "letters" (aa 0)) (gaE (aa 2) gaN))) (aq (bp 4 (gOp qt (gLst (gA1 (gI 0))) (gCB gc (gaE (Ms C "ways" (aa 0)) gaN)))) (aq (fk [5] (giT (aa 1)) (.one 5) (bp 4 (c8 2 [3] (U4 (gaV (aa 4) (gA1 (gX (Ms C "ways" (aa 0)) (aa 5))))) (.tup [0,1]) cu (gOp (ff λi j=>.int (dW i j)) (aa 0) (gX (aa 1) (aa 2)))))) (bh (aa 4)))))
def nq (C:MA):GP:=λds R=>∃ls k W m a l,ds=[m,rmT a,tI l]/\Ask C ls k W m a l/\∀x,LstT (MskT ls.length (Cp W a (ls.idxOf l))) (k+1) x->R (.val (.lst x))
def Cy {C:MA}:Pm (Cw C) 6 1 3 (nq C):=by
 intro ds R hl h;obtain⟨ls,k,W,_,s,l,rfl,⟨⟨x,rfl,J⟩,L,w,hn,hk⟩,q⟩:=h;obtain⟨f,rfl,hw⟩:=J;have O:=hw.len;have Q:ls.idxOf l < ls.length:=eW.mpr w;show{rfl,rfl,ls,l,rfl,rfl,w,?_};show{bg rfl,rfl,by change(-1000000:Int)<=(f.length:Int);lia,by change(f.length:Int)<=1000000;lia,by change 1 * ((f.length:Int)).toNat<=1000000;lia,?_};show du (I:=λi m=>∃y,m={[KE (.v (.obj C YE [ltT ls,.lst f])),KE (.v (rmT s)),KE (.v (tI l)),KE (.v (.v (.int (ls.idxOf l)))),KE (.v (.lst y)),LX],[LX]}/\LstT (MskT ls.length (Cp W (s.take i) (ls.idxOf l))) (k+1) y) {_,rfl,?_} ?_ ?_
 ·rw[G8,bV,O];show LstT.rep _ λc _=>⟨0,rfl,(j8 _).iff λj _=>⟨λz=>z.elim,λT=>by obtain⟨_,z,_⟩:=T;show by simp at z⟩⟩
 ·intro i r m N A g U;obtain⟨y,rfl,n⟩:=g;have yl:=n.len;obtain⟨_,ey,D,rfl,hz⟩:=hw.at (L r (aR A));have zl:=hz.len;show{rfl,ax (x:=.lst f) rfl (ax (bj ey) ?_)};change df _ _ _ _ _ _ _ (prs y D) _ _;have pl:(prs y D).length=k+1:=(by rw[Cg,yl,zl,mF]);show wx (P:=MskT ls.length (Cp W (s.take (i+1)) (ls.idxOf l))) rfl () (λc d e Y hY=>?_) (λbs E=>?_)
  ·obtain⟨a,b,ea,eb,rfl⟩:=Ml e;obtain⟨m1,rfl,p1⟩:=n.get c a ea;obtain⟨o,rfl,G⟩:=hz.get c b eb;have h2:ls.idxOf l < o.length:=(by rw[G.1];show Q);have H:o[ls.idxOf l]?=KE o[ls.idxOf l]:=aC h2;show ax (x:=.v (.int o[ls.idxOf l])) (bj (i:=ls.idxOf l) (by rw[aL,H];rfl)) (hY _ {_,rfl,(vw p1 (G.2 _ _ H)).iff λj _=>?_});unfold Cp;rw[cU,A];constructor
   ·rintro(⟨u,z1,p⟩ | z)
    ·show{u,dS _ z1,p}
    ·show{r,bQ _ ∅,z}
   ·intro g;obtain⟨u,z1,p⟩:=g;rcases cS.mp z1 with z1 | z1
    ·show .inl #v[u,z1,p]
    ·simp at z1;subst z1;show .inr p
  ·rw[pl]at E;show U _ #v[bs,rfl,E]
 ·intro m g;obtain⟨y,rfl,n⟩:=g;rw[cW]at n;show q y n
def Ef (C:MA):GS:=(bh (ar 2 vx (gaV (Ms C "letters" (aa 0)) (gA1 (gX (K3 C "masks_from" 3 (nq C) (aa 0) (gaV (aa 1) (gA1 (aa 2)))) (gI 0))))))
def ox (C:MA):GP:=λds R=>∃ls k W m a l,ds=[m,rmT a,tI l]/\Ask C ls k W m a l/\∀mk,MaskP ls.length mk (Cp W a (ls.idxOf l) 0)->R (.new (ltT (pick mk ls ls.length)))
def Eg:Pm (Ef C) 3 1 3 (ox C):=by
 intro ds R g h;obtain⟨ls,k,W,_,d,l,rfl,a,q⟩:=h;obtain⟨x,rfl,j⟩:=id a.1;show{rfl,rfl,rfl,rfl,ls,k,W,_,d,l,rfl,a,λy f=>?_};obtain⟨_,e,mk,rfl,b⟩:=f.at (c:=0) ();show ax (bj (i:=0) e) {rfl,ls.length,mk,ls,rfl,b.1,a.2.2.2.1,q mk b}
def Pw (C:MA):GS:=(bh (K3 C "ends_from" 3 (ox C) (aa 0) (gaV (gTup (gA1 (aa 1))) (gA1 (aa 2)))))
def xt (C:MA):GP:=λds R=>∃ls k W m r l,ds=[m,.v (.int (r:Nat)),tI l]/\Ask C ls k W m [r] l/\∀mk,MaskP ls.length mk (W r 0 (ls.idxOf l))->R (.new (ltT (pick mk ls ls.length)))
def Px {C:MA}:Pm (Pw C) 3 1 3 (xt C):=by
 intro ds R c h;obtain⟨ls,k,W,_,r,l,rfl,a,q⟩:=h;obtain⟨x,rfl,d⟩:=id a.1;show{rfl,rfl,bg rfl,rfl,ls,k,W,_,[r],l,rfl,a,λmk b=>q mk (b.iff λj _=>?_)};unfold Cp;simp
def Hk (C:MA):GS:=(aq (fv (ar 2 km (gaV (aa 1) (gA1 (aa 2))))) (aq (bp 3 (ar 1 qi (gA1 (aa 1)))) (fv (gy 3 0 (xr C) (gaE (aa 0) (gaV (aa 3) (gA1 (ar 3 Bq (gaV (aa 1) (gaV (aa 3) (gA1 (aa 2))))))))))))
def rh (C:MA):GR:=λds d R=>∃a s,ds=[spT a,Say.t s]/\d=.obj C [] []/\SpOk a/\s.size<=1000/\s.good a/\s.rm<=300/\∀x,aex C (LL a) s.rm (s.W a) x->R (.val (.v .non)) x
def Hl:Pr 0 (Hk C) 4 0 3 (rh C):=by
 intro ds d R e h;obtain⟨a,s,rfl,rfl,ok,hs,b,rm,q⟩:=h;show{rfl,a,s,rfl,hs,b,?_};show{rfl,a,rfl,ok,?_};show{rfl,a,s,rfl,ok,hs,b,rm,λx c=>?_};show{rfl,_,_,rfl,rfl,?_};show q _ #v[x,rfl,c]
structure Row where
 m:List (Option Int)
 ds:List (List (Option Int))
structure RowOk (n:Nat)(r:Row):Prop where
 ml:r.m.length=n
 dl:r.ds.length<=36
 dm:∀d∈r.ds,d.length=n
def put (l:List Int)(p:List (Option Int)):List Int:=(l.zip p).map λx=>x.2.getD x.1
def yk (h:l.length=p.length):(put l p).length=l.length:=by
 unfold put;rw[aB,oS,h,mF]
def due (l:List Int):List Row->List (List Int)
 | []=>[]
 |r::t=>if put l r.m=l then TupG.srtG (r.ds.map (put l))else due l t
def rj (l m:List Int):List (Option Int):=(m.zip l).map λx=>if x.1=x.2 then LX else KE x.1
def acu (h:m.length=l.length):(rj l m).length=l.length:=by
 unfold rj;rw[aB,oS,h,mF]
def Fq (l:List Int)(ls:List (List Int)):Row:={l.map KE,ls.map (rj l)}
def wid (r:Row)(i:Nat):Row:={r.m.set i LX,r.ds}
abbrev ip:=List (List Int×List (List Int))
def fu (T:List Row)(W:ip):Bool:=W.all λp=>decide (due p.1 T=p.2)
structure TabOk (n:Nat)(T:List Row):Prop where
 rows:∀r∈T,RowOk n r
 few:T.length<=36
def oy (W:ip):Nat->List Row->List Row
 |0,T=>T
 |k+1,T=>oy W k (if fu (T.eraseIdx k) W=LY then T.eraseIdx k else T)
def rk (W:ip)(p:Nat)(T:List Row)(i:Nat):List Row:=match T[p]? with
 |none=>T
 |some r=>if fu (T.set p (wid r i)) W=LY then T.set p (wid r i)else T
def nr (W:ip)(p:Nat)(T:List Row)(k:Nat):List Row:=(bG k).foldl (rk W p) T
def ju (W:ip)(n:Nat)(T:List Row)(k:Nat):List Row:=(bG k).foldl (λT p=>nr W p T n) T
def tp (W:ip)(p:Nat)(T:List Row)(k:Nat):nr W p T (k+1)=rk W p (nr W p T k) k:=by
 unfold nr;rw[kD,kS];rfl
def tq (W:ip)(n:Nat)(T:List Row)(k:Nat):ju W n T (k+1)=nr W k (ju W n T k) n:=by
 unfold ju;rw[kD,kS];rfl
def TabOk.erase (h:TabOk n T)(k:Nat):TabOk n (T.eraseIdx k):={λr a=>h.rows r (List.mem_of_mem_eraseIdx a),bL (List.length_eraseIdx_le _ _) h.few}
theorem RowOk.wid (h:RowOk n r)(i:Nat):RowOk n (wid r i):={by change(r.m.set i LX).length=n;rw[dY,h.ml],h.dl,h.dm}
theorem TabOk.set (h:TabOk n T)(a:RowOk n r):TabOk n (T.set p r):=⟨λx b=>by
  rcases List.mem_or_eq_of_mem_set b with z | z
  · show h.rows x z
  · rw[z];show a,by rw[dY];show h.few⟩
def cnt:List (Option Int)->Nat
 | []=>0
 |none::p=>cnt p
 |some _::p=>cnt p+1
def mu:List Row->Nat
 | []=>0
 |r::T=>1+cnt r.m+mu T
def LeT (a T:List Row):Prop:=a=T\/mu a < mu T
def LeT.trans {A B C:List Row}(h1:LeT A B)(h2:LeT B C):LeT A C:=by
 rcases h1 with rfl | h1
 ·show h2
 ·rcases h2 with rfl | h2
  ·show .inr h1
  ·show .inr (gJ h1 h2)
theorem Sz:∀p i,p.set i LX=p\/cnt (p.set i LX) < cnt p
 | [],_=>.inl rfl
 |none::p,0=>.inl rfl
 |some v::p,0=>.inr (fJ _)
 |c::p,i+1=>by
  rcases Sz p i with h | h
  ·show .inl (by rw[iE,h])
  ·show .inr ?_;rw[iE];cases c with
   |none=>show h
   |some v=>show nP h
theorem Nh:∀T k,LeT (T.eraseIdx k) T
 | [],_=>.inl rfl
 |r::T,0=>.inr (by change mu T < 1+cnt r.m+mu T;lia)
 |r::T,k+1=>by
  rcases Nh T k with h | h
  ·show .inl (by rw[gN,h])
  ·show .inr (by rw[gN];change 1+cnt r.m+mu (T.eraseIdx k) < 1+cnt r.m+mu T;lia)
theorem Y8:∀T p i r,T[p]?=KE r->LeT (T.set p (wid r i)) T
 | [],_,_,_,h=>by cases h
 |s::T,0,i,r,h=>by
  have e:s=r:=bX h;subst e;rcases Sz s.m i with z | z
  ·show .inl (by change wid s i::T=s::T;unfold wid;rw[z])
  ·show .inr (by change 1+cnt (s.m.set i LX)+mu T < 1+cnt s.m+mu T;lia)
 |s::T,p+1,i,r,h=>by
  rcases Y8 T p i r h with z | z
  ·show .inl (by rw[iE,z])
  ·show .inr (by rw[iE];change 1+cnt s.m+mu (T.set p (wid r i)) < 1+cnt s.m+mu T;lia)
theorem Fs (W:ip):∀k T,LeT (oy W k T) T
 |0,T=>.inl rfl
 |k+1,T=>by
  rw[oy];show LeT.trans (Fs W k _) ?_
  split
  ·show Nh T k
  ·show .inl rfl
def S0 (W:ip)(p:Nat)(T:List Row)(i:Nat):LeT (rk W p T i) T:=by
 unfold rk;cases h:T[p]? with
 |none=>show .inl rfl
 |some r=>
  dsimp only
  split
  ·show Y8 T p i r h
  ·show .inl rfl
theorem Cq (W:ip)(p:Nat)(T:List Row):∀k,LeT (nr W p T k) T
 |0=>.inl rfl
 |k+1=>by rw[tp];show LeT.trans (S0 W p _ k) (Cq W p T k)
theorem Cr (W:ip)(n:Nat)(T:List Row):∀k,LeT (ju W n T k) T
 |0=>.inl rfl
 |k+1=>by rw[tq];show LeT.trans (Cq W k _ n) (Cr W n T k)
def iu (W:ip)(n:Nat)(T:List Row):List Row:=ju W n (oy W T.length T) (oy W T.length T).length
def ahv (W:ip)(n:Nat)(T:List Row):LeT (iu W n T) T:=LeT.trans (Cr W n _ _) (Fs W _ T)
inductive Gets (W:ip)(n:Nat)(T:List Row):List Row->Prop
 |ref:Gets W n T T
 |step {B:List Row}:Gets W n T B->Gets W n T (iu W n B)
def zt (W:ip)(n:Nat)(T:List Row):Nat->List Row
 |0=>T
 |k+1=>iu W n (zt W n T k)
def Gets.at {W:ip}{n:Nat}{T B:List Row}(h:Gets W n T B):∃k,B=zt W n T k:=by
 induction h with
 |ref=>show{0,rfl}
 |step _ a=>obtain⟨k,rfl⟩:=a;show{k+1,rfl}
theorem zu (e:iu W n (zt W n T k)=zt W n T k):∀d,zt W n T (k+d)=zt W n T k
 |0=>rfl
 |d+1=>by
  change iu W n (zt W n T (k+d))=_;rw[zu e d,e]
def Gets.one {W:ip}{n:Nat}{T A B:List Row}(a:Gets W n T A)(c:iu W n A=A)(b:Gets W n T B)(d:iu W n B=B):A=B:=by
 obtain⟨i,rfl⟩:=a.at;obtain⟨j,rfl⟩:=b.at;rcases Nat.le_total i j with h | h
 ·have z:=zu c (j - i);rw[Nat.add_sub_cancel' h]at z;show z.symm
 ·have z:=zu d (i - j);rw[Nat.add_sub_cancel' h]at z;show z
def eh:Option Int->Tr
 |none=>.v .non
 |some v=>.v (.int v)
abbrev fm (p:List (Option Int)):Tr:=.tup (p.map eh)
abbrev cj (r:Row):Tr:=.tup [fm r.m,.tup (r.ds.map fm)]
abbrev cb (T:List Row):Tr:=.lst (T.map cj)
def S2 (l:List a)(m:List b)(f:a->Tr)(g:b->Tr):prs (l.map f) (m.map g)=(l.zip m).map λx=>Tr.tup [f x.1,g x.2]:=by
 unfold prs;rw[List.zipWith_map,List.zip,List.map_zipWith]
theorem zw:∀(n:Nat)(l m:List Int),cmpL n (l.map λx=>Tr.v (.int x)) (m.map λx=>Tr.v (.int x))=LY
 |_,[],_=>by cases (by assumption:Nat)<;>simp[cmpL]
 |_,_::_,[]=>by simp[cmpL]
 |n,x::l,y::m=>by
  rw[bB,bB,cmpL,zw n l m];cases n<;>rfl
def Ni {l m:List Int}:(l.map λx=>Tr.v (.int x))=(m.map λx=>Tr.v (.int x))↔l=m:={λh=>(iY (λa b z=>by cases z;rfl)).mp h,λh=>by rw[h]}
def Y9 {l m:List Int}(h:tI l=tI m):l=m:=Ni.mp (Tr.tup.inj h)
theorem Eh:∀(n:Nat)(l m:List (List Int)),cmpL (n+1) (l.map tI) (m.map tI)=LY
 |_,[],_=>by simp[cmpL]
 |_,_::_,[]=>by simp[cmpL]
 |n,x::l,y::m=>by
  rw[bB,bB,cmpL,Eh n l m,nK];show zw n x y
def Nj {l m:List (List Int)}:l.map tI=m.map tI↔l=m:={λh=>(iY (λa b z=>Y9 z)).mp h,λh=>by rw[h]}
def yn {c:Bool}{P Q:Prop}[Decidable Q](h:c=LY↔P)(e:P↔Q):c=decide Q:=by
 by_cases q:Q
 ·rw[MH q];show h.mpr (e.mpr q)
 ·rw[MG q];cases c with
  |false=>rfl
  |true=>show MI (e.mp (h.mp rfl)) q
def Vn:GS:=(bh (gCB n8 (gaE (c8 2 [] (giZ (gaV (aa 0) (gA1 (aa 1)))) (.tup [0,1]) cu (gIf (gT (gOp (Bd LZ) (aa 1) (gC (.v .non)))) (aa 0) (aa 1))) gaN)))
def uq:GP:=λds R=>∃l p,ds=[tI l,fm p]/\l.length=p.length/\l.length<=100/\R (.val (tI (put l p)))
def Vo:Pm (Vn) 2 1 2 (uq):=by
 intro ds R d h;obtain⟨l,p,rfl,e,f,q⟩:=h;change df _ _ _ _ _ _ _ (prs _ _) _ _;rw[S2];show cw (out:=λx:Int×Option Int=>Tr.v (.int (x.2.getD x.1))) rfl _ _ (by rw[oS];change 0+_<=_;lia) (λx g Y c=>?_) ?_
 ·obtain⟨a,b⟩:=x;cases b with
  |none=>show c
  |some v=>show c
 ·rw[bH,ma];show q
def Za:GS:=(bh (gOp (eqG LZ) (ar 2 uq (gaV (aa 1) (gA1 (aa 0)))) (aa 1)))
def Br:GP:=λds R=>∃l p,ds=[fm p,tI l]/\l.length=p.length/\l.length<=100/\R (.val (.v (.bl (decide (put l p=l)))))
def Zb:Pm (Za) 2 1 2 (Br):=by
 intro ds R d h;obtain⟨l,p,rfl,e,a,q⟩:=h;show{rfl,l,p,rfl,e,a,zw _ _ _,λc b=>?_};rw[<-yn b Ni]at q;show q
def Vp:GS:=(aq (fk [2] (giL (aa 0)) (.one 2) (sIf (j6 (ar 2 Br (gaV (gX (aa 2) (gI 0)) (gA1 (aa 1))))) (bh (Bf TupG.srtG (c8 1 [1] (giT (gX (aa 2) (gI 1))) (.one 0) cu (ar 2 uq (gaV (aa 1) (gA1 (aa 0))))))) dz)) (bh (gLst gaN)))
def ur:GP:=λds R=>∃l T,ds=[cb T,tI l]/\(∀r∈T,RowOk l.length r)/\1<=l.length/\l.length<=100/\R (.new (ltT (due l T)))
def Vq:Pm (Vp) 3 1 2 (ur):=by
 intro ds R u h;obtain⟨l,T,rfl,j,w,f,q⟩:=h;show du (I:=λi m=>m={[KE (.v (cb T)),KE (.v (tI l)),LX],[LX]}/\due l (T.drop i)=due l T) #v[rfl,rfl] ?_ ?_
 ·intro i r m N hi a n;obtain⟨rfl,hd⟩:=a;obtain⟨ml,dl,dm⟩:=j r (aR hi);show{rfl,l,r.m,rfl,ml.symm,f,?_};have g:=b7 hi;have o:T.drop i=r::T.drop (i+1):=by
   rw[dZ g];rw[aC g]at hi;cases hi;rfl
  rw[o,due]at hd;change if decide (put l r.m=l)=LY then _ else _
  by_cases c:put l r.m=l
  ·rw[ME c]at hd;rw[ME (MH c)];show cw (out:=λd:List (Option Int)=>tI (put l d)) rfl _ _ (by change 0+_<=_;lia) (λd b Y p=>{rfl,l,d,rfl,(dm d b).symm,f,p}) ?_;show{r.ds.map (put l),by rw[bH,dO];rfl,by rw[aB];lia,λx s e=>?_,?_}
   ·obtain⟨d,b,rfl⟩:=dG.mp s;have:=yk (dm d b).symm;rw[e]at this;simp at this;lia
   ·rw[hd];show q
  ·rw[MF c]at hd;rw[MF (by rw[MG c];decide)];show n _ #v[rfl,hd]
 ·intro m a;obtain⟨rfl,hd⟩:=a;rw[List.drop_length]at hd;show{bg rfl,?_};rw[<-hd]at q;show q
def Vr:GS:=(bh (gCB n8 (gaE (c8 2 [] (giZ (gaV (aa 1) (gA1 (aa 0)))) (.tup [0,1]) cu (gIf (gT (gOp (eqG LZ) (aa 0) (aa 1))) (gC (.v .non)) (aa 0))) gaN)))
def zx:GP:=λds R=>∃l m:List Int,ds=[tI l,tI m]/\m.length=l.length/\l.length<=100/\R (.val (fm (rj l m)))
def Vs:Pm (Vr) 2 1 2 (zx):=by
 intro ds R f h;obtain⟨l,m,rfl,e,g,q⟩:=h;change df _ _ _ _ _ _ _ (prs _ _) _ _;rw[S2];show cw (out:=λx:Int×Int=>eh (if x.1=x.2 then LX else KE x.1)) rfl _ _ (by rw[oS];change 0+_<=_;lia) (λx i Y d=>?_) ?_
 ·obtain⟨a,b⟩:=x;show{rfl,?_};by_cases c:a=b
  ·show sfY (MH (by rw[c])) ?_;dsimp only at d;rw[ME c]at d;show d
  ·show sfN (MG λz=>c (by cases z;rfl)) ?_;dsimp only at d;rw[MF c]at d;show d
 ·rw[bH];unfold rj fm at q;rw[dO]at q;show q
def Zc:GS:=(bh (gTup (gaV (aa 0) (gA1 (gCB n8 (gaE (c8 1 [0] (giL (aa 1)) (.one 0) cu (ar 2 zx (gaV (aa 1) (gA1 (aa 0))))) gaN))))))
def Bs:GP:=λds R=>∃l ls,ds=[tI l,ltT ls]/\(∀m∈ls,m.length=l.length)/\l.length<=100/\ls.length<=1000/\R (.val (cj (Fq l ls)))
def Zd:Pm (Zc) 2 1 2 (Bs):=by
 intro ds R i h;obtain⟨l,ls,rfl,a,b,c,q⟩:=h;show cw (out:=λm:List Int=>fm (rj l m)) rfl _ _ (by change 0+_<=_;lia) (λm d Y e=>{rfl,l,m,rfl,a m d,b,e}) ?_;show{bg rfl,?_};rw[bH];have f:fm (l.map KE)=tI l:=(by change Tr.tup ((l.map KE).map eh)=_;rw[dO];rfl);have g:(ls.map (rj l)).map fm=ls.map λm=>fm (rj l m):=(by rw[dO];rfl);unfold cj Fq at q;rw[f,g]at q;show q
def Py:GS:=(bh (gTup (gaV (gOp bz (gOp bz (gSl (gX (aa 0) (gI 0)) goN (goS (aa 1))) (gTup (gA1 (gC (.v .non))))) (gSl (gX (aa 0) (gI 0)) (goS (gOp bz (aa 1) (gI 1))) goN)) (gA1 (gX (aa 0) (gI 1))))))
def S3 {p:List (Option Int)}(h:i < p.length):Tr.tup ((au (p.map eh) LX (KE (i:Int))++[.v .non])++au (p.map eh) (KE ((i:Int)+1)) LX)=fm (p.set i LX):=by
 rw[show((i:Int)+1)=((i+1:Nat):Int)by lia,qe _ _ (by rw[aB];lia),me _ _ (by rw[aB];lia),jO,ME h];change _=Tr.tup ((p.take i++LX::p.drop (i+1)).map eh);rw[bE,bB,nJ,lH,dD];rfl
def xu:GP:=λds R=>∃(r:Row)(i:Nat),ds=[cj r,.v (.int i)]/\i < r.m.length/\r.m.length<=100/\R (.val (cj (wid r i)))
def Pz:Pm (Py) 2 1 2 (xu):=by
 intro ds R a h;obtain⟨r,i,rfl,hi,b,q⟩:=h;show{bg rfl,?_};change(au (r.m.map eh) LX (KE (i:Int))).length+1<=1000000/\(au (r.m.map eh) LX (KE (i:Int))++[Tr.v .non]).length+(au (r.m.map eh) (KE ((i:Int)+1)) LX).length<=1000000/\2<=1000000/\R (.val (.tup [Tr.tup ((au (r.m.map eh) LX (KE (i:Int))++[.v .non])++au (r.m.map eh) (KE ((i:Int)+1)) LX),.tup (r.ds.map fm)]));rw[S3 hi];show{?_,?_,bg rfl,q}
 ·rw[qe _ _ (by rw[aB];lia),bN,aB];lia
 ·rw[show((i:Int)+1)=((i+1:Nat):Int)by lia,qe _ _ (by rw[aB];lia),me _ _ (by rw[aB];lia),aH,bN,dC,aB];change _+1+_<=_;lia
def Vt:GS:=(aq (fk [2,3] (giL (aa 1)) (.tup [2,3]) (sIf (gT (gOp (eqG LY) (ar 2 ur (gaV (aa 0) (gA1 (aa 2)))) (aa 3))) (bh (gC (.v (.bl LZ)))) dz)) (bh (gC (.v (.bl LY)))))
abbrev rn (W:ip):Tr:=.lst (W.map λp=>.tup [tI p.1,ltT p.2])
def uu:GP:=λds R=>∃T W n,ds=[cb T,rn W]/\(∀r∈T,RowOk n r)/\(∀p∈W,p.1.length=n)/\1<=n/\n<=100/\R (.val (.v (.bl (fu T W))))
def Vu:Pm (Vt) 4 1 2 (uu):=by
 intro ds R j h;obtain⟨T,W,n,rfl,b,d,l,o,q⟩:=h;show du (I:=λi m=>m={[KE (.v (cb T)),KE (.v (rn W)),LX,LX],[LX]}/\fu T (W.take i)=LY) #v[rfl,rfl] ?_ ?_
 ·intro i p m N hi a f;obtain⟨rfl,hd⟩:=a;have pn:=d p (aR hi);show{rfl,p.1,T,rfl,by rw[pn];show b,(),(),Eh _ _ _,λc g=>?_};cases yn g Nj;change if (!decide (due p.1 T=p.2))=LY then _ else _
  by_cases c:due p.1 T=p.2
  ·rw[MF (by rw[MH c];decide)];show f _ {rfl,?_};unfold fu at hd ⊢;rw[cU,hi,List.all_append,hd];simp[c]
  ·rw[ME (by rw[MG c];decide)];have e:fu T W=LZ:=by
    unfold fu;show qG.mpr λz=>c ?_;show of_decide_eq_true (lC.mp z p (aR hi))
   rw[e]at q;show q
 ·intro m a;obtain⟨rfl,hd⟩:=a;rw[cW]at hd;rw[hd]at q;show q
def Cz:GS:=(aq (fk [2,3] (giD (gaV (gOp (ff λi j=>.int (i - j)) (gCB gc (gaE (aa 0) gaN)) (gI 1)) (gaV (xj (gI 1)) (gA1 (xj (gI 1)))))) (.one 2) (aq (bp 3 (gOp bz (gSl (aa 0) goN (goS (aa 2))) (gSl (aa 0) (goS (gOp bz (aa 2) (gI 1))) goN))) (sIf (j6 (ar 2 uu (gaV (aa 3) (gA1 (aa 1))))) (bp 0 (aa 3)) dz))) (bh (aa 0)))
def Jn {a:Type}(l:List a)(i:Nat)(h:i < l.length):au l LX (KE (i:Int))++au l (KE ((i:Int)+1)) LX=l.eraseIdx i:=by
 rw[show((i:Int)+1)=((i+1:Nat):Int)by lia,qe _ _ (),me _ _ (),List.eraseIdx_eq_take_drop_succ]
def u6 {a:Type}(l:List a)(i:Nat)(h:i < l.length):(au l LX (KE (i:Int))).length+(au l (KE ((i:Int)+1)) LX).length<=l.length:=by
 rw[show((i:Int)+1)=((i+1:Nat):Int)by omega,qe _ _ (),me _ _ (),bN,dC];omega
theorem ua {b c:Type}(f:b->c):∀(l:List b)(i:Nat),(l.map f).eraseIdx i=(l.eraseIdx i).map f
 | [],_=>rfl
 |a::l,0=>rfl
 |a::l,i+1=>by rw[bB,gN,gN,bB,ua f l i]
def Ze (n:Nat):Fg n=(bG n).map λi:Nat=>Tr.v (.int ((n:Int) - 1 - (i:Int))):=rfl
def Zf (F:ip->Nat->List Row->List Row):GP:=λds R=>∃T W n,ds=[cb T,rn W]/\TabOk n T/\(∀p∈W,p.1.length=n)/\1<=n/\n<=100/\(TabOk n (F W n T)->R (.val (cb (F W n T))))
abbrev nu:GP:=Zf λW _ T=>oy W T.length T
def C0:Pm (Cz) 4 1 2 (nu):=by
 intro ds R C h;obtain⟨T,W,n,rfl,g,s,u,w,q⟩:=h;have few:=g.few;show{T.length,by change((T.map cj).length:Int) - 1=_;rw[aB],rfl,rfl,(),?_};rw[Ze];show du (I:=λi m=>∃a,m={[KE (.v (cb a)),KE (.v (rn W)),LX,LX],[LX]}/\TabOk n a/\oy W (T.length - i) a=oy W T.length T/\T.length - i<=a.length) {T,rfl,g,rfl,aJ _} ?_ ?_
 ·intro i x m N d f j;obtain⟨a,rfl,b,e,le⟩:=f;have hi:=b7 d;rw[bS]at hi;rw[cB hi]at d;cases d;obtain⟨k,y⟩:∃k,T.length - i=k+1:={T.length - i - 1,()};have l:T.length - (i+1)=k:=();have A:((T.length:Int) - 1 - (i:Int))=(k:Int):=();rw[y]at e le;rw[oy]at e;have o:=b.few;rw[A];have p:Tr.lst (au (a.map cj) LX (KE (k:Int))++au (a.map cj) (KE ((k:Int)+1)) LX)=cb (a.eraseIdx k):=by
   rw[Jn _ _ (by rw[aB];lia),ua]
  have r:=b.erase k;show{bL (u6 _ _ (by rw[aB];lia)) (by rw[aB];lia),?_};show{rfl,a.eraseIdx k,W,n,MK (λz=>[z,rn W]) p,r.rows,s,u,w,?_};change if fu (a.eraseIdx k) W=LY then _ else _
  by_cases c:fu (a.eraseIdx k) W=LY
  ·rw[ME c]at e ⊢;show j _ {a.eraseIdx k,MK (λz=>({[KE (.v z),KE (.v (rn W)),LX,LX],[LX]}:M)) p,r,by rw[l];show e,?_};rw[List.length_eraseIdx]
   split<;>lia
  ·rw[MF c]at e ⊢;show j _ {a,rfl,b,by rw[l];show e,()}
 ·intro m f;obtain⟨a,rfl,b,e,_⟩:=f;rw[bS,tH]at e;dsimp only at q;rw[<-e]at q;show q b
def zy:GS:=(aq (fk [2,3,4] (giR (gA1 (gCB gc (gaE (aa 0) gaN)))) (.one 2) (fk [3,4] (giR (gA1 (gCB gc (gaE (gX (gX (aa 0) (aa 2)) (gI 0)) gaN)))) (.one 3) (aq (bp 4 (gOp bz (gOp bz (gSl (aa 0) goN (goS (aa 2))) (gLst (gA1 (ar 2 xu (gaV (gX (aa 0) (aa 2)) (gA1 (aa 3))))))) (gSl (aa 0) (goS (gOp bz (aa 2) (gI 1))) goN))) (sIf (j6 (ar 2 uu (gaV (aa 4) (gA1 (aa 1))))) (bp 0 (aa 4)) dz)))) (bh (aa 0)))
def S4 (l:List a)(i:Nat)(x:a)(h:i < l.length):(au l LX (KE (i:Int))++[x])++au l (KE ((i:Int)+1)) LX=l.set i x:=by
 rw[show((i:Int)+1)=((i+1:Nat):Int)by lia,qe _ _ (),me _ _ (),jO,ME h,dD];rfl
abbrev j9:GP:=Zf λW n T=>ju W n T T.length
def acv (W:ip)(p:Nat)(T:List Row)(i:Nat):(rk W p T i).length=T.length:=by
 unfold rk
 split
 ·rfl
 ·split
  ·rw[dY]
  ·rfl
theorem Ei (W:ip)(p:Nat)(T:List Row):∀k,(nr W p T k).length=T.length
 |0=>rfl
 |k+1=>by rw[tp,acv,Ei W p T k]
theorem Nk (W:ip)(n:Nat)(T:List Row):∀k,(ju W n T k).length=T.length
 |0=>rfl
 |k+1=>by rw[tq,Ei,Nk W n T k]
def z6:Pm (zy) 5 1 2 (j9):=by
 intro ds R Y h;obtain⟨T,W,n,rfl,u,G,H,w,q⟩:=h;have few:=u.few;have J:(T.map cj).length=T.length:=aB ..;show{by change(-1000000:Int)<=((T.map cj).length:Int);lia,by change((T.map cj).length:Int)<=1000000;lia,?_};change gu _ _ _ _ (iz 0 (((T.map cj).length:Int)).toNat) _;rw[J,n9];show du (I:=λi m=>m={[KE (.v (cb (ju W n T i))),KE (.v (rn W)),LX,LX,LX],[LX]}/\TabOk n (ju W n T i)) #v[rfl,u] ?_ ?_
 ·intro i x m N a b y;obtain⟨rfl,f⟩:=b;have hi:=b7 a;rw[bS]at hi;rw[cB hi]at a;cases a;have ol:=Nk W n T i;have L:i < (ju W n T i).length:=();obtain⟨r,A⟩:∃r,(ju W n T i)[i]?=KE r:={_,aC L};have rm:=(f.rows r (aR A)).ml;show ax (x:=cj r) (bj (by rw[aL,A];rfl)) ?_;have ml:(r.m.map eh).length=n:=(by rw[aB,rm]);show{by change(-1000000:Int)<=((r.m.map eh).length:Int);lia,by change((r.m.map eh).length:Int)<=1000000;lia,?_};change gu _ _ _ _ (iz 0 (((r.m.map eh).length:Int)).toNat) _;rw[ml,n9];show du (I:=λj m=>m={[KE (.v (cb (nr W i (ju W n T i) j))),KE (.v (rn W)),KE (.v (.v (.int (i:Int)))),LX,LX],[LX]}/\TabOk n (nr W i (ju W n T i) j)) #v[rfl,f] ?_ ?_
  ·intro j x m N' a b e;obtain⟨rfl,d⟩:=b;have g:=b7 a;rw[bS]at g;rw[cB g]at a;cases a;have il:=Ei W i (ju W n T i) j;have O:nr W i (ju W n T i) (j+1)=rk W i (nr W i (ju W n T i) j) j:=tp ..;rw[O]at e;generalize nr W i (ju W n T i) j=U at *;have l:i < U.length:=();obtain⟨s,o⟩:∃s,U[i]?=KE s:={_,aC l};have hs:=d.rows s (aR o);have C:=d.few;show ax (x:=cj s) (bj (by rw[aL,o];rfl)) ?_;show{rfl,s,j,rfl,by rw[hs.ml];show g,by rw[hs.ml];show w,?_};show{bg rfl,?_};have ul:(U.map cj).length=U.length:=aB ..;have cl:=u6 (U.map cj) i ();have D:Tr.lst ((au (U.map cj) LX (KE (i:Int))++[cj (wid s j)])++au (U.map cj) (KE ((i:Int)+1)) LX)=cb (U.set i (wid s j)):=by
    rw[S4 _ _ _ (),<-List.map_set]
   have E:=d.set (p:=i) (hs.wid j);show{by change(au (U.map cj) LX (KE (i:Int))).length+1<=1000000;lia,?_};show{by change(au (U.map cj) LX (KE (i:Int))++[cj (wid s j)]).length+(au (U.map cj) (KE ((i:Int)+1)) LX).length<=1000000;rw[aH];change _+1+_<=_;lia,?_};show{rfl,U.set i (wid s j),W,n,MK (λz=>[z,rn W]) D,E.rows,G,H,w,?_};have Q:rk W i U j=if fu (U.set i (wid s j)) W=LY then U.set i (wid s j)else U:=by unfold rk;rw[o]
   rw[Q]at e;change if fu (U.set i (wid s j)) W=LY then _ else _
   by_cases c:fu (U.set i (wid s j)) W=LY
   ·rw[ME c]at e ⊢;show e _ {MK (λz=>({[KE (.v z),KE (.v (rn W)),KE (.v (.v (.int (i:Int)))),LX,LX],[LX]}:M)) D,E}
   ·rw[MF c]at e ⊢;show e _ #v[rfl,d]
  ·intro m b;obtain⟨rfl,d⟩:=b;rw[bS]at d ⊢;rw[tq]at y;show y _ #v[rfl,d]
 ·intro m b;obtain⟨rfl,f⟩:=b;rw[bS]at f ⊢;show q f
theorem acw:∀{a b},eh a=eh b->a=b
 |none,LX,_=>rfl
 |none,KE _,h=>by cases h
 |some _,LX,h=>by cases h
 |some a,KE b,h=>by cases h;rfl
def Nl (h:fm p=fm q):p=q:=(iY λa b z=>acw z).mp (Tr.tup.inj h)
def acx (h:cj r=cj s):r=s:=by
 have c:=Tr.tup.inj h;have d:fm r.m=fm s.m:=(nI c).1;have e:Tr.tup (r.ds.map fm)=.tup (s.ds.map fm):=(nI (nI c).2).1;have f:=(iY λa b z=>Nl z).mp (Tr.tup.inj e);obtain⟨rm,rd⟩:_:=r;obtain⟨sm,g⟩:_:=s;cases Nl d;cases f;rfl
def acy {T U:List Row}:T.map cj=U.map cj↔T=U:={λh=>(iY (λa b z=>acx z)).mp h,λh=>by rw[h]}
def ahw (n:Nat)(a b:Option Int):gr n (eh a) (eh b)=LY:=by cases a<;>cases b<;>cases n<;>rfl
theorem u7 {c:Type}{f:c->Tr}{n:Nat}(h:∀a b,gr n (f a) (f b)=LY):∀(l m:List c),cmpL n (l.map f) (m.map f)=LY
 | [],_=>by simp[cmpL]
 |_::_,[]=>by simp[cmpL]
 |x::l,y::m=>by rw[bB,bB,cmpL,h,u7 h l m];rfl
def S5 (n:Nat)(p q:List (Option Int)):gr (n+1) (fm p) (fm q)=LY:=u7 (ahw n) p q
def S6 (n:Nat)(r s:Row):gr (n+3) (cj r) (cj s)=LY:=by
 have a:=S5 (n+1) r.m s.m;have b:gr (n+2) (.tup (r.ds.map fm)) (.tup (s.ds.map fm))=LY:=u7 (S5 n) r.ds s.ds;change cmpL (n+2) [fm r.m,.tup (r.ds.map fm)] [fm s.m,.tup (s.ds.map fm)]=LY;rw[cmpL,cmpL,a,b,cmpL]
 ·rfl
 ·simp
def Nm:GS:=(aq (bp 2 (gLst gaN)) (aq (yd [] (gT (gOp (eqG LY) (aa 0) (aa 2))) (aq (bp 2 (aa 0)) (bp 0 (ar 2 j9 (gaV (ar 2 nu (gaV (aa 0) (gA1 (aa 1)))) (gA1 (aa 1))))))) (bh (aa 0))))
def v8:GP:=λds R=>∃T W n,ds=[cb T,rn W]/\TabOk n T/\(∀p∈W,p.1.length=n)/\1<=n/\n<=100/\∀a,TabOk n a->Gets W n T a->(a=[]\/iu W n a=a)->R (.val (cb a))
open Classical in
def Nn:Pm (Nm) 3 1 2 (v8):=by
 intro ds R o h;obtain⟨T,W,n,rfl,i,b,d,e,q⟩:=h;show{bg rfl,?_};show{λk m=>∃A B,m={[KE (.v (cb A)),KE (.v (rn W)),KE (.v (cb B))],[LX]}/\TabOk n A/\Gets W n T A/\(B=[]\/A=iu W n B)/\k=if A=B then 0 else mu A+1,{_,T,[],rfl,i,.ref,.inl rfl,rfl},?_}
 intro k m a;obtain⟨A,B,rfl,f,g,j,rfl⟩:=a;show{u7 (S6 36) A B,λc l=>?_};cases yn l acy;change if (!decide (A=B))=LY then _ else _
 by_cases c:A=B
 ·rw[MF (by rw[MH c];decide)];show q A f g ?_;subst c;rcases j with h | h
  ·show .inl h
  ·show .inr h.symm
 ·rw[ME (by rw[MG c];decide),MF c];show{λm=>m={[KE (.v (cb (iu W n A))),KE (.v (rn W)),KE (.v (cb A))],[LX]}/\TabOk n (iu W n A),?_,?_}
  ·intro m a;obtain⟨rfl,ok⟩:=a;show{_,?_,iu W n A,A,rfl,ok,g.step,.inr rfl,rfl}
   split
   ·lia
   ·rcases ahv W n A with h | h
    ·contradiction
    ·lia
  ·show{rfl,A,W,n,rfl,f,b,d,e,λok=>?_};show{rfl,_,W,n,rfl,ok,b,d,e,λok=>#v[rfl,ok]}
theorem Say.rm_le:∀s:Say,s.rm<=s.nts
 | .note=>aJ _
 | .again s=>s.rm_le
 | .either a b=>pE a.rm_le b.rm_le
 | .both a b=>pE a.rm_le b.rm_le
 | .no _=>cT _
 | .nought | .every | .is _ _ | .put _ _=>cT _
open Classical in
noncomputable def ak (a:List (Str×Nat))(s:Say)(l:List Int):List (List Int):=(LL a).filter λm=>decide (s.W a 0 0 ((LL a).idxOf l) ((LL a).idxOf m))
noncomputable def dq (a:List (Str×Nat))(s:Say):ip:=(LL a).map λl=>(l,ak a s l)
def ub (W:ip):List Row:=W.map λp=>Fq p.1 p.2
def Vv (C:MA):GS:=(aq (fv (ar 2 km (gaV (aa 0) (gA1 (aa 1))))) (aq (fv (ar 1 qh (gA1 (aa 1)))) (aq (bp 2 (aeu C 3 (rh C) (gaV (aa 0) (gA1 (aa 1))))) (aq (bp 3 (c8 1 [2] (giL (ar 1 qi (gA1 (aa 0)))) (.one 0) cu (gTup (gaV (aa 0) (gA1 (K3 C "ends" 3 (xt C) (aa 1) (gaV (gI 0) (gA1 (aa 0))))))))) (bh (ar 2 v8 (gaV (c8 2 [] (giL (aa 3)) (.tup [0,1]) cu (ar 2 Bs (gaV (aa 0) (gA1 (aa 1))))) (gA1 (aa 3)))))))))
def z7:GP:=λds R=>∃a s,ds=[spT a,s.t]/\SpOk a/\s.size<=1000/\s.good a/\s.nts=0/\(LL a).length<=36/\∀T,TabOk a.length T->Gets (dq a s) a.length (ub (dq a s)) T->(T=[]\/iu (dq a s) a.length T=T)->R (.val (cb T))
def alq {ls:List (List Int)}(nd:ls.Nodup)(e:ls[k]?=KE x):ls.idxOf x=k:=by
 have b:x∈ls:=aR e;have a:ls.idxOf x < ls.length:=eW.mpr b;have z:ls[ls.idxOf x]?=KE x:=(by rw[aC a,iW]);show(mZ a nd).mp (z.trans e.symm)
open Classical in
def P0 {ls:List (List Int)}(nd:ls.Nodup)(h:MaskP ls.length mk p):pick mk ls ls.length=ls.filter λm=>decide (p (ls.idxOf m)):=by
 have:∀k,k<=ls.length->pick mk ls k=(ls.take k).filter λm=>decide (p (ls.idxOf m)):=by
  intro k hk
  induction k with
  |zero=>rfl
  |succ k d=>
   have a:ls[k]?=KE ls[k]:=aC ();have b:=alq nd a;rw[cU,a,Option.toList,List.filter_append,<-d ()];by_cases c:p k
   ·rw[Mv ((h.2 k ()).mpr c) a];simp[b,c]
   ·rw[Sx (qG.mpr λz=>c ((h.2 k ()).mp z))];simp[b,c]
 rw[this _ (aJ _),cW]
def rq (h:m∈ak a s l):m∈LL a:=(iI.mp h).1
def Hm (a:List (Str×Nat))(s:Say)(l:List Int):(ak a s l).length<=(LL a).length:=nV ..
def jv (h:l∈LL a):l.length=a.length:=by
 rw[(i6 _).wide l h,aB]
def z8 (h:p∈dq a s):p.1∈LL a/\p.2=ak a s p.1:=by
 obtain⟨l,b,rfl⟩:=dG.mp h;show#v[b,rfl]
def ahx (h:(LL a).length<=36):TabOk a.length (ub (dq a s)):=⟨λr e=>by
  obtain⟨p,f,rfl⟩:=dG.mp e;obtain⟨g,b⟩:=z8 f;have w:=jv g;show{by change(p.1.map KE).length=_;rw[aB,w],by change(p.2.map (rj p.1)).length<=36;rw[aB,b];show bL (Hm a s p.1) h,λd hd=>?_};obtain⟨m,c,rfl⟩:=dG.mp hd;rw[b]at c;have i:=jv (rq c);rw[acu (),w],by unfold ub dq;rw[aB,aB];show h⟩
def Vw {C:MA}:Pm (Vv C) 4 1 2 (z7):=by
 intro ds R d h;obtain⟨a,s,rfl,ok,hs,e,j,n,q⟩:=h;have rm:s.rm=0:=(by have:=s.rm_le;lia);have G:=ok.hi;have o:=ok.lo;show{rfl,a,s,rfl,hs,e,?_};show{rfl,s,rfl,hs,j,?_};show{rfl,a,s,rfl,rfl,ok,hs,e,(),λx f=>{trivial,?_}};obtain⟨y,rfl,H⟩:=id f;show{rfl,a,rfl,ok,?_};show cw (out:=λl:List Int=>Tr.tup [tI l,ltT (ak a s l)]) rfl _ _ (by change 0+_<=_;lia) (λl d Y b=>?_) ?_
 ·show{rfl,rfl,rfl,LL a,s.rm,s.W a,_,0,l,rfl,{f,λr u=>by simp at u;lia,d,(),()},λmk w=>{bg rfl,?_}};rw[P0 (jc _) w];show b
 ·rw[bH];have z:((LL a).map λl:List Int=>Tr.tup [tI l,ltT (ak a s l)])=(dq a s).map λp=>Tr.tup [tI p.1,ltT p.2]:=(by unfold dq;rw[dO];rfl);rw[z];have I:(dq a s).length=(LL a).length:=aB ..;show cw (out:=λp:List Int×List (List Int)=>cj (Fq p.1 p.2)) rfl _ _ (by change 0+_<=_;lia) (λp c Y b=>?_) ?_
  ·obtain⟨A,g⟩:=z8 c;have D:=jv A;show⟨rfl,p.1,p.2,rfl,λm i=>by rw[g]at i;rw[jv (rq i),D],(),by rw[g];have:=Hm a s p.1;lia,b⟩
  ·rw[bH];have E:((dq a s).map λp:List Int×List (List Int)=>cj (Fq p.1 p.2))=(ub (dq a s)).map cj:=(by unfold ub;rw[dO];rfl);rw[E];show{rfl,ub (dq a s),dq a s,a.length,rfl,ahx n,λp c=>jv (z8 c).1,o,(),q}
def abc:Str:="abcdefghijklmnopqrstuvwxyz"
def ahy:abc.cps.toList.length=26:=by decide +kernel
def i8 (a:Int)(h:0 < m):0<=a % m/\a % m < m:={Int.emod_nonneg _ (Int.ne_of_gt h),Int.emod_lt_of_pos _ h}
def alr (h0:0<=v)(b:v < 26):∃c,atI abc.cps.toList v=KE c:=by
 have hk:v.toNat < abc.cps.toList.length:=(by rw[ahy];lia);have a:v=((v.toNat:Nat):Int):=();have q:atI abc.cps.toList ((v.toNat:Nat):Int)=KE abc.cps.toList[v.toNat]:=bj (aC hk);rw[<-a]at q;show{_,q}
structure Wds (ws:List (Str×Nat)):Prop where
 nd:(ws.map (·.1)).Nodup
def Tail (a:Int)(b:Str)(d:List (Str×Nat)):Prop:=∀(i:Nat)(w:Str×Nat),d[i]?=KE w->∃c,atI abc.cps.toList ((a+9 * (i:Int)) % 26)=KE c/\w.1=#v[#[c]]++b
def acz {a:Int}:Tail a b []:=λi w h=>by cases h
def Zg {a:List (Str×Nat)}(h:Tail d f a)(g:a.length=i)(e:atI abc.cps.toList ((d+9 * (i:Int)) % 26)=KE c):Tail d f (a++[(#v[#[c]]++f,k)]):=λj w b=>by
 rcases Nat.lt_or_ge j a.length with z | z
 ·rw[bT z]at b;show h j w b
 ·have l:j=a.length:=by
   have:=(bJ.mp b).1;rw[aH]at this;simp at this;lia
  subst l;rw[cH (aJ _),tH]at b;cases b;rw[g];show#v[c,e,rfl]
def ahz (f:0<=v)(i:v < 26)(j:0<=u)(l:u < 26)(h:atI abc.cps.toList v=KE c)(g:atI abc.cps.toList u=KE c):v=u:=by
 have key:∀n:Nat,n < 26->abc.cps.toList[n]?=KE (97+n):=⋯;have d:=key v.toNat ();have e:=key u.toNat ();have a:atI abc.cps.toList ((v.toNat:Nat):Int)=KE (97+v.toNat):=bj d;have b:atI abc.cps.toList ((u.toNat:Nat):Int)=KE (97+u.toNat):=bj e;rw[show((v.toNat:Nat):Int)=v by lia,h]at a;rw[show((u.toNat:Nat):Int)=u by lia,g]at b;have m:=bX a;have o:=bX b;lia
def ada (h:(#v[#[c]]++x:Str)=#v[#[d]]++x):c=d:=by
 have e:∀c:Nat,((⟨#[c]⟩:Str)++x).cps.toList=c::x.cps.toList:=λc=>by
  change(#[c]++x.cps).toList=_;simp
 have z:=MK (λs:Str=>s.cps.toList) h;simp only[e]at z;show(nI z).1
def Tail.ok {ws:List (Str×Nat)}(h:Tail fi tl ws)(l3:ws.length<=3)(f0:0<=fi)(f1:fi < 26):Wds ws where
 nd:=by
  unfold List.Nodup;rw[List.pairwise_iff_getElem];intro i j hi hj LG;rw[aB]at hi hj;rw[List.getElem_map,List.getElem_map];obtain⟨c,ec,wc⟩:=h i _ (aC (show i < ws.length by lia));obtain⟨d,ed,wd⟩:=h j _ (aC hj);intro z;rw[wc,wd]at z;have:=ada z;subst this;have m1:=i8 (fi+9 * (i:Int)) (m:=26) (by decide);have m2:=i8 (fi+9 * (j:Int)) (m:=26) (by decide);have:=ahz m1.1 m1.2 m2.1 m2.2 ec ed;lia
def prd:List Nat->Nat
 | []=>1
 |c::cs=>c * prd cs
theorem Np:∀cs k,prd (cs++[k])=prd cs * k
 | [],k=>by change k * 1=1 * k;lia
 |c::cs,k=>by change c * prd (cs++[k])=c * prd cs * k;rw[Np cs k,sI]
def adb {cs:List Nat}{k:Nat}{lf:Int}(h:(prd cs:Int) * lf<=24)(b:1<=k)(c:0<=lf):(prd (cs++[k]):Int) * (lf / (k:Int))<=24:=by
 rw[Np,Int.natCast_mul,Int.mul_assoc];have a:(k:Int) * (lf / (k:Int))<=lf:=Int.mul_ediv_self_le ();show tJ (Int.mul_le_mul_of_nonneg_left a (lS _)) h
def Nq:List Str:=["note","put","again","not","all","is","either","then"]
def als:Bool:=(bG 8).all λv=>Nq.all λw=>decide (w.cps.toList.tail≠(gP ("abcdefg":Str) LX (KE (v:Int))).cps.toList)
def alu:als=LY:=by decide +kernel
def aia (h0:0<=v)(d:v < 8)(hw:w∈Nq):w≠#v[#[c]]++gP ("abcdefg":Str) LX (KE v):=λe=>by
 have a:v=((v.toNat:Nat):Int):=();have h:=of_decide_eq_true (lC.mp (lC.mp alu v.toNat (dN.mpr ())) w hw);rw[<-a]at h;show h ?_;rw[e];have b:((⟨#[c]⟩:Str)++gP ("abcdefg":Str) LX (KE v)).cps.toList=c::(gP ("abcdefg":Str) LX (KE v)).cps.toList:=by
  change(#[c]++(gP ("abcdefg":Str) LX (KE v)).cps).toList=_;simp
 rw[b];rfl
abbrev iT (i:Int):Tr:=.v (.int i)
def P1:GS:=(aq (sIf (gT (gOp (ff λi j=>.bl (decide (i < j))) (aa 1) (gCB gc (gaE (aa 0) gaN)))) (bh (gX (aa 0) (aa 1))) dz) (bh (gI 0)))
def ko:GP:=λds R=>∃(ns:List Int)(k:Nat),ds=[.scr (ns.map iT),iT k]/\∀x:Int,R (.val (iT x))
def P2:Pm (P1) 2 1 2 (ko):=by
 intro ds R a h;obtain⟨ns,k,rfl,q⟩:=h;change if decide ((k:Int) < (((ns.map iT).length:Nat):Int))=LY then _ else _
 by_cases c:k < ns.length
 ·rw[ME (by rw[aB];show MH ())];show ax (x:=iT ns[k]) (bj (by rw[aL,aC c];rfl)) (q _)
 ·rw[MF (by rw[aB,MG ()];decide)];show q 0
def Nr:GS:=(aq (bp 1 (gOp (gn (λ_ j=>0 < j) λi j=>.int (i % j)) (aa 0) (gI 2147483647))) (aq (bp 2 (gI 1)) (aq (fk [3] (giR (gA1 (gI 16))) (.one 3) (aq (bp 1 (gOp (gn (λ_ j=>0 < j) λi j=>.int (i % j)) (gOp bz (gOp bz (gOp bz (gOp qt (aa 1) (aa 1)) (gOp qt (gOp qt (gI 48271) (aa 3)) (aa 3))) (aa 3)) (gI 3)) (gI 2147483629))) (bp 2 (gOp bz (gOp qt (aa 2) (gI 2147483587)) (gOp (gn (λ_ j=>0 < j) λi j=>.int (i % j)) (gOp qt (aa 1) (aa 1)) (gI 2147483587)))))) (aq (sIf (gT (gOp (eqG LZ) (gOp (gn (λ_ j=>0 < j) λi j=>.int (i % j)) (aa 0) (gI 2)) (gI 0))) (bh (gLst (gaV (gOp (gn Lc λi j=>.int (i / j)) (gCB absG (gaE (aa 0) gaN)) (gI 2)) (gA1 (aa 2))))) dz) (bh (gLst (gaV (gI 0) (gA1 (aa 2)))))))))
def mf:GP:=λds R=>∃n:Int,ds=[iT n]/\∀a b:Int,0<=a->0<=b->R (.new (.lst [iT a,iT b]))
def Nt:Pm (Nr) 4 1 1 (mf):=by
 intro ds R r h;obtain⟨n,rfl,q⟩:=h;have f:=i8 n (m:=2147483647) (by decide);show{by change(0:Int) < 2147483647;decide,by decide,by decide,?_};change gu _ _ _ _ (iz 0 16) _;rw[vv];show du (I:=λi m=>∃x y:Int,m={[KE (.v (iT n)),KE (.v (iT x)),KE (.v (iT y)),LX],[LX]}/\0<=x/\x < 2147483647/\0<=y) {_,_,rfl,f.1,f.2,by decide} ?_ ?_
 ·intro i k m N hk d g;obtain⟨x,y,rfl,j,l,a⟩:=d;have hi:=b7 hk;rw[bS]at hi;rw[cB hi]at hk;cases hk;have b:=i8 (x * x+48271 * (i:Int) * (i:Int)+(i:Int)+3) (m:=2147483629) (by decide);have o:=i8 ((x * x+48271 * (i:Int) * (i:Int)+(i:Int)+3) % 2147483629 * ((x * x+48271 * (i:Int) * (i:Int)+(i:Int)+3) % 2147483629)) (m:=2147483587) (by decide);show{.inl {(),()},.inl {by decide,by decide},.inr {(),()},by change(0:Int) < 2147483629;decide,?_};show{.inr {by decide,by decide},.inl {Int.lt_of_lt_of_le (by decide) b.1,Int.lt_trans b.2 (by decide)},by change(0:Int) < 2147483587;decide,?_};show g _ {_,_,rfl,b.1,Int.lt_trans b.2 (by decide),?_};show Int.add_nonneg (Int.mul_nonneg a (by decide)) o.1
 ·intro m d;obtain⟨x,y,rfl,j,l,a⟩:=d;show{by change(0:Int) < 2;decide,rfl,?_};have z:0<=(if n < 0 then -n else n):=by split<;>lia
  have p:0<=(if n < 0 then -n else n) / 2:=by lia
  by_cases c:n % 2=0
  ·show sfY (MH (show V.int (n % 2)=V.int 0 by rw[c])) ?_;show{{by decide,by decide},bg rfl,q _ _ p a}
  ·show sfN (MG λe=>c (V.int.inj e)) ?_;show{bg rfl,q _ _ (Int.le_refl 0) a}
def P3:GS:=(aq (bp 2 (gCB Uy (gaE (gOp (eqG LZ) (gX (aa 0) (gI 0)) (gI 0)) gaN))) (aq (bp 3 (gOp (gn (λ_ j=>0 < j) λi j=>.int (i % j)) (gX (aa 0) (aa 2)) (aa 1))) (aq (qw 0 (gOp (gn Lc λi j=>.int (i / j)) (gX (aa 0) (aa 2)) (aa 1)) (aa 2)) (bh (aa 3)))))
def uc (a b:Int):Tr:=.lst [iT a,iT b]
def dt:GR:=λds d R=>∃m a b:Int,ds=[iT m]/\d=uc a b/\0<=a/\0<=b/\0 < m/\m < 1073741824/\∀v c e:Int,0<=v->v < m->0<=c->0<=e->R (.val (iT v)) (uc c e)
def P4:Pr 0 (P3) 4 0 2 (dt):=by
 intro ds d R l h;obtain⟨m,a,b,rfl,rfl,e,f,c,g,q⟩:=h;have i:=i8 a c;have j:=i8 b c;show{rfl,?_};generalize hk:decide (V.int a=V.int 0)=k;cases k with
 |true=>show{c,#v[c,g],q _ _ _ j.1 j.2 e (Int.ediv_nonneg f (Int.le_of_lt c))}
 |false=>show{c,#v[c,g],q _ _ _ i.1 i.2 (Int.ediv_nonneg e (Int.le_of_lt c)) f}
def Vx {ns:List Int}(h0:0<=v)(b:v < (ns.length:Int)):∃x∈ns,atI (ns.map iT) v=KE (iT x):=by
 have hk:v.toNat < ns.length:=();have a:v=((v.toNat:Nat):Int):=();have q:atI (ns.map iT) ((v.toNat:Nat):Int)=KE (iT ns[v.toNat]):=bj (by rw[aL,aC hk];rfl);rw[<-a]at q;show{_,jS hk,q}
def Vy {ns:List Str}(h0:0<=v)(b:v < (ns.length:Int)):∃x∈ns,atI (ns.map λx=>Tr.v (.str x)) v=KE (.v (.str x)):=by
 have hk:v.toNat < ns.length:=();have a:v=((v.toNat:Nat):Int):=();have q:atI (ns.map λx=>Tr.v (.str x)) ((v.toNat:Nat):Int)=KE (.v (.str ns[v.toNat])):=bj (by rw[aL,aC hk];rfl);rw[<-a]at q;show{_,jS hk,q}
def alv (h0:0<=v)(a:v < 8):(gP ("abcdefg":Str) LX (KE v)).length<=7:=by
 have z:v=0\/v=1\/v=2\/v=3\/v=4\/v=5\/v=6\/v=7:=();rcases z with z | z | z | z | z | z | z | z<;>subst z<;>decide +kernel
def ixN0 (h:Q 0):ku (ixN (n+1) 0) Q:=ax (by unfold ixN;rw[ME (by decide),ME ()];rfl) h
def J5:GS:=(aq (jm 2 1 (ar 1 mf (gA1 (aa 0)))) (aq (bp 3 (gy 2 0 dt (gaE (aa 2) (gA1 (gI 26))))) (aq (bp 4 (gS "abcdefghijklmnopqrstuvwxyz")) (aq (bp 5 (gX (gLst (gaV (gI 8) (gaV (gI 8) (gaV (gI 6) (gaV (gI 8) (gaV (gI 12) (gaV (gI 8) (gaV (gI 4) (gA1 (gI 24)))))))))) (gy 2 0 dt (gaE (aa 2) (gA1 (gI 8)))))) (aq (bp 6 (gCB (two λi j=>if j > i then j else i) (gaE (aa 1) (gaE (gOp bz (gI 1) (gy 2 0 dt (gaE (aa 2) (gA1 (gI 3))))) gaN)))) (aq (bp 7 (gSl (gS "abcdefg") goN (goS (gy 2 0 dt (gaE (aa 2) (gA1 (gI 8))))))) (aq (jm 8 0 (gLst gaN)) (aq (fk [9,10] (giR (gA1 (aa 6))) (.one 9) (aq (bp 10 (gCB (two λi j=>if j < i then j else i) (gaE (gX (gLst (gaV (gI 2) (gaV (gI 3) (gaV (gI 4) (gaV (gI 1) (gaV (gI 6) (gA1 (gI 5)))))))) (gy 2 0 dt (gaE (aa 2) (gA1 (gI 6))))) (gaE (aa 5) gaN)))) (aq (bp 5 (gOp (gn Lc λi j=>.int (i / j)) (aa 5) (aa 10))) (fv (xk 8 (gTup (gaV (gOp bz (gX (aa 4) (gOp (gn (λ_ j=>0 < j) λi j=>.int (i % j)) (gOp bz (aa 3) (gOp qt (gI 9) (aa 9))) (gI 26))) (aa 7)) (gA1 (aa 10))))))))) (aq (bp 11 (gX (gLst (gaV (gS "note") (gaV (gS "put") (gaV (gS "again") (gaV (gS "not") (gaV (gS "all") (gaV (gS "is") (gaV (gS "either") (gA1 (gS "then")))))))))) (gy 2 0 dt (gaE (aa 2) (gA1 (gI 8)))))) (aq (sIf (gT (gOp (eqG LZ) (gy 2 0 dt (gaE (aa 2) (gA1 (gI 8)))) (gI 7))) (qw 8 (gTup (gaV (aa 11) (gA1 (gX (gX (aa 8) (gI 0)) (gI 1))))) (gI 0)) dz) (bh (gCB n8 (gaE (aa 8) gaN)))))))))))))
def ud:GP:=λds R=>∃n l:Int,ds=[iT n,iT l]/\1<=l/\l<=3/\∀a,SpOk a->Wds a->prd (a.map (·.2))<=24->l<=(a.length:Int)->R (.val (spT a))
def J7:Pm (J5) 12 3 2 (ud):=by
 intro ds R hl h;obtain⟨n,l,rfl,l1,l3,q⟩:=h;show{rfl,n,rfl,λa b f g=>?_};show{rfl,_,_,_,rfl,rfl,f,g,by decide,by decide,λD a b f0 f1 f g=>?_};show{bg rfl,?_};show{rfl,_,_,_,rfl,rfl,f,g,by decide,by decide,λv a b j o f g=>?_};obtain⟨lf,O,e⟩:=Vx (ns:=[8,8,6,8,12,8,4,24]) j o;show ax e ?_;have p:1<=lf/\lf<=24:=by
  simp only[aU,dH,or_false]at O;lia
 clear e O j o;show{rfl,_,_,_,rfl,rfl,f,g,by decide,by decide,λv a b j o f g=>?_};obtain⟨s,Q,mn1,mn3,mnl⟩:∃s:Nat,(if 1+v > l then 1+v else l)=(s:Int)/\1<=s/\s<=3/\l<=(s:Int):=by
  show{(if 1+v > l then 1+v else l).toNat,?_,?_,?_,?_}<;>split<;>lia
 clear j o;show{rfl,_,_,_,rfl,rfl,f,g,by decide,by decide,λu a b T U f g=>?_};show{bg rfl,bg rfl,?_};have tll:=alv T U;show{by change(-1000000:Int)<=if 1+v > l then 1+v else l;lia,by change(if 1+v > l then 1+v else l)<=1000000;lia,?_}
 change gu _ _ _ _ (iz 0 (if 1+v > l then 1+v else l).toNat) _
 rw[Q,bV,vv];have fin:∀d,SpOk d->prd (d.map (·.2))<=24->l<=(d.length:Int)->Wds d->R (.val (spT d)):=λd h1 h2 h3 h4=>q d h1 h4 h2 h3;clear q;show du (I:=λi m=>∃(lf:Int)(d:List (Str×Nat)) (a b:Int),m={[KE (.v (iT n)),KE (.v (iT l)),KE (.c 2),KE (.v (iT D)),KE (.v (.v (.str "abcdefghijklmnopqrstuvwxyz"))),KE (.v (iT lf)),KE (.v (iT s)),KE (.v (.v (.str (gP ("abcdefg":Str) LX (KE u))))),KE (.c 1),LX,LX,LX],[LX,KE (.lst (d.map pT)),KE (uc a b)]}/\d.length=i/\(∀w∈d,1<=w.2/\w.2<=6)/\Tail D (gP ("abcdefg":Str) LX (KE u)) d/\(prd (d.map (·.2)):Int) * lf<=24/\1<=lf/\lf<=24/\0<=a/\0<=b) {lf,[],a,b,?_,rfl,(λw hw=>nomatch hw),acz,?_,p.1,p.2,f,g} ?_ ?_
 ·rw[<-Q];rfl
 ·change(1:Int) * lf<=24;lia
 ·clear a b f g lf p;intro i k m N hk G hN;obtain⟨lf,d,a,b,rfl,A,H,E,J,p,Y,f,g⟩:=G;have hi:=b7 hk;rw[bS]at hi;rw[cB hi]at hk;cases hk;show{bg rfl,?_};show{rfl,_,_,_,rfl,rfl,f,g,by decide,by decide,λv a b j o f g=>?_};obtain⟨x,L,e⟩:=Vx (ns:=[2,3,4,1,6,5]) j o;show ax e ?_;have x1:1<=x/\x<=6:=by
   simp only[aU,dH,or_false]at L;lia
  obtain⟨c,ec,c1,c6,cl⟩:∃c:Nat,(if lf < x then lf else x)=(c:Int)/\1<=c/\c<=6/\(c:Int)<=lf:=by
   show{(if lf < x then lf else x).toNat,?_,?_,?_,?_}<;>split<;>lia
  have m1:=i8 (D+9 * (i:Int)) (m:=26) (by decide);obtain⟨ch,LS⟩:=alr m1.1 m1.2;show{{by change 0 < (if lf < x then lf else x);lia,by change(if lf < x then lf else x) < 1073741824;lia},?_}
  show{rfl,.inl {by decide,by decide},by change(0:Int) < 26;decide,?_};show{by decide +kernel,?_};show ax LS ?_;show{by change 1+_<=_;lia,bg rfl,?_};show{by change(d.map pT).length < 1000000;rw[aB];lia,?_};show hN _ {lf / c,d++[(#v[#[ch]]++gP ("abcdefg":Str) LX (KE u),c)],a,b,?_,by rw[aH,A];rfl,λw hw=>?_,Zg E A LS,?_,?_,?_,f,g}
  ·change({[KE (.v (iT n)),KE (.v (iT l)),KE (.c 2),KE (.v (iT D)),KE (.v (.v (.str "abcdefghijklmnopqrstuvwxyz"))),KE (.v (iT (lf / (if lf < x then lf else x)))),KE (.v (iT s)),KE (.v (.v (.str (gP ("abcdefg":Str) LX (KE u))))),KE (.c 1),LX,LX,LX],[LX,KE (.lst (d.map pT++[.tup [.v (.str (#v[#[ch]]++gP ("abcdefg":Str) LX (KE u))),iT (if lf < x then lf else x)]])),KE (uc a b)]}:M)=_
   rw[bE,ec];rfl
  ·rcases cS.mp hw with hw | hw
   ·show H w hw
   ·cases aZ.mp hw;show#v[c1,c6]
  ·rw[bE];show adb J c1 ()
  ·show(Int.le_ediv_iff_mul_le ()).mpr ()
  ·show tJ (Int.ediv_le_self _ ()) Y
 ·clear a b f g lf p;intro m G;obtain⟨lf,d,a,b,rfl,A,H,E,J,p,Y,f,g⟩:=G;rw[bS]at A;have C:SpOk d:={(),(),H};have wds:Wds d:=E.ok () f0 f1;have pr:prd (d.map (·.2))<=24:=by
   have h:=tJ (Int.mul_le_mul_of_nonneg_left p (lS (prd (d.map (·.2))))) J;lia
  show{bg rfl,?_};show{rfl,_,_,_,rfl,rfl,f,g,by decide,by decide,λv a b j o f g=>?_};obtain⟨x,L,e⟩:=Vy (ns:=Nq) j o;show ax e ?_;show{rfl,_,_,_,rfl,rfl,f,g,by decide,by decide,λv a b j o f g=>{rfl,?_}};by_cases c:v=7
  ·show sfY (MH (by rw[c])) ?_;obtain⟨w,r,rfl⟩:∃w r,d=w::r:=by
    rcases d with _ | ⟨w,r⟩
    ·simp at A;lia
    ·show#v[w,r,rfl]
   show ix0 ?_;show{bg rfl,?_};show ixN0 ?_;show fin ((x,w.2)::r) {C.lo,C.hi,λy hy=>?_} pr (by rw[bA]at A ⊢;lia) #v[?_]
   ·rcases aU.mp hy with rfl | hy
    ·show C.cnt w aN
    ·show C.cnt y (aI _ hy)
   ·have nd:=wds.nd;rw[bB,List.nodup_cons]at nd ⊢;show{λz=>?_,nd.2};obtain⟨y,hy,ey⟩:=dG.mp z;obtain⟨i,hi⟩:=kX.mp hy;obtain⟨ch,_,e2⟩:=E (i+1) y hi;show aia T U L (ey.symm.trans e2)
  ·show sfN (MG λe=>c (V.int.inj e)) ?_;show fin d C pr () wds
def Hn:GS:=(aq (bp 1 (gLst (gA1 (gTup gaN)))) (aq (fk [2,3,4,5] (giT (aa 0)) (.tup [2,3]) (aq (bp 4 (gLst gaN)) (aq (fk [5] (giL (aa 1)) (.one 5) (bp 4 (gOp bz (aa 4) (c8 1 [5] (giR (gA1 (aa 3))) (.one 0) cu (gOp bz (aa 1) (gTup (gA1 (aa 0)))))))) (bp 1 (aa 4))))) (bh (aa 1))))
def r8:GP:=λds R=>∃a:List (Str×Nat),ds=[spT a]/\SpOk a/\R (.val (ltT (LL a)))
def Ho:Pm (Hn) 6 1 1 (r8):=by
 intro ds R b h;obtain⟨a,rfl,ok,q⟩:=h;have u:=ok.hi;show{bg rfl,bg rfl,?_};show tf (I:=λi=>{[KE (.v (spT a)),KE (.v (ltT (di ((a.take i).map (·.2))))),LX,LX,LX,LX],[LX]}) rfl (λi x N d f=>?_) ?_
 ·have g:=ok.cnt x (aR d);have m:=ok.take i;have c:=ok.take (i+1);have en:di ((a.take (i+1)).map (·.2))=longer (di ((a.take i).map (·.2))) x.2:=by
   rw[cU,d];change di ((a.take i++[x]).map (·.2))=_;rw[bE];unfold di;rw[bB,gW,Jm]
  have wide:∀l∈di ((a.take i).map (·.2)),l.length<=3:=λl b=>by
   rw[(i6 _).wide l b,aB,bN];lia
  rw[en]at f c;generalize di ((a.take i).map (·.2))=ls at *;show{bg rfl,?_};show tf (I:=λj=>{[KE (.v (spT a)),KE (.v (ltT ls)),KE (.v (.v (.str x.1))),KE (.v (iT x.2)),KE (.v (ltT (longer (ls.take j) x.2))),LX],[LX]}) rfl (λj l o b p=>?_) ?_
  ·have w:=wide l (aR b);show{by change(-1000000:Int)<=(x.2:Int);lia,by change(x.2:Int)<=1000000;lia,?_};change df _ _ _ _ _ _ _ (iz 0 x.2) _ _;rw[vv];show cw (out:=λv:Nat=>tI (l++[(v:Int)])) rfl _ _ (by simp;lia) (λv y Y r=>?_) ?_
   ·show{by change 1<=1000000;lia,by change(l.map _).length+1<=1000000;simp;lia,?_};change Y (.tup (l.map _++[_])) _;have e:tI (l++[(v:Int)])=.tup (l.map (λn=>Tr.v (.int n))++[.v (.int v)]):=(by simp[tI]);rw[<-e];show r
   ·have e:longer (ls.take (j+1)) x.2=longer (ls.take j) x.2++(bG x.2).map λv:Nat=>l++[(v:Int)]:=by
     unfold longer;rw[cU,b];simp
    have A:(longer (ls.take j) x.2).length<=100000:=by
     rw[t5,bN];show bL (Nat.mul_le_mul (bL (qN _ _) m) g.2) (by decide)
    have s:(longer (ls.take j) x.2).map tI++([]++(bG x.2).map λv:Nat=>tI (l++[(v:Int)]))=(longer (ls.take (j+1)) x.2).map tI:=by
     rw[e,bH,bE,dO];rfl
    show{by change((longer (ls.take j) x.2).map tI).length+([]++(bG x.2).map λv:Nat=>tI (l++[(v:Int)])).length<=1000000;rw[bH,aB,aB,bS];lia,?_};show cast (MK (λz=>o ({[KE (.v (spT a)),KE (.v (ltT ls)),KE (.v (.v (.str x.1))),KE (.v (iT x.2)),KE (.v (.lst z)),LX],[LX]}:M)) s.symm) p
  ·rw[cW];show f
 ·change R _;rw[cW];show q
theorem g7:∀{a w} i,(a.map (·.1)).Nodup->w∈a->∃p,wz w.1 a i=KE (p,w.2)
 |v::r,w,i,nd,h=>by
  rw[bB,List.nodup_cons]at nd;rcases aU.mp h with e | e
  ·subst e;show{i,ME rfl}
  ·obtain⟨p,b⟩:=g7 (i+1) nd.2 e;have ne:v.1≠w.1:=λz=>nd.1 (by rw[z];show oW e);show{p,by rw[wz,MF ne,b]}
def P5:GS:=(aq (U2 (.tup [3,4]) (gX (aa 2) (gy 2 0 dt (gaE (aa 1) (gA1 (gCB gc (gaE (aa 2) gaN))))))) (bh (gX (gLst (gaV (gTup (gaV (gS "is") (gaV (aa 3) (gA1 (gy 2 0 dt (gaE (aa 1) (gA1 (aa 4)))))))) (gaV (gTup (gaV (gS "put") (gaV (aa 3) (gA1 (gy 2 0 dt (gaE (aa 1) (gA1 (aa 4)))))))) (gaV (gTup (gA1 (gS "all"))) (gA1 (gTup (gA1 (gS "none")))))))) (aa 0))))
def Lone (a:List (Str×Nat))(st:Int)(s:Say):Prop:=s.good a/\s.isT=decide (st≠1)/\s.nts=0/\s.size=1
def xv:GR:=λds d R=>∃st a b c,ds=[iT st,spT c]/\d=uc a b/\0<=st/\st<=3/\0<=a/\0<=b/\SpOk c/\Wds c/\∀s e f,0<=e->0<=f->Lone c st s->R (.val s.t) (uc e f)
def P6:Pr 1 (P5) 5 0 3 (xv):=by
 intro ds d R D h;obtain⟨st,a,b,f,rfl,rfl,s0,s3,c,e,ok,l,q⟩:=h;have E:(f.map pT).length=f.length:=aB ..;have G:=ok.hi;have H:=ok.lo;show{rfl,_,_,_,rfl,rfl,c,e,by change(0:Int) < ((f.map pT).length:Int);lia,by change((f.map pT).length:Int) < 1073741824;lia,λv a b I m c e=>?_};have n:v < ((f.map pT).length:Int):=m;have hk:v.toNat < f.length:=();have o:v=((v.toNat:Nat):Int):=();obtain⟨w,i⟩:∃w,f[v.toNat]?=KE w:={_,aC hk};have hw:=aR i;have J:=ok.cnt w hw;have r:atI (f.map pT) v=KE (pT w):=by
  rw[o];show bj (by rw[aL,i];rfl)
 show ax r ?_;show{rfl,_,_,_,rfl,rfl,c,e,by change(0:Int) < (w.2:Int);lia,by change(w.2:Int) < 1073741824;lia,λu a b s y c e=>{bg rfl,?_}};show{rfl,_,_,_,rfl,rfl,c,e,by change(0:Int) < (w.2:Int);lia,by change(w.2:Int) < 1073741824;lia,λt a b A C c e=>{bg rfl,bg rfl,bg rfl,bg rfl,?_}};obtain⟨p,j⟩:=g7 0 l.nd hw;have z:st=0\/st=1\/st=2\/st=3:=();rcases z with rfl | rfl | rfl | rfl
 ·show q (.is w.1 u) a b c e {λx g=>?_,rfl,rfl,rfl};cases aZ.mp g;show#v[p,w.2,j,s,y]
 ·show q (.put w.1 t) a b c e {λx g=>?_,rfl,rfl,rfl};cases aZ.mp g;show#v[p,w.2,j,A,C]
 ·show q .every a b c e {λx g=>?_,rfl,rfl,rfl};cases aZ.mp g
  trivial
 ·show q .nought a b c e {λx g=>?_,rfl,rfl,rfl};cases aZ.mp g
  trivial
abbrev jw:=Say×Int
def bw (i:jw):Tr:=.lst [i.1.t,.v (.bl i.1.isT),iT i.1.nts,iT i.2]
def ntot (is:List jw):Nat:=(is.map λi=>i.1.nts).sum
def isz (is:List jw):Nat:=(is.map λi=>i.1.size).sum
structure Gd (ws:List (Str×Nat))(m:Nat)(is:List jw):Prop where
 good:∀i∈is,i.1.good ws
 few:ntot is<=m
theorem Hq:∀is:List jw,is.length<=isz is
 | []=>aJ _
 |i::is=>by
  have:=Hq is;have:=i.1.size_pos;simp[isz]at *;lia
def iy (a b:List jw):isz (a++b)=isz a+isz b:=by simp[isz]
def v9 (a b:List jw):ntot (a++b)=ntot a+ntot b:=by simp[ntot]
def w8 (d:a.good c)(e:b.good c):(Say.either a b).good c/\(Say.both a b).good c:=by
 constructor<;>
 ·intro x hx;rcases aU.mp hx with rfl | hx
  ·trivial
  ·rcases cS.mp hx with hx | hx
   ·show d x hx
   ·show e x hx
def J8:GS:=(aq (U2 (.lst [2,3]) (gSl (aa 0) (goS (xj (gI 2))) goN)) (aq (bp 4 (gTup (gaV (aa 1) (gaV (gX (aa 2) (gI 0)) (gA1 (gX (aa 3) (gI 0))))))) (bh (gOp bz (gSl (aa 0) goN (goS (xj (gI 2)))) (gLst (gA1 (gLst (gaV (aa 4) (gaV (aem (gX (aa 2) (gI 1)) (gX (aa 3) (gI 1))) (gaV (gOp bz (gX (aa 2) (gI 2)) (gX (aa 3) (gI 2))) (gA1 (gCB (two λi j=>if j > i then j else i) (gaE (gX (aa 2) (gI 3)) (gaE (gX (aa 3) (gI 3)) gaN))))))))))))))
def gq (c:Str)(a b:Say):Say:=if c="either" then .either a b else .both a b
def om:GP:=λds R=>∃is i j a,ds=[.lst ((is++[i,j]).map bw),.v (.str a)]/\(a="either"\/a="then")/\is.length<=1000/\∀d,R (.new (.lst ((is++[(gq a i.1 j.1,d)]).map bw)))
def S7 (n d k:Nat)(h:0 < k):HT.sIx n d (KE (-(k:Int)))=n - k:=by
 change(if (-(k:Int)) < 0 then (-(k:Int)+(n:Int)).toNat else _)=n - k
 rw[ME ()];lia
def aey (l r:List a)(h:0 < r.length):au (l++r) (KE (-(r.length:Int))) LX=r/\au (l++r) LX (KE (-(r.length:Int)))=l:=by
 unfold au;rw[S7 _ _ _ h,S7 _ _ _ h,aH,Nat.add_sub_cancel,HT.sIx_none,HT.sIx_none];constructor
 ·rw[List.drop_left,gY ()]
 ·rw[mM,Nat.sub_zero,List.take_left]
def alw (l:List b)(a:b):au (l++[a]) LX (KE (-1))=l:=(aey l [a] ∅).2
def at_m1 (l:List b)(a:b):atI (l++[a]) (-1)=KE a:=by
 unfold atI ixN;rw[MF (by decide),ME (by rw[aH];simp;lia)];rw[show(-1+((l++[a]).length:Int)).toNat=l.length by rw[aH];simp;lia];show List.getElem?_concat_length
def J9:Pm (J8) 5 1 2 (om):=by
 intro ds R m h;obtain⟨is,i,j,a,rfl,hw,n,q⟩:=h;have o:(is.map bw).length=is.length:=aB ..;rw[bE];obtain⟨c,d⟩:=aey (is.map bw) [bw i,bw j] ∅;change gTg (.lst [2,3]) (.lst (au (is.map bw++[bw i,bw j]) (KE (-2)) LX)) _ _;rw[show au (is.map bw++[bw i,bw j]) (KE (-2)) LX=[bw i,bw j]from c];show{bg rfl,?_};have f:(gq a i.1 j.1).t=.tup [.v (.str a),i.1.t,j.1.t]:=by
  rcases hw with rfl | rfl
  ·rfl
  ·rfl
 have g:(gq a i.1 j.1).isT=(i.1.isT && j.1.isT):=by
  unfold gq
  split<;>rfl
 have l:(gq a i.1 j.1).nts=i.1.nts+j.1.nts:=by
  unfold gq
  split<;>rfl
 have fin:∀b,b=(i.1.isT && j.1.isT)->(au (is.map bw++[bw i,bw j]) LX (KE (-2))).length+1<=1000000/\R (.new (.lst (au (is.map bw++[bw i,bw j]) LX (KE (-2))++[Tr.lst [.tup [.v (.str a),i.1.t,j.1.t],.v (.bl b),iT ((i.1.nts:Int)+j.1.nts),iT (if j.2 > i.2 then j.2 else i.2)]]))):=λb e=>by
  rw[show au (is.map bw++[bw i,bw j]) LX (KE (-2))=is.map bw from d];show{(),?_};have z:=q (if j.2 > i.2 then j.2 else i.2)
  rw[bE]at z;unfold bw at z;simp only[bB,gW,f,g,l]at z;rw[e,<-Int.natCast_add];show z
 change if i.1.isT=LY then _ else _
 cases hi:i.1.isT with
 |true=>
  rw[ME rfl];show{bg rfl,bg rfl,fin j.1.isT (by rw[hi];rfl)}
 |false=>
  rw[MF aQ];show{bg rfl,bg rfl,fin LZ (by rw[hi];rfl)}
def Ka:GS:=(bh (gOp bz (aa 0) (gLst (gA1 (gLst (gaV (gy 3 1 xv (gaV (aa 5) (gaE (aa 4) (gA1 (aa 2))))) (gaV (gOp (eqG LY) (aa 5) (gI 1)) (gaV (gI 0) (gA1 (gI 0))))))))))
def Ap:GS:=aq (bp 5 (gX (gLst (gaV (gI 0) (gaV (gI 1) (gaV (gI 2) (gaV (gI 3) (gaV (gI 2) (gaV (gI 0) (gaV (gI 1) (gaV (gI 0) (gaV (gI 1) (gaV (gI 0) (gaV (gI 1) (gaV (gI 0) (gaV (gI 1) (gA1 (gI 0)))))))))))))))) (aa 5))) (Ka)
def Aq:GS:=aq (sIf (xh (gT (gOp (ff λi j=>.bl (decide (j < i))) (aa 5) (gI 6))) (xh (gT (gOp (ff λi j=>.bl (decide (i < j))) (aa 5) (gI 12))) (gT (gOp (ff λi j=>.bl (decide (j < i))) (gCB gc (gaE (aa 0) gaN)) (gI 1))))) (bh (ar 2 om (gaV (aa 0) (gA1 (gX (gLst (gaV (gS "either") (gA1 (gS "then")))) (gOp (gn (λ_ j=>0 < j) λi j=>.int (i % j)) (aa 5) (gI 2))))))) dz) (Ap)
def Ar:GS:=aq (sIf (xh (gT (gOp (eqG LZ) (aa 5) (gI 6))) (gT (gOp (ff λi j=>.bl (decide (i < j))) (gX (aa 6) (gI 3)) (gI 3)))) (bh (gOp bz (gSl (aa 0) goN (goS (xj (gI 1)))) (gLst (gA1 (gLst (gaV (gTup (gaV (gS "again") (gA1 (gX (aa 6) (gI 0))))) (gaV (gC (.v (.bl LZ))) (gaV (gX (aa 6) (gI 2)) (gA1 (gOp bz (gX (aa 6) (gI 3)) (gI 1))))))))))) dz) (Aq)
def As:GS:=aq (sIf (xh (gT (gOp (eqG LZ) (aa 5) (gI 5))) (j6 (gX (aa 6) (gI 1)))) (bh (gOp bz (gSl (aa 0) goN (goS (xj (gI 1)))) (gLst (gA1 (gLst (gaV (gTup (gaV (gS "not") (gA1 (gX (aa 6) (gI 0))))) (gaV (gC (.v (.bl LY))) (gaV (gI 0) (gA1 (gI 0)))))))))) dz) (Ar)
def Kb:GS:=aq (sIf (xh (gT (gOp (eqG LZ) (aa 5) (gI 4))) (gT (gOp (ff λi j=>.bl (decide (i < j))) (gCB sumG (gaE (c8 1 [] (giL (aa 0)) (.one 0) cu (gX (aa 0) (gI 2))) gaN)) (aa 3)))) (bh (gOp bz (aa 0) (gLst (gA1 (gLst (gaV (gTup (gA1 (gS "note"))) (gaV (gC (.v (.bl LZ))) (gaV (gI 1) (gA1 (gI 0)))))))))) dz) (As)
def Kc:GS:=aq (bp 6 (gX (aa 0) (xj (gI 1)))) (Kb)
def Ke:GS:=aq (bp 5 (gy 2 0 dt (gaE (aa 4) (gA1 (gI 14))))) (Kc)
def Nu:GS:=aq (jm 4 0 (ar 1 mf (gA1 (aa 1)))) (Ke)
def wb:GP:=λds R=>∃(is:List jw)(it:jw) (cell:Int) (a:List (Str×Nat)) (m:Nat),ds=[.lst ((is++[it]).map bw),iT cell,spT a,iT m]/\SpOk a/\Wds a/\Gd a m (is++[it])/\isz (is++[it])<=500/\∀b,b≠[]->Gd a m b->isz b<=isz (is++[it])+1->R (.new (.lst (b.map bw)))
def Gd.app {c:List (Str×Nat)}{m:Nat}{a b:List jw}(ga:∀i∈a,i.1.good c)(d:∀i∈b,i.1.good c)(h:ntot a+ntot b<=m):Gd c m (a++b):=⟨λi hi=>by
  rcases cS.mp hi with h | h
  · show ga i h
  · show d i h,by rw[v9];show h⟩
def qj (i:jw):ntot [i]=i.1.nts:=by simp[ntot]
def qk (i:jw):isz [i]=i.1.size:=by simp[isz]
theorem u9:∀s:Say,s.isT=LY->s.nts=0
 | .nought,_ | .every,_ | .is _ _,_=>rfl
 | .no s,h=>u9 s h
 | .either a b,h=>by
  simp only[Say.isT,cQ]at h;simp only[Say.nts,u9 a h.1,u9 b h.2]
 | .both a b,h=>by
  simp only[Say.isT,cQ]at h;simp only[Say.nts,u9 a h.1,u9 b h.2]
 | .note,h | .put _ _,h | .again _,h=>by cases h
def Cs {a:List (Str×Nat)}{i:jw}(h:i.1.good a):∀j∈[i],j.1.good a:=λj b=>by cases aZ.mp b;show h
theorem we:∀s:Say,s.nts<=s.size
 | .note=>aJ _
 | .no s=>nA (we s)
 | .again s=>nA (we s)
 | .either a b=>nA (pE (we a) (we b))
 | .both a b=>nA (pE (we a) (we b))
 | .nought | .every | .is _ _ | .put _ _=>cT _
theorem S8:∀{is:List jw}{i:jw},i∈is->i.1.size<=isz is
 |j::is,i,h=>by
  have e:isz (j::is)=j.1.size+isz is:=(by simp[isz]);rcases aU.mp h with rfl | h
  ·lia
  ·have:=S8 h;lia
theorem nsum:∀is:List jw,(is.map λi=>(i.1.nts:Int)).sum=((ntot is:Nat):Int)
 | []=>rfl
 |i::is=>by
  have e:ntot (i::is)=i.1.nts+ntot is:=(by simp[ntot]);rw[bB,List.sum_cons,nsum is,e,Int.natCast_add]
def jx {E:wt}{m:M}(h:E.nx m):dz E m:=h
def Nv:Pm (Nu) 7 2 4 (wb):=by
 intro ds R hl h;obtain⟨is,it,cell,l,m,rfl,ok,wd,r,u,q⟩:_:=h;have y:∀i∈is,i.1.good l:=λi hi=>r.good i (dS _ hi);have A:it.1.good l:=r.good it (bQ _ (List.mem_singleton_self _));have few:=r.few;rw[v9,qj]at few;have sz:=u;rw[iy,qk]at sz;have w:=Hq is;have il:((is++[it]).map bw).length=is.length+1:=(by rw[aB,aH];rfl);have L:(is++[it]).map bw=is.map bw++[bw it]:=(by rw[bE];rfl);show{rfl,cell,rfl,λa b C D=>?_};show{rfl,_,_,_,rfl,rfl,C,D,by decide,by decide,λv a b v0 v1 C D=>?_};show ax (x:=bw it) (by rw[L];show at_m1 _ _) ?_
 let S:M:={[KE (.v (.lst ((is++[it]).map bw))),KE (.v (iT cell)),KE (.v (spT l)),KE (.v (iT m)),KE (.c 1),KE (.v (iT v)),KE (.v (bw it))],[LX,KE (uc a b)]}
 let E:wt:={ nx:=λm=>R (.val (.v .non)),rt:=vt R }
 have G:Ap E S:=by
  show{bg rfl,?_};obtain⟨x,hx,e⟩:_:=Vx (ns:=[0,1,2,3,2,0,1,0,1,0,1,0,1,0]) v0 v1;have N:0<=x/\x<=3:=by
   simp only[aU,dH,or_false]at hx;omega
  show ax e ?_;show{rfl,x,a,b,l,rfl,rfl,N.1,N.2,C,D,ok,wd,λs a b C D ⟨sg,st,O,ss⟩=>?_};show{rfl,bg rfl,bg rfl,?_};show{by change((is++[it]).map bw).length+1<=1000000;omega,?_};have z:=q (is++[it]++[(s,0)]) ∅ (Gd.app r.good (Cs sg) (by rw[qj];change _+s.nts<=m;rw[O];show r.few)) (by rw[iy _ [(s,0)],qk];change _+s.size<=_;omega);rw[bE]at z;have eb:s.isT=(!decide (V.int x=V.int 1)):=by
   rw[st,<-decide_not];show decide_eq_decide.mpr {λh z=>h (V.int.inj z),λh z=>h (by rw[z])}
  have H:bw (s,0)=.lst [s.t,.v (.bl (!decide (V.int x=V.int 1))),iT 0,iT 0]:=by
   unfold bw;rw[eb,O];rfl
  rw[bB,gW,H]at z;show z
 have Q:au ((is++[it]).map bw) LX (KE (-1))=is.map bw:=(by rw[L];show alw _ _);have iml:(is.map bw).length=is.length:=aB ..;have T:Aq E S:=by
  by_cases g:6 < v
  ·show ifY (MH g) ?_;by_cases f:v < 12
   ·show ifY (MH f) ?_;by_cases I:(1:Int) < (((is++[it]).map bw).length:Int)
    ·show ifY (MH I) ?_;show{bg rfl,by change(0:Int) < 2;decide,?_};have m2:=i8 v (m:=2) (by decide);obtain⟨o,hw,e⟩:_:=Vy (ns:=["either","then"]) m2.1 m2.2;show ax e ?_;have zC:o="either"\/o="then":=(by simpa using hw);rcases jC is with rfl | ⟨J,i,rfl⟩
     ·simp at I
     ·rw[jD]at *;have e2:J++[i]++[it]=J++[i,it]:=∅;have g1:i.1.good l:=y i ∅;have U:(gq o i.1 it.1).nts=i.1.nts+it.1.nts:=(by unfold gq;split<;>rfl);have hz:(gq o i.1 it.1).size=i.1.size+it.1.size+1:=(by unfold gq;split<;>rfl);have p:(gq o i.1 it.1).good l:=(by unfold gq;split;show(w8 g1 A).1;show(w8 g1 A).2);rw[v9,qj]at few;rw[aH,cK]at w;show{rfl,J,i,it,o,MK (λz=>[Tr.lst (z.map bw),.v (.str o)]) e2,zC,(),λd=>?_};show q _ ∅ (Gd.app (λj hj=>y j (dS _ hj)) (Cs p) (by rw[qj];change _+(gq o i.1 it.1).nts<=m;omega)) ?_;rw[iy,qk,iy,iy,qk,qk];change _+(gq o i.1 it.1).size<=_;omega
    ·show ifN (MG I) ?_;show jx ?_;show G
   ·show ifN (MG f) ?_;show ifN (c:=LZ) rfl ?_;show jx ?_;show G
  ·show ifN (MG g) ?_;show ifN (c:=LZ) rfl ?_;show jx ?_;show G
 have k5:Ar E S:=by
  show{rfl,?_};by_cases g:v=6
  ·show sfY (MH (by rw[g])) ?_;by_cases f:it.2 < 3
   ·show ifY (MH f) ?_;show{bg rfl,bg rfl,bg rfl,?_};change(au ((is++[it]).map bw) LX (KE (-1))).length+1<=1000000/\R (.new (.lst (au ((is++[it]).map bw) LX (KE (-1))++[.lst [.tup [.v (.str "again"),it.1.t],.v (.bl LZ),iT it.1.nts,iT (it.2+1)]])));rw[Q];show{(),?_};have p:(Say.again it.1).good l:=λx hx=>by
     rcases aU.mp hx with rfl | hx
     ·trivial
     ·show A x hx
    have z:=q (is++[(.again it.1,it.2+1)]) ∅ (Gd.app y (Cs p) (by rw[qj];show few)) (by rw[iy,qk,iy,qk];change _+(it.1.size+1)<=_;omega);rw[bE]at z;show z
   ·show ifN (MG f) ?_;show jx ?_;show T
  ·show sfN (MG λe=>g (V.int.inj e)) ?_;show ifN (c:=LZ) rfl ?_;show jx ?_;show T
 have k4:As E S:=by
  show{rfl,?_};by_cases g:v=5
  ·show sfY (MH (by rw[g])) ?_;cases f:it.1.isT with
   |true=>
    show ifY f ?_;show{bg rfl,bg rfl,bg rfl,?_};change(au ((is++[it]).map bw) LX (KE (-1))).length+1<=1000000/\R (.new (.lst (au ((is++[it]).map bw) LX (KE (-1))++[.lst [.tup [.v (.str "not"),it.1.t],.v (.bl LY),iT 0,iT 0]])));rw[Q];show{(),?_};have p:(Say.no it.1).good l:=λx hx=>by
     rcases aU.mp hx with rfl | hx
     ·show f
     ·show A x hx
    have z:=q (is++[(.no it.1,0)]) ∅ (Gd.app y (Cs p) (by rw[qj];show few)) (by rw[iy,qk,iy,qk];change _+(it.1.size+1)<=_;omega);have H:bw (.no it.1,0)=.lst [.tup [.v (.str "not"),it.1.t],.v (.bl LY),iT 0,iT 0]:=by
     change Tr.lst [.tup [.v (.str "not"),it.1.t],.v (.bl it.1.isT),iT (it.1.nts:Nat),iT 0]=_;rw[f,u9 _ f];rfl
    rw[bE,bB,gW,H]at z;show z
   |false=>
    show ifN f ?_;show jx ?_;show k5
  ·show sfN (MG λe=>g (V.int.inj e)) ?_;show ifN (c:=LZ) rfl ?_;show jx ?_;show k5
 show{rfl,?_};by_cases g:v=4
 ·show sfY (MH (by rw[g])) ?_;show cw (out:=λi:jw=>iT i.1.nts) rfl _ _ (by change 0+_<=_;rw[aH];simp;omega) (λi hi Y hY=>hY) ?_;rw[bH];show{(is++[it]).map λi=>(i.1.nts:Int),by rw[dO];rfl,by rw[aB,aH];simp;omega,λn U=>?_,?_}
  ·obtain⟨i,hi,rfl⟩:_:=dG.mp U;have h1:=we i.1;have h2:=S8 hi;omega
  ·rw[nsum];by_cases f:((ntot (is++[it]):Nat):Int) < (m:Int)
   ·show ifY (MH f) ?_;show{bg rfl,bg rfl,bg rfl,?_};show{by change((is++[it]).map bw).length+1<=1000000;omega,?_};have p:(Say.note).good l:=λx hx=>by
     cases aZ.mp hx
     trivial
    have z:=q (is++[it]++[(.note,0)]) ∅ (Gd.app r.good (Cs p) (by rw[qj];change _+1<=m;omega)) (by rw[iy _ [(.note,0)],qk];show aJ _);rw[bE]at z;show z
   ·show ifN (MG f) ?_;show jx ?_;show k4
 ·show sfN (MG λe=>g (V.int.inj e)) ?_;show ifN (c:=LZ) rfl ?_;show jx ?_;show k4
def Kf:GS:=(aq (bp 3 (gLst (gA1 (gLst (gaV (gTup (gA1 (gS "all"))) (gaV (gC (.v (.bl LY))) (gaV (gI 0) (gA1 (gI 0))))))))) (aq (fk [4] (giL (aa 0)) (.one 4) (bp 3 (ar 4 wb (gaV (aa 3) (gaV (aa 4) (gaV (aa 1) (gA1 (aa 2)))))))) (aq (yd [] (gT (gOp (ff λi j=>.bl (decide (j < i))) (gCB gc (gaE (aa 3) gaN)) (gI 1))) (bp 3 (ar 2 om (gaV (aa 3) (gA1 (gX (gLst (gaV (gS "either") (gA1 (gS "then")))) (gOp (gn (λ_ j=>0 < j) λi j=>.int (i % j)) (gOp (gn (λ_ j=>0 < j) λi j=>.int (i % j)) (gCB gc (gaE (aa 3) gaN)) (gI 3)) (gI 2)))))))) (bh (gX (gX (aa 3) (gI 0)) (gI 0))))))
def ue:GP:=λds R=>∃(cs:List Int)(a:List (Str×Nat)) (m:Nat),ds=[.lst (cs.map iT),spT a,iT m]/\cs.length<=28/\SpOk a/\Wds a/\∀s:Say,s.good a->s.nts<=m->s.size<=100->R (.val s.t)
def Kg:Pm (Kf) 5 1 3 (ue):=by
 intro ds R O h;obtain⟨cs,b,m,rfl,Q,ok,y,q⟩:=h;show{bg rfl,bg rfl,bg rfl,?_};show du (I:=λi l=>∃is:List jw,l={[KE (.v (.lst (cs.map iT))),KE (.v (spT b)),KE (.v (iT m)),KE (.v (.lst (is.map bw))),LX],[LX]}/\is≠[]/\Gd b m is/\isz is<=1+i) {[(.every,0)],rfl,by simp,{λi hi=>?_,cT _},aJ _} ?_ ?_
 ·cases aZ.mp hi;intro x o;cases aZ.mp o
  trivial
 ·rintro i c l N o ⟨is,rfl,ne,a,sz⟩ A;have hi:=b7 o;rcases jC is with rfl | ⟨n,it,rfl⟩
  ·show MI rfl ne
  ·rw[jD]at *;show{rfl,n,it,c,b,m,rfl,ok,y,a,(),λf p r u=>A _ {f,rfl,p,r,()}}
 ·rintro l ⟨is,rfl,ne,a,sz⟩;have C:=Hq is;show{λk l=>∃is:List jw,l={[KE (.v (.lst (cs.map iT))),KE (.v (spT b)),KE (.v (iT m)),KE (.v (.lst (is.map bw))),LX],[LX]}/\is≠[]/\Gd b m is/\isz is+is.length<=60/\k=is.length,{_,is,rfl,ne,a,(),rfl},?_};clear sz C a ne is;rintro k l ⟨is,rfl,ne,a,sz,rfl⟩;have D:(is.map bw).length=is.length:=aB ..;by_cases c:(1:Int) < ((is.map bw).length:Int)
  ·show ifY (MH c) ?_;show{λl=>∃f:List jw,l={[KE (.v (.lst (cs.map iT))),KE (.v (spT b)),KE (.v (iT m)),KE (.v (.lst (f.map bw))),LX],[LX]}/\f≠[]/\Gd b m f/\isz f+f.length<=60/\f.length < is.length,?_,?_}
   ·rintro l ⟨f,rfl,p,r,u,E⟩;show{_,E,f,rfl,p,r,u,rfl}
   ·show{bg rfl,by change(0:Int) < 3;decide,by change(0:Int) < 2;decide,?_};have m2:=i8 ((((is.map bw).length:Nat):Int) % 3) (m:=2) (by decide);obtain⟨g,hw,e⟩:=Vy (ns:=["either","then"]) m2.1 m2.2;show ax e ?_;have G:g="either"\/g="then":=(by simpa using hw);rcases jC is with rfl | ⟨s,it,rfl⟩
    ·show MI rfl ne
    rw[jD]at *;rcases jC s with rfl | ⟨n,i,rfl⟩
    ·simp at c
    rw[jD]at *;have H:n++[i]++[it]=n++[i,it]:=∅;have g1:i.1.good b:=a.good i ∅;have w:it.1.good b:=a.good it ∅;have T:(gq g i.1 it.1).nts=i.1.nts+it.1.nts:=(by unfold gq;split<;>rfl);have hz:(gq g i.1 it.1).size=i.1.size+it.1.size+1:=(by unfold gq;split<;>rfl);have J:(gq g i.1 it.1).good b:=(by unfold gq;split;show(w8 g1 w).1;show(w8 g1 w).2);have few:=a.few;rw[v9,v9,qj,qj]at few;rw[iy,iy,qk,qk,aH,aH,cK,cK]at sz;show{rfl,n,i,it,g,MK (λz=>[Tr.lst (z.map bw),.v (.str g)]) H,G,(),λd=>?_};show{n++[(gq g i.1 it.1,d)],rfl,by simp,Gd.app (λj L=>a.good j (by simp[L])) (Cs J) (by rw[qj];change _+(gq g i.1 it.1).nts<=m;lia),?_,?_}
    ·rw[iy,qk,aH,cK];change _+(gq g i.1 it.1).size+_<=_;lia
    ·rw[aH,aH,aH];simp
  ·show ifN (MG c) ?_;obtain⟨i,rfl⟩:∃i,is=[i]:=by
    rcases is with _ | ⟨i,_ | ⟨j,is⟩⟩
    ·show MI rfl ne
    ·show#v[i,rfl]
    ·simp at c;lia
   have few:=a.few;rw[qj]at few;rw[qk]at sz;show q i.1 (a.good i ∅) few ()
open PySem.Deep
theorem Zh:∀{xs ys:List (List Int)},xs.Nodup->(∀x∈xs,x∈ys)->xs.length<=ys.length
 | [],ys,_,_=>cT _
 |x::xs,ys,h,hs=>by
  have h':=eJ.mp h;have a:=hs x aN;have:=Zh (xs:=xs) (ys:=ys.erase x) h'.2 (λy b=>(List.mem_erase_of_ne (λ(e:y=x)=>h'.1 (by rw[<-e];show b))).mpr (hs y (aI _ b)));rw[List.length_erase_of_mem a]at this;have:=List.length_pos_of_mem a;rw[bA];lia
def more (g:List Int->List (List Int))(f:List (List Int))(l:List Int):List (List Int):=f++(g l).filter λm=>!decide (m∈f)
def uni (g:List Int->List (List Int))(a:List (List Int)):List (List Int):=a.foldl (more g) []
def ade (g:List Int->List (List Int))(a:List (List Int))(l:List Int):uni g (a++[l])=more g (uni g a) l:=by unfold uni;rw[kS];rfl
def oz:y∈more g f l↔y∈f\/y∈g l:=by
 unfold more;rw[cS,iI];by_cases h:y∈f
 ·simp[h]
 ·simp[h]
def S9 (d:f.Nodup)(h:(g l).Nodup):(more g f l).Nodup:=by
 unfold more;show List.nodup_append.mpr {d,h.filter _,λa c b i e=>?_};have:=(iI.mp i).2;rw[e]at c;simp[c]at this
structure Led (ls:List (List Int))(g:List Int->List (List Int)):Prop where
 few:ls.length<=36
 ne:∀l∈ls,l≠[]
 nd:∀l∈ls,(g l).Nodup
 sub:∀l∈ls,∀m∈g l,m∈ls
theorem Nw (h:Led ls g):∀(d:List (List Int)),(∀l∈d,l∈ls)->∀f:List (List Int),f.Nodup->(∀m∈f,m∈ls)->(d.foldl (more g) f).Nodup/\(∀m∈d.foldl (more g) f,m∈ls)/\∀y,y∈d.foldl (more g) f↔y∈f\/∃l∈d,y∈g l
 | [],_,f,n,s=>{n,s,λy=>by simp}
 |l::d,i,f,n,s=>by
  have e:=i l aN;obtain⟨a,b,c⟩:=Nw h d (λl e=>i l (aI _ e)) (more g f l) (S9 n (h.nd l e)) (λm j=>by
    rcases oz.mp j with z | z
    · show s m z
    · show h.sub l e m z)
  show{a,b,λy=>?_};rw[oE,c,oz];simp only[aU,exists_eq_or_imp];show or_assoc
inductive Rch (g:List Int->List (List Int))(a:List Int):List Int->Prop
 |refl:Rch g a a
 |step {b c:List Int}:Rch g a b->c∈g b->Rch g a c
theorem Nx:∀x y,TupSet.lexLt x y=HT.lexLt x y
 | [],[]=>by rfl
 | [],_::_=>by rfl
 |_::_,[]=>by rfl
 |a::x,b::y=>by
  rw[HT.lexLt_cons,<-Nx x y];rfl
def Zi (c:List (Str×Nat)):TupSet.SortedT (LL c):=
 List.Pairwise.imp (R:=λa b=>HT.lexLt a b=LY) (S:=TupSet.lexLe) (λ{a b} h=>(TupSet.lex_asymm (by rw[Nx];show h):TupSet.lexLt b a=LZ)) (i6 (c.map (·.2))).ord
open Classical in
def fj:m∈ak a s l↔m∈LL a/\s.W a 0 0 ((LL a).idxOf l) ((LL a).idxOf m):=by
 unfold ak;rw[iI];simp only[decide_eq_true_eq]
def Jo (a:List (Str×Nat))(s:Say)(l:List Int):(ak a s l).Nodup:=(jc _).filter _
def Kh (a:List (Str×Nat))(s:Say)(l:List Int):TupSet.SortedT (ak a s l):=(Zi a).filter _
def tu (nd:xs.Nodup)(h:∀y,y∈xs↔y∈LL a/\s.W a 0 0 ((LL a).idxOf l) ((LL a).idxOf y)):TupSet.isort xs=ak a s l:=
 (TupSet.isort_of (TupG.nodup_perm (Jo a s l) nd λy=>fj.trans (h y).symm) (Kh a s l)).symm
def adf (h:TupSet.SortedT l):TupSet.isort l=l:=(TupSet.isort_of (.refl _) h).symm
def mh (nd:xs.Nodup)(b:TupSet.SortedT xs)(h:∀y,y∈xs↔y∈LL a/\s.W a 0 0 ((LL a).idxOf l) ((LL a).idxOf y)):xs=ak a s l:=by
 rw[<-tu nd h,adf b]
def z9 (h:SpOk ws)(CL:(LL ws).length<=36)(s:Say):Led (LL ws) (ak ws s) where
 few:=CL
 ne:=λl hl e=>by
  have hw:=(i6 (ws.map (·.2))).wide l hl;rw[e,aB]at hw;have zC:0=ws.length:=hw;have:=h.lo;lia
 nd:=λl _=>Jo ws s l
 sub:=λl _ m hm=>(fj.mp hm).1
section
variable {ws:List (Str×Nat)}{l:List Int}
def jg (b:l∈LL ws):(LL ws)[(LL ws).idxOf l]?=KE l/\(LL ws).idxOf l < (LL ws).length:=by
 have a:=eW.mpr b;show{by rw[aC a,iW],a}
def Ct (e:(LL ws)[i]?=KE l):(LL ws).idxOf l=i:=by
 have a:l∈LL ws:=aR e;have b:(LL ws).idxOf l < (LL ws).length:=eW.mpr a;have c:(LL ws)[(LL ws).idxOf l]?=KE l:=(jg a).1;show(mZ b (jc _)).mp (c.trans e.symm)
def Hr (b:l∈LL ws)(c:m∈LL ws)(e:(LL ws).idxOf l=(LL ws).idxOf m):l=m:=by
 have a:=(jg b).1;rw[e,(jg c).1]at a;show(bX a).symm
def uv (l:List Int):TupSet.SortedT [l]:=mS _ _
def Fu (l:List Int):[l].Nodup:=eJ.mpr {(λz=>nomatch z),fP}
def adg:ak ws .nought l=[]:=by
 show(mh fP jJ λy=>{(λz=>nomatch z),λz=>?_}).symm;show z.2.elim
def aib (a:l∈LL ws):ak ws .every l=[l]:=by
 show(mh (Fu l) (uv l) λy=>?_).symm;rw[aZ];show{λe=>{e ▸ a,by rw[e];rfl},λz=>Hr z.1 a z.2}
def adh:TupG.srtG (ak ws a l++ak ws b l)=ak ws (.either a b) l:=by
 show tu (TupG.nodup_dd _) λy=>?_;rw[TupG.mem_dd,cS,fj,fj];have e:(Say.either a b).W ws 0 0=orR (LL ws).length (a.W ws 0 0) (b.W ws 0 0):=by
  change oj (LL ws).length (a.rm+1) (a.W ws) (b.W ws) 0 0=_;unfold oj;rw[ME (),ME #v[rfl,rfl]]
 rw[e];unfold orR;show⟨λz=>by rcases z with z | z;show{z.1,.inl z.2};show{z.1,.inr z.2},λz=>by rcases z.2 with y | y;show .inl #v[z.1,y];show .inr #v[z.1,y]⟩
def aly {a b:Say}(h:SpOk ws)(i:(LL ws).length<=36):TupSet.isort (uni (ak ws b) (ak ws a l))=ak ws (.both a b) l:=by
 obtain⟨nd,s,j⟩:=Nw (z9 h i b) (ak ws a l) (λm c=>(fj.mp c).1) [] fP (λm c=>nomatch c);show tu nd λy=>?_;have e:(Say.both a b).W ws 0 0=p9 (LL ws).length (a.W ws 0 0) (b.W ws 0 0):=by
  change uk (LL ws).length (a.rm+1) (a.W ws) (b.W ws) 0 0=_;unfold uk;rw[ME (),ME rfl]
 rw[e];show(j y).trans {λz=>?_,λz=>?_}
 ·rcases z with z | ⟨m,c,n⟩
  ·show nomatch z
  ·obtain⟨o,m2⟩:=fj.mp c;obtain⟨d,p⟩:=fj.mp n;show{d,_,(jg o).2,m2,p}
 ·obtain⟨d,k,hk,q,r⟩:=z;have f:(LL ws)[k]?=KE (LL ws)[k]:=aC hk;have g:=Ct f;have mk:(LL ws)[k]∈LL ws:=aR f;show .inr {(LL ws)[k],fj.mpr {mk,by rw[g];show q},fj.mpr {d,by rw[g];show r}}
def g_no (b:l∈LL ws):([l].drop (ak ws a l).length).take 1=ak ws (.no a) l:=by
 have e:(Say.no a).W ws 0 0=Mz (LL ws).length (a.W ws 0 0):=rfl;cases c:ak ws a l with
 |nil=>
  show mh (Fu l) (uv l) λy=>?_;change y∈[l]↔_;rw[aZ,e];show{λz=>{z ▸ b,by rw[z],λk hk hR=>?_},λz=>Hr z.1 b z.2.1};have d:(LL ws)[k]?=KE (LL ws)[k]:=aC hk;have:(LL ws)[k]∈ak ws a l:=fj.mpr {aR d,by rw[Ct d];show hR};rw[c]at this;show nomatch this
 |cons m r=>
  have e0:([l].drop (m::r).length).take 1=[]:=∅;rw[e0];show mh fP jJ λy=>?_;show{(λz=>nomatch z),λz=>?_};rw[e]at z;have f:m∈ak ws a l:=(by rw[c];show aN);obtain⟨g,m2⟩:=fj.mp f;show MI m2 (z.2.2 _ (jg g).2)
def Zj (a:Star n R i j)(h:R j k)(hk:k < n):Star n R i k:=a.trans (.step h hk .refl)
def adi (c:l∈LL ws)(h:Rch (ak ws a) l y):y∈LL ws/\Star (LL ws).length (a.W ws 0 0) ((LL ws).idxOf l) ((LL ws).idxOf y):=by
 induction h with
 |refl=>show{c,.refl}
 |step f d e=>
  obtain⟨b,m2⟩:=fj.mp d;show{b,Zj e.2 m2 (jg b).2}
def Zk (h:Rch g a b)(k:Rch g b c):Rch g a c:=by
 induction k with
 |refl=>show h
 |step _ d e=>show .step e d
def adj (h:Star (LL ws).length (a.W ws 0 0) i j):∀{l y},(LL ws)[i]?=KE l->(LL ws)[j]?=KE y->Rch (ak ws a) l y:=by
 induction h with
 |refl=>
  intro l y c b;rw[c]at b;cases b;show .refl
 |step e hk _ f=>
  intro l y c b;have d:=aC hk;show Zk (.step .refl (fj.mpr {aR d,?_})) (f d b);rw[Ct c,Ct d];show e
def aic (b:l∈LL ws)(nd:F.Nodup)(h:∀y,y∈F↔Rch (ak ws a) l y):TupSet.isort F=ak ws (.again a) l:=by
 have e:(Say.again a).W ws 0 0=Star (LL ws).length (a.W ws 0 0):=by
  change yj (LL ws).length (a.W ws) 0 0=_;unfold yj;rw[ME rfl,ME rfl]
 show tu nd λy=>(h y).trans ?_;rw[e];show{λz=>adi b z,λz=>adj z.2 (jg b).1 (jg z.1).1}
def g_is (hk:look ws f=KE (p,c))(a:l∈LL ws)(b:l[p]?=KE v):ak ws (.is f v) l=[l]:=by
 show(mh (Fu l) (uv l) λy=>?_).symm;have e:(Say.is f v).W ws 0 0=isR (LL ws) p v:=by
  change(match look ws f with | some (p,_)=>isR (LL ws) p v | none=>λ_ _=>False)=_
  rw[hk]
 rw[aZ,e];show{λz=>{z ▸ a,by rw[z],l,(jg a).1,b},λz=>Hr z.1 a z.2.1}
def alz (hk:look ws f=KE (p,c))(b:l∈LL ws)(d:l[p]?≠KE v):ak ws (.is f v) l=[]:=by
 show(mh fP jJ λy=>{(λz=>nomatch z),λz=>?_}).symm;have e:(Say.is f v).W ws 0 0=isR (LL ws) p v:=by
  change(match look ws f with | some (p,_)=>isR (LL ws) p v | none=>λ_ _=>False)=_
  rw[hk]
 rw[e]at z;obtain⟨_,_,m,a,g⟩:=z;rw[(jg b).1]at a;cases a;show MI g d
def g_put (hk:look ws f=KE (p,c))(a:l∈LL ws)(b:l.set p v∈LL ws):ak ws (.put f v) l=[l.set p v]:=by
 show(mh (Fu _) (uv _) λy=>?_).symm;have e:(Say.put f v).W ws 0 0=Vf (LL ws) p v:=by
  change(match look ws f with | some (p,_)=>Vf (LL ws) p v | none=>λ_ _=>False)=_
  rw[hk]
 rw[aZ,e];show{λz=>{z ▸ b,l,(jg a).1,by rw[z];show(jg b).1},λz=>?_};obtain⟨h,m,d,g⟩:=z;rw[(jg a).1]at d;cases d;rw[(jg h).1]at g;show bX g
end
def aid (cs:List Nat):mul cs=prd cs:=by
 have h:∀cs k,cs.foldl (· * ·) k=k * prd cs:=λcs=>by
  induction cs with
  |nil=>intro k;change k=k * 1;lia
  |cons c cs a=>intro k;rw[oE,a,sI];rfl
 have:=h cs 1;rw[Nat.one_mul]at this;show this
def ama (a:List (Str×Nat)):(LL a).length=prd (a.map (·.2)):=by rw[yi,aid]
def kL (l:List Int):List I2:=l.map Sum.inl
def Ny (h:kL l=kL m):l=m:=(iY λa b z=>Sum.inl.inj z).mp h
def jh (l:List Int):(l.map λn=>Tr.v (.int n))=(kL l).map itT:=by unfold kL;rw[dO];rfl
abbrev gm (ls:List (List Int))(g:List Int->List (List Int)):Tr:=.dct (ls.map kL) (ls.map λl=>ltT (g l))
def fnd {ls:List (List Int)}{g:List Int->List (List Int)}{l:List Int}(c:l∈ls):iq (ls.map kL) (ls.map λl=>ltT (g l)) (kL l)=KE (ltT (g l)):=Bm kL (λl=>ltT (g l)) (λa b z=>Ny z) l ls c
def Ta {l:List Int}{f:List (List Int)}:∀e∈f.map tI,gr 39 e (tI l)=LY:=λe a=>by
 obtain⟨m,_,rfl⟩:=dG.mp a;show zw _ _ _
def Zl {l:List Int}{f:List (List Int)}:tI l∈f.map tI↔l∈f:=⟨λh=>by
  obtain⟨m,a,e⟩:=dG.mp h;rw[<-Y9 e];show a,λh=>oW h⟩
def Nz:GS:=(aq (bp 2 (gLst gaN)) (aq (fk [3] (giL (aa 1)) (.one 3) (bp 2 (gOp bz (aa 2) (c8 1 [2] (giL (gOp ixD (aa 0) (aa 3))) (.one 0) (gT (gOp (inD LY) (aa 0) (aa 1))) (aa 0))))) (bh (Bf TupSet.isort (aa 2)))))
def wg:GP:=λds R=>∃ls a g,ds=[gm ls g,ltT a]/\Led ls g/\(∀l∈a,l∈ls)/\a.length<=36/\R (.new (ltT (TupSet.isort (uni g a))))
def Bt {ls f:List (List Int)}(h:ls.length<=36)(nd:f.Nodup)(s:∀m∈f,m∈ls):f.length<=36:=bL (Zh nd s) h
def N0:Pm (Nz) 4 1 2 (wg):=by
 intro ds R b h;obtain⟨ls,a,g,rfl,led,j,E,q⟩:=h;have e:=λi=>Nw led (a.take i) (λl b=>j l (oM b)) [] fP (λm d=>nomatch d);show{bg rfl,?_};show tf (I:=λi=>{[KE (.v (gm ls g)),KE (.v (ltT a)),KE (.v (ltT (uni g (a.take i)))),LX],[LX]}) rfl (λi l N b n=>?_) ?_
 ·have d:=j l (aR b);have o:=Bt led.few (e i).1 (e i).2.1;have r:=Bt led.few (led.nd l d) (led.sub l d);have s:uni g (a.take (i+1))=more g (uni g (a.take i)) l:=by
   rw[cU,b];show ade g _ l
  rw[s]at n;have w:(uni g (a.take i)).length<=36:=o;generalize uni g (a.take i)=f at *;show{kL l,jh l,ax (fnd d) ?_};show jj (p:=λm=>!decide (m∈f)) (out:=tI) rfl _ _ (by change 0+_<=_;lia) (λm G Y Z y A=>?_) ?_
  ·show{Ta,λc C=>?_};cases yn C Zl;by_cases c:m∈f
   ·show ifN (show(!decide (m∈f))=LZ by simp[c]) ?_;show A (by simp[c])
   ·show ifY (show(!decide (m∈f))=LY by simp[c]) ?_;show y (by simp[c])
  ·rw[bH];have H:((g l).filter λm=>!decide (m∈f)).length<=36:=bL (nV _ _) r;show{by change(f.map tI).length+(((g l).filter λm=>!decide (m∈f)).map tI).length<=1000000;rw[aB,aB];lia,?_};show cast (MK (λz=>N ({[KE (.v (gm ls g)),KE (.v (ltT a)),KE (.v (.lst z)),LX],[LX]}:M)) ?_) n;unfold more;rw[bE]
 ·rw[cW];have u:=e a.length;rw[cW]at u;have J:(uni g a).length<=36:=Bt led.few u.1 u.2.1;show{uni g a,rfl,(),λx D=>led.ne x (u.2.1 x D),q}
def Vz:GS:=(aq (bp 2 (gLst (gA1 (aa 1)))) (aq (bp 3 (gI 0)) (aq (yd [] (gT (gOp (ff λi j=>.bl (decide (i < j))) (aa 3) (gCB gc (gaE (aa 2) gaN)))) (aq (bp 2 (gOp bz (aa 2) (c8 1 [2] (giL (gOp ixD (aa 0) (gOp ixD (aa 2) (aa 3)))) (.one 0) (gT (gOp (inD LY) (aa 0) (aa 1))) (aa 0)))) (bp 3 (gOp bz (aa 3) (gI 1))))) (bh (Bf TupSet.isort (aa 2))))))
def Aa:GP:=λds R=>∃ls l g,ds=[gm ls g,tI l]/\Led ls g/\l∈ls/\∀F:List (List Int),F.Nodup->(∀y,y∈F↔Rch g l y)->R (.new (ltT (TupSet.isort F)))
def V0:Pm (Vz) 4 1 2 (Aa):=by
 intro ds R U h;obtain⟨ls,l,g,rfl,led,u,q⟩:=h;show{bg rfl,?_};show{λk m=>∃(fs:List (List Int))(a:Nat),m={[KE (.v (gm ls g)),KE (.v (tI l)),KE (.v (ltT fs)),KE (.v (iT a))],[LX]}/\fs.Nodup/\(∀y∈fs,y∈ls)/\l∈fs/\(∀y∈fs,Rch g l y)/\(∀i y,i < a->fs[i]?=KE y->∀z∈g y,z∈fs)/\a<=fs.length/\k=37 - a,{_,[l],0,rfl,eJ.mpr {(λz=>nomatch z),fP},(λy j=>by rw[aZ.mp j];show u),List.mem_singleton.mpr rfl,(λy j=>by rw[aZ.mp j];show .refl),(λi y hi=>MI hi (iJ _)),cT _,rfl},?_};intro k m n;obtain⟨fs,a,rfl,fn,e,lf,fr,fc,al,rfl⟩:=n;have JK:=Bt led.few fn e;have fl:(fs.map tI).length=fs.length:=aB ..;by_cases c:(a:Int) < ((fs.map tI).length:Int)
 ·show ifY (MH c) ?_;have A:a < fs.length:=();obtain⟨y,f⟩:∃y,fs[a]?=KE y:={_,aC A};have d:y∈ls:=e y (aR f);have C:=Bt led.few (led.nd y d) (led.sub y d);show{λm=>∃b:List (List Int),m={[KE (.v (gm ls g)),KE (.v (tI l)),KE (.v (ltT b)),KE (.v (iT ((a:Int)+1)))],[LX]}/\b.Nodup/\(∀y∈b,y∈ls)/\l∈b/\(∀y∈b,Rch g l y)/\(∀i y,i < a+1->b[i]?=KE y->∀z∈g y,z∈b)/\a+1<=b.length,?_,?_}
  ·intro m n;obtain⟨b,rfl,D,E,G,H,h5,I⟩:=n;show{37 - (a+1),(),b,a+1,rfl,D,E,G,H,h5,I,rfl}
  ·show ax (x:=tI y) (bj (by rw[aL,f];rfl)) ?_;show{kL y,jh y,ax (fnd d) ?_};show jj (p:=λm=>!decide (m∈fs)) (out:=tI) rfl _ _ (by change 0+_<=_;lia) (λm BN Y Z J L=>?_) ?_
   ·show{Ta,λc o=>?_};cases yn o Zl;by_cases c:m∈fs
    ·show ifN (show(!decide (m∈fs))=LZ by simp[c]) ?_;show L (by simp[c])
    ·show ifY (show(!decide (m∈fs))=LY by simp[c]) ?_;show J (by simp[c])
   ·rw[bH];have gl:((g y).filter λm=>!decide (m∈fs)).length<=36:=bL (nV _ _) C;show{by change(fs.map tI).length+(((g y).filter λm=>!decide (m∈fs)).map tI).length<=1000000;rw[aB,aB];lia,?_};have N:fs.map tI++((g y).filter λm=>!decide (m∈fs)).map tI=(more g fs y).map tI:=(by unfold more;rw[bE]);show{more g fs y,MK (λz=>({[KE (.v (gm ls g)),KE (.v (tI l)),KE (.v (.lst z)),KE (.v (iT ((a:Int)+1)))],[LX]}:M)) N,S9 fn (led.nd y d),λz hz=>?_,oz.mpr (.inl lf),λz hz=>?_,λi z hi r w hw=>?_,?_}
    ·rcases oz.mp hz with h | h
     ·show e z h
     ·show led.sub y d z h
    ·rcases oz.mp hz with h | h
     ·show fr z h
     ·show .step (fr y (aR f)) h
    ·have s:fs[i]?=KE z:=by
      have O:i < fs.length:=();unfold more at r;rw[bT O]at r;show r
     by_cases c:i=a
     ·subst c;rw[f]at s;cases s;show oz.mpr (.inr hw)
     ·show oz.mpr (.inl (fc i z () s w hw))
    ·unfold more;rw[aH];lia
 ·show ifN (MG c) ?_;have ea:a=fs.length:=();show{fs,rfl,(),λx Q=>led.ne x (e x Q),q fs fn λy=>{fr y,λh=>?_}}
  induction h with
  |refl=>show lf
  |step _ o T=>
   obtain⟨i,hi⟩:=kX.mp T;show fc i _ (by have:=b7 hi;lia) hi _ o
def N1 (g__law_step:GP):GS:=(bh (aa 4))
def Bu (g__law_step:GP):GS:=aq (fk [6] (giL (aa 1)) (.one 6) (sIf (gT (gOp (eqG LZ) (aa 3) (gS "all"))) (qw 4 (gLst (gA1 (aa 6))) (aa 6)) (sIf (gT (gOp (eqG LZ) (aa 3) (gS "not"))) (qw 4 (gSl (gSl (gLst (gA1 (aa 6))) (goS (gCB gc (gaE (gOp ixD (gOp ixD (aa 7) (gI 0)) (aa 6)) gaN))) goN) goN (goS (gI 1))) (aa 6)) (sIf (gT (gOp (eqG LZ) (aa 3) (gS "either"))) (qw 4 (Bf TupG.srtG (gOp bz (gOp ixD (gOp ixD (aa 7) (gI 0)) (aa 6)) (gOp ixD (gOp ixD (aa 7) (gI 1)) (aa 6)))) (aa 6)) (sIf (gT (gOp (eqG LZ) (aa 3) (gS "then"))) (qw 4 (ar 2 wg (gaV (gOp ixD (aa 7) (gI 1)) (gA1 (gOp ixD (gOp ixD (aa 7) (gI 0)) (aa 6))))) (aa 6)) (sIf (gT (gOp (eqG LZ) (aa 3) (gS "again"))) (qw 4 (ar 2 Aa (gaV (gOp ixD (aa 7) (gI 0)) (gA1 (aa 6)))) (aa 6)) (qw 4 (gLst gaN) (aa 6)))))))) (N1 g__law_step)
def N2 (g__law_step:GP):GS:=aq (bp 7 (c8 1 [1,0] (giT (gSl (aa 2) (goS (gI 1)) goN)) (.one 0) cu (ar 3 g__law_step (gaV (aa 2) (gaV (aa 1) (gA1 (aa 0))))))) (Bu g__law_step)
def Bv (g__law_step:GP):GS:=aq (sIf (gOr (gT (gOp (eqG LZ) (aa 3) (gS "is"))) (gT (gOp (eqG LZ) (aa 3) (gS "put")))) (aq (bp 5 (gMt "list" Bh (c8 2 [] (giT (aa 0)) (.tup [0,1]) cu (aa 0)) (gaE (gOp ixD (aa 2) (gI 1)) gaN))) (aq (fk [6] (giL (aa 1)) (.one 6) (aq (qw 4 (gLst (gA1 (gOp bz (gOp bz (gSl (aa 6) goN (goS (aa 5))) (gTup (gA1 (gOp ixD (aa 2) (gI 2))))) (gSl (aa 6) (goS (gOp bz (aa 5) (gI 1))) goN)))) (aa 6)) (sIf (xh (gT (gOp (eqG LZ) (aa 3) (gS "is"))) (gT (gOp (eqG LY) (gOp ixD (aa 6) (aa 5)) (gOp ixD (aa 2) (gI 2))))) (qw 4 (gLst gaN) (aa 6)) dz))) (bh (aa 4)))) dz) (N2 g__law_step)
def N3 (g__law_step:GP):GS:=aq (jm 4 0 aes) (Bv g__law_step)
def P7 (g__law_step:GP):GS:=aq (bp 3 (gOp ixD (aa 2) (gI 0))) (N3 g__law_step)
def Ab (n:Nat):GP:=λds R=>∃a s,ds=[spT a,ltT (LL a),s.t]/\SpOk a/\(LL a).length<=24/\s.good a/\s.nts=0/\s.size<=n/\R (.new (gm (LL a) (ak a s)))
def tP (k:Fin 9):decide (V.str (gp k)=V.str "put")=decide (k=4):=(⋯:∀k:Fin 9,decide (V.str (gp k)=V.str "put")=decide (k=4)) k
def N4 (h:l ∉ dn):ir (dn.map kL) (kL l)=(dn++[l]).map kL/\je (dn.map kL) vs (kL l) d=vs++[d]:=by
 have n:¬kL l∈dn.map kL:=λz=>by
  obtain⟨m,a,e⟩:=dG.mp z;show h (Ny e ▸ a)
 unfold ir je;rw[MF n,MF n,bE];show#v[rfl,rfl]
def aie (h:l ∉ dn)(e:vs.length=dn.length):ir ((dn++[l]).map kL) (kL l)=(dn++[l]).map kL/\je ((dn++[l]).map kL) (vs++[d0]) (kL l) d=vs++[d]:=by
 have y:kL l∈(dn++[l]).map kL:=oW ∅;unfold ir je;rw[ME y,ME y];show{rfl,?_};rw[bE,List.zipWith_append (by rw[aB,e])];have:qR (λb d'=>if b=kL l then d else d') (dn.map kL) vs=vs:=by
  show eZ λi=>?_;rw[nU,aL];by_cases c:i < vs.length
  ·have a:i < dn.length:=();rw[aC c,aC a];change KE (if kL dn[i]=kL l then d else vs[i])=KE vs[i]
   rw[MF λz=>h (by rw[<-Ny z];show jS a)]
  ·rw[bU (l:=vs) (),bU (l:=dn) ()];rfl
 rw[this];simp
def Ej {ls:List (List Int)}(nd:ls.Nodup)(e:ls[i]?=KE l):l ∉ ls.take i:=λz=>by
 obtain⟨j,a⟩:=kX.mp z;have b:=b7 a;rw[bN]at b;rw[lY ()]at a;have:=(mZ () nd).mp (a.trans e.symm);lia
theorem N5:∀{a i p c},wz f a i=KE (p,c)->∃k,p=i+k/\(a.map (·.1)).idxOf f=k/\f∈a.map (·.1)/\k < a.length
 | [],_,_,_,h=>by cases h
 | (g,l)::a,i,p,c,h=>by
  unfold wz at h;by_cases e:g=f
  ·rw[ME e]at h;cases h;show{0,rfl,?_,?_,Nat.succ_pos _}
   ·rw[bB,e,List.idxOf_cons_self]
   ·rw[bB,e];show aN
  ·rw[MF e]at h;obtain⟨k,m,b,d,j⟩:=N5 h;show{k+1,(),?_,?_,nP j}
   ·rw[bB,List.idxOf_cons,show(g == f)=LZ from beq_eq_false_iff_ne.mpr e];change(a.map (·.1)).idxOf f+1=k+1;rw[b]
   ·rw[bB];show aI _ d
def Say.good_kid {d:List (Str×Nat)}{s k:Say}(h:s.good d)(hk:k∈s.kids):k.good d/\k.nts<=s.nts/\k.size < s.size:=by
 cases s with
 |no a=>cases aZ.mp hk;show{λx c=>h x (aI _ c),aJ _,fJ _}
 |again a=>cases aZ.mp hk;show{λx c=>h x (aI _ c),aJ _,fJ _}
 |either a b=>
  rcases aU.mp hk with rfl | hk
  ·show{λx c=>h x (aI _ (dS _ c)),nN _ _,by simp only[Say.size];lia}
  ·cases aZ.mp hk;show{λx c=>h x (aI _ (bQ _ c)),Nat.le_add_left _ _,by simp only[Say.size];lia}
 |both a b=>
  rcases aU.mp hk with rfl | hk
  ·show{λx c=>h x (aI _ (dS _ c)),nN _ _,by simp only[Say.size];lia}
  ·cases aZ.mp hk;show{λx c=>h x (aI _ (bQ _ c)),Nat.le_add_left _ _,by simp only[Say.size];lia}
 |_=>cases hk
def aif (y:a)(n:Nat):au (au [y] (KE (n:Int)) LX) LX (KE 1)=([y].drop n).take 1:=by
 rcases n with _ | n
 ·rfl
 ·have:au [y] (KE ((n+1:Nat):Int)) LX=[]:=by
   unfold au;rw[HT.sIx_nat];have:min (n+1) [y].length=1:=∅;rw[this];rfl
  rw[this];simp[au]
abbrev stM (ws:List (Str×Nat))(t:Tr)(x:Str)(inner:Option Wt)(d:Tr):M:={[KE (.v (spT ws)),KE (.v (ltT (LL ws))),KE (.v t),KE (.v (.v (.str x))),KE (.c 1),LX,LX,inner],[LX,KE d]}
def Zm {n:Nat}{c:List (Str×Nat)}{s:Say}{R:Ev->Prop}(ok:SpOk c)(z:(LL c).length<=24)(t:Tr)(u:s.isF=LZ)(A:s.tag≠2)(q:R (.new (gm (LL c) (ak c s)))) :
  Bu (Ab n) { nx:=λm=>R (.val (.v .non)),rt:=vt R } (stM c t s.sort (KE (.v (.lst (s.kids.map λk=>gm (LL c) (ak c k))))) (.dct [] [])):=by
 have nd:=jc (c.map (·.2));have p:(LL c).length<=36:=();show tf (I:=λi=>stM c t s.sort (KE (.v (.lst (s.kids.map λk=>gm (LL c) (ak c k))))) (gm ((LL c).take i) (ak c s))) rfl (λi l N hi y=>?_) ?_
 ·have g:l∈LL c:=aR hi;have C:=Ej nd hi;have D:(LL c).take (i+1)=(LL c).take i++[l]:=(by rw[cU,hi];rfl);have j:(((LL c).take i).map kL).length < 1000000:=(by rw[aB,bN];lia);have o:∀v,v=ltT (ak c s l)->N (stM c t s.sort (KE (.v (.lst (s.kids.map λk=>gm (LL c) (ak c k))))) (.dct (ir (((LL c).take i).map kL) (kL l)) (je (((LL c).take i).map kL) (((LL c).take i).map λl=>ltT (ak c s l)) (kL l) v))):=by
   intro _ E;subst E;obtain⟨G,H⟩:=N4 (vs:=((LL c).take i).map λl=>ltT (ak c s l)) (d:=ltT (ak c s l)) C;rw[G,H];rw[D]at y;have J:(((LL c).take i++[l]).map λl=>ltT (ak c s l))=((LL c).take i).map (λl=>ltT (ak c s l))++[ltT (ak c s l)]:=(by rw[bE];rfl);rw[<-J];show y
  have r:∀k,(ak c k l).length<=24:=λk=>bL (Hm c k l) z;cases s with
  |every=>
   exists tL,rfl;show{bg rfl,kL l,jh l,j,o _ (by rw[aib g];rfl)}
  |nought=>
   exists tL;exists tN;exists tE;exists tB;exists tA;show{bg rfl,kL l,jh l,j,o _ (by rw[adg];rfl)}
  |no a=>
   exists tL;exists tN,rfl;show{bg rfl,?_};show{kL l,jh l,ax (fnd g) ?_};show{kL l,jh l,j,o _ ?_};change Tr.lst (au (au [tI l] (KE (((ak c a l).map tI).length:Int)) LX) LX (KE 1))=_;rw[<-g_no g,aB,aif];change _=Tr.lst ((([l].drop (ak c a l).length).take 1).map tI);rw[nJ,lH];rfl
  |again a=>
   exists tL;exists tN;exists tE;exists tB;exists tA,rfl;show{rfl,LL c,l,ak c a,rfl,z9 ok p a,g,λF fn L=>{kL l,jh l,j,o _ (by rw[aic g fn L])}}
  |either a b=>
   exists tL;exists tN;exists tE,rfl;show{kL l,jh l,ax (fnd g) ?_};show{kL l,jh l,ax (fnd g) ?_};have U:=r a;have Y:=r b;show{by change((ak c a l).map tI).length+((ak c b l).map tI).length<=1000000;rw[aB,aB];lia,?_};show{ak c a l++ak c b l,by rw[bE],by rw[aH];lia,λx O e=>?_,kL l,jh l,j,o _ (by rw[adh])};have Q:x∈LL c:=by
    rcases cS.mp O with h | h
    ·show rq h
    ·show rq h
   have w:=jv Q;rw[e]at w;have:=ok.lo;simp at w;lia
  |both a b=>
   exists tL;exists tN;exists tE;exists tB,rfl;show{kL l,jh l,ax (fnd g) ?_};show{rfl,LL c,ak c a l,ak c b,rfl,z9 ok p b,λm T=>rq T,bL (r a) (by decide),kL l,jh l,j,o _ (by rw[aly ok p])}
  |note=>show MI rfl A
  |is f v=>cases u
  |put f v=>cases u
 ·rw[cW];show q
def adk {n:Nat}{a:List (Str×Nat)}{s:Say}{f:Str}{v:Int}{R:Ev->Prop}(ok:SpOk a)(T:(LL a).length<=24)(hs:s=.is f v\/s=.put f v)(U:s.own a)(q:R (.new (gm (LL a) (ak a s)))) :
  Bv (Ab n) { nx:=λm=>R (.val (.v .non)),rt:=vt R } (stM a (.tup [.v (.str s.sort),.v (.str f),iT v]) s.sort LX (.dct [] [])):=by
 obtain⟨p,c,lk,v0,v1⟩:∃p c,look a f=KE (p,c)/\0<=v/\v < (c:Int):=(by rcases hs with rfl | rfl<;>show U);have nd:=jc (a.map (·.2));have h3:=ok.hi;obtain⟨k,e0,e1,L,e3⟩:=N5 lk;rw[fH]at e0;subst e0;subst e1;have D:=Nb ok lk v0 v1;have O:(a.map λw:Str×Nat=>Tr.v (.str w.1))=(a.map (·.1)).map λn=>Tr.v (.str n):=(by rw[dO];rfl);have wl:a.length<=1000000:=();have key:∀(l:List Int)(i:Nat),(LL a)[i]?=KE l->∃x,l[(a.map (·.1)).idxOf f]?=KE x/\(a.map (·.1)).idxOf f < l.length/\l.length<=10/\l.set ((a.map (·.1)).idxOf f) v∈LL a:=λl i hi=>by
  obtain⟨z1,Q,z3⟩:=D.2.2 l (aR hi);show{_,aC Q,Q,z1,z3}
 rcases hs with rfl | rfl
 ·exists tI',rfl;show ifY (c:=LY) rfl ?_;show cw (out:=λw:Str×Nat=>Tr.v (.str w.1)) rfl _ _ (by change 0+_<=_;lia) (λw hw Y E=>E) ?_;rw[bH,O];show{rfl,a.map (·.1),rfl,L,?_};show tf (I:=λi=>{[KE (.v (spT a)),KE (.v (ltT (LL a))),KE (.v (.tup [.v (.str (Say.is f v).sort),.v (.str f),iT v])),KE (.v (.v (.str (Say.is f v).sort))),KE (.c 1),KE (.v (iT ((a.map (·.1)).idxOf f:Nat))),LX,LX],[LX,KE (gm ((LL a).take i) (ak a (.is f v)))]}) rfl (λi l N hi b=>?_) ?_
  ·have r:=aR hi;obtain⟨x,ex,e,DD,lset⟩:=key l i hi;have u:=Ej nd hi;have G:(LL a).take (i+1)=(LL a).take i++[l]:=(by rw[cU,hi];rfl);have H:(((LL a).take i).map kL).length < 1000000:=(by rw[aB,bN];lia);have J:(l.map λn=>Tr.v (.int n)).length=l.length:=aB ..;have cl:=u6 (l.map λn=>Tr.v (.int n)) _ (by rw[J];show e);have y:Tr.lst [Tr.tup ((au (l.map λn=>Tr.v (.int n)) LX (KE (((a.map (·.1)).idxOf f:Nat):Int))++[iT v])++au (l.map λn=>Tr.v (.int n)) (KE ((((a.map (·.1)).idxOf f:Nat):Int)+1)) LX)]=ltT [l.set ((a.map (·.1)).idxOf f) v]:=(by rw[Ec e];rfl);obtain⟨g,o⟩:=N4 (vs:=((LL a).take i).map λl=>ltT (ak a (.is f v) l)) (d:=ltT [l.set ((a.map (·.1)).idxOf f) v]) u;have A:((((LL a).take i++[l]).map λl=>ltT (ak a (.is f v) l))=((LL a).take i).map (λl=>ltT (ak a (.is f v) l))++[ltT (ak a (.is f v) l)]):=(by rw[bE];rfl);rw[G]at b;show{bg rfl,?_};show{by change(au (l.map λn=>Tr.v (.int n)) LX (KE (((a.map (·.1)).idxOf f:Nat):Int))).length+1<=1000000;lia,?_};show{by change(au (l.map λn=>Tr.v (.int n)) LX (KE (((a.map (·.1)).idxOf f:Nat):Int))++[iT v]).length+(au (l.map λn=>Tr.v (.int n)) (KE ((((a.map (·.1)).idxOf f:Nat):Int)+1)) LX).length<=1000000;rw[aH];change _+1+_<=_;lia,?_};show{bg rfl,?_};show{kL l,jh l,H,?_};exists tI',rfl;show ax (x:=iT x) (bj (by rw[aL,ex];rfl)) ?_;show{rfl,?_};by_cases c:x=v
   ·show ifN (show(!decide (V.int x=V.int v))=LZ by simp[c]) ?_;show jx ?_;change N ({[KE (.v (spT a)),KE (.v (ltT (LL a))),KE (.v (.tup [.v (.str (Say.is f v).sort),.v (.str f),iT v])),KE (.v (.v (.str (Say.is f v).sort))),KE (.c 1),KE (.v (iT ((a.map (·.1)).idxOf f:Nat))),LX,LX],[LX,KE (.dct (ir (((LL a).take i).map kL) (kL l)) (je (((LL a).take i).map kL) (((LL a).take i).map λl=>ltT (ak a (.is f v) l)) (kL l) (Tr.lst [Tr.tup ((au (l.map λn=>Tr.v (.int n)) LX (KE (((a.map (·.1)).idxOf f:Nat):Int))++[iT v])++au (l.map λn=>Tr.v (.int n)) (KE ((((a.map (·.1)).idxOf f:Nat):Int)+1)) LX)])))]}:M);have es:l.set ((a.map (·.1)).idxOf f) v=l:=by
     rw[<-c];show eZ λj=>?_;rw[List.getElem?_set]
     split
     ·rename_i h;subst h;show ex.symm
     ·rfl
    have C:ltT [l.set ((a.map (·.1)).idxOf f) v]=ltT (ak a (.is f v) l):=(by rw[es,g_is lk r (by rw[ex,c])]);rw[C]at o;rw[y,C,g,o,<-A];show b
   ·show ifY (show(!decide (V.int x=V.int v))=LY by simp[c]) ?_;show{bg rfl,?_};obtain⟨e7,e8⟩:=aie (vs:=((LL a).take i).map λl=>ltT (ak a (.is f v) l)) (d0:=ltT [l.set ((a.map (·.1)).idxOf f) v]) (d:=ltT []) u (aB ..);show{kL l,jh l,?_,?_}
    ·change(ir (((LL a).take i).map kL) (kL l)).length < 1000000;rw[g,aB,aH,bN];change _+1 < _;have FF:(di (a.map (·.2))).length<=24:=T;lia
    change N ({[KE (.v (spT a)),KE (.v (ltT (LL a))),KE (.v (.tup [.v (.str (Say.is f v).sort),.v (.str f),iT v])),KE (.v (.v (.str (Say.is f v).sort))),KE (.c 1),KE (.v (iT ((a.map (·.1)).idxOf f:Nat))),LX,LX],[LX,KE (.dct (ir (ir (((LL a).take i).map kL) (kL l)) (kL l)) (je (ir (((LL a).take i).map kL) (kL l)) (je (((LL a).take i).map kL) (((LL a).take i).map λl=>ltT (ak a (.is f v) l)) (kL l) (Tr.lst [Tr.tup ((au (l.map λn=>Tr.v (.int n)) LX (KE (((a.map (·.1)).idxOf f:Nat):Int))++[iT v])++au (l.map λn=>Tr.v (.int n)) (KE ((((a.map (·.1)).idxOf f:Nat):Int)+1)) LX)])) (kL l) (ltT [])))]}:M);have C:ltT []=ltT (ak a (.is f v) l):=(by rw[alz lk r (by rw[ex];show λz=>c (bX z))]);rw[y,g,o,e7,e8,C,<-A];show b
  ·rw[cW];show q
 ·exists tI';exists tP,rfl;show cw (out:=λw:Str×Nat=>Tr.v (.str w.1)) rfl _ _ (by change 0+_<=_;lia) (λw hw Y E=>E) ?_;rw[bH,O];show{rfl,a.map (·.1),rfl,L,?_};show tf (I:=λi=>{[KE (.v (spT a)),KE (.v (ltT (LL a))),KE (.v (.tup [.v (.str (Say.put f v).sort),.v (.str f),iT v])),KE (.v (.v (.str (Say.put f v).sort))),KE (.c 1),KE (.v (iT ((a.map (·.1)).idxOf f:Nat))),LX,LX],[LX,KE (gm ((LL a).take i) (ak a (.put f v)))]}) rfl (λi l N hi b=>?_) ?_
  ·have r:=aR hi;obtain⟨x,ex,e,DD,lset⟩:=key l i hi;have u:=Ej nd hi;have G:(LL a).take (i+1)=(LL a).take i++[l]:=(by rw[cU,hi];rfl);have H:(((LL a).take i).map kL).length < 1000000:=(by rw[aB,bN];lia);have J:(l.map λn=>Tr.v (.int n)).length=l.length:=aB ..;have cl:=u6 (l.map λn=>Tr.v (.int n)) _ (by rw[J];show e);have y:Tr.lst [Tr.tup ((au (l.map λn=>Tr.v (.int n)) LX (KE (((a.map (·.1)).idxOf f:Nat):Int))++[iT v])++au (l.map λn=>Tr.v (.int n)) (KE ((((a.map (·.1)).idxOf f:Nat):Int)+1)) LX)]=ltT [l.set ((a.map (·.1)).idxOf f) v]:=(by rw[Ec e];rfl);obtain⟨g,o⟩:=N4 (vs:=((LL a).take i).map λl=>ltT (ak a (.put f v) l)) (d:=ltT [l.set ((a.map (·.1)).idxOf f) v]) u;have A:((((LL a).take i++[l]).map λl=>ltT (ak a (.put f v) l))=((LL a).take i).map (λl=>ltT (ak a (.put f v) l))++[ltT (ak a (.put f v) l)]):=(by rw[bE];rfl);rw[G]at b;show{bg rfl,?_};show{by change(au (l.map λn=>Tr.v (.int n)) LX (KE (((a.map (·.1)).idxOf f:Nat):Int))).length+1<=1000000;lia,?_};show{by change(au (l.map λn=>Tr.v (.int n)) LX (KE (((a.map (·.1)).idxOf f:Nat):Int))++[iT v]).length+(au (l.map λn=>Tr.v (.int n)) (KE ((((a.map (·.1)).idxOf f:Nat):Int)+1)) LX).length<=1000000;rw[aH];change _+1+_<=_;lia,?_};show{bg rfl,?_};show{kL l,jh l,H,?_};exists tI';show ifN (c:=LZ) rfl ?_;show jx ?_;change N ({[KE (.v (spT a)),KE (.v (ltT (LL a))),KE (.v (.tup [.v (.str (Say.put f v).sort),.v (.str f),iT v])),KE (.v (.v (.str (Say.put f v).sort))),KE (.c 1),KE (.v (iT ((a.map (·.1)).idxOf f:Nat))),LX,LX],[LX,KE (.dct (ir (((LL a).take i).map kL) (kL l)) (je (((LL a).take i).map kL) (((LL a).take i).map λl=>ltT (ak a (.put f v) l)) (kL l) (Tr.lst [Tr.tup ((au (l.map λn=>Tr.v (.int n)) LX (KE (((a.map (·.1)).idxOf f:Nat):Int))++[iT v])++au (l.map λn=>Tr.v (.int n)) (KE ((((a.map (·.1)).idxOf f:Nat):Int)+1)) LX)])))]}:M);rw[y,g,o,<-g_put lk r lset,<-A];show b
  ·rw[cW];show q
def P8 (n:Nat):Pm (P7 (Ab n)) 8 2 3 (Ab (n+1)):=by
 intro ds R r h;obtain⟨b,s,rfl,ok,c,g,i,hs,q⟩:=h;rw[s.t_eq];cases a:s.isF with
 |true=>
  obtain⟨f,v,e⟩:∃f v,s=.is f v\/s=.put f v:=by
   cases s<;>first | show{_,_,.inl rfl} | show{_,_,.inr rfl} | cases a
  have j:s.own b:=g s (by cases s<;>show aN);have d:s.rest=[.v (.str f),iT v]:=(by rcases e with rfl | rfl<;>rfl);rw[d];show adk ok c e j q
 |false=>
  have n3:decide (s.tag=3)=LZ:=by cases s<;>first | rfl | cases a
  have l:decide (s.tag=4)=LZ:=by cases s<;>first | rfl | cases a
  have m:s.tag≠2:=λz=>by
   have o:decide (s.tag=2)=LY:=MH z;cases s with
   |note=>cases i
   |_=>cases o
  have d:s.rest=s.kids.map Say.t:=by cases s<;>first | rfl | cases a
  show ix0 ?_;show{rfl,?_};show sfN ((tI' _).trans n3) ?_;show{rfl,?_};show sfN ((tP _).trans l) ?_;show jx ?_;change df _ _ _ _ _ _ _ (au (.v (.str s.sort)::s.rest) (KE 1) LX) _ _;rw[qy,List.drop_one,List.tail_cons,d];have u:s.kids.length<=2:=(by cases s<;>simp[Say.kids]);show cw (out:=λk:Say=>gm (LL b) (ak b k)) rfl _ _ (by change 0+_<=_;lia) (λk hk Y p=>?_) ?_
  ·obtain⟨g1,w,x⟩:=Say.good_kid g hk;show{rfl,b,k,rfl,ok,c,g1,(),(),p}
  ·rw[bH];show Zm ok c _ a m q
def P9:GP:=λds R=>∃l p,ds=[fm p,tI l]/\l.length=p.length/\l.length<=100/\R (.val (.v (.bl (decide (put l p=l)))))
def Ac (l:List Int)(p:List (Option Int))(k:Nat):Bool:=match p[k]?,l[k]? with
 |some (KE v),KE x=>decide (v≠x)
 |_,_=>LZ
def N6 {l:List Int}{p:List (Option Int)}{k:Nat}{x:Int}{c:Option Int}(a:l[k]?=KE x)(b:p[k]?=KE c):(put l p)[k]?=KE (c.getD x):=by
 unfold put;rw[aL,(List.getElem?_zip_eq_some (z:=(x,c))).mpr #v[a,b]];rfl
def adl {l:List Int}{p:List (Option Int)}(e:l.length=p.length):((bG l.length).filter (Ac l p)).length=0↔put l p=l:=by
 rw[List.length_eq_zero_iff,List.filter_eq_nil_iff];constructor
 ·intro h;show eZ λk=>?_;by_cases hk:k < l.length
  ·have a:l[k]?=KE l[k]:=aC hk;have b:p[k]?=KE p[k]:=aC ();rw[N6 a b,a];have:=h k (dN.mpr hk);unfold Ac at this;rw[a,b]at this;cases c:p[k]with
   |none=>rfl
   |some v=>
    rw[c]at this;have:v=l[k]:=(by simpa using this);rw[this];rfl
  ·rw[bU (by rw[yk e];omega),bU ()]
 ·intro h k hk;have hk:=dN.mp hk;have a:l[k]?=KE l[k]:=aC hk;have b:p[k]?=KE p[k]:=aC ();have d:=N6 a b;rw[h,a]at d;unfold Ac;rw[a,b];cases c:p[k]with
  |none=>simp
  |some v=>
   rw[c]at d;have:l[k]=v:=bX d;simp[this]
def Ra:GP:=λds R=>∃l p,ds=[fm p,tI l]/\l.length=p.length/\l.length<=100/\R (.val (tI (put l p)))
def Jp:GS:=(aq (fk [2,3] (giL (aa 0)) (.tup [2,3]) (sIf (j6 (ar 2 P9 (gaV (aa 2) (gA1 (aa 1))))) (bh (Bf TupG.srtG (c8 1 [1] (giT (aa 3)) (.one 0) cu (ar 2 Ra (gaV (aa 0) (gA1 (aa 1))))))) dz)) (bh (gLst gaN)))
def Bw:GP:=ur
theorem N7:∀{l m},m.length=l.length->put l (rj l m)=m
 | [],[],_=>rfl
 | [],_::_,h=>by cases h
 |_::_,[],h=>by cases h
 |x::l,y::m,h=>by
  have a:=N7 (l:=l) (m:=m) (by simpa using h);change(if y=x then LX else KE y).getD x::put l (rj l m)=y::m
  rw[a];by_cases c:y=x
  ·rw[ME c,c];rfl
  ·rw[MF c];rfl
theorem N8:∀{l m},m.length=l.length->put l (m.map KE)=m
 | [],[],_=>rfl
 | [],_::_,h=>by cases h
 |_::_,[],h=>by cases h
 |x::l,y::m,h=>by
  change y::put l (m.map KE)=y::m;rw[N8 (by simpa using h)]
theorem N9 {a:List (Str×Nat)}{s:Say}{l:List Int}(d:l∈LL a):∀(ls:List (List Int)),(∀m∈ls,m∈LL a)->l∈ls->due l (ub (ls.map λl=>(l,ak a s l)))=ak a s l
 |m::ls,hs,h=>by
  have f:=hs m aN;change(if put l (m.map KE)=l then TupG.srtG (((ak a s m).map (rj m)).map (put l))else due l (ub (ls.map λl=>(l,ak a s l))))=_
  rw[N8 (by rw[jv f,jv d])];by_cases c:m=l
  ·subst c;rw[ME rfl];have e:((ak a s m).map (rj m)).map (put m)=ak a s m:=by
    rw[dO];show(lP λx b=>?_).trans (pI _);show N7 (by rw[jv (rq b),jv f])
   rw[e];show tu (TupG.nodup_dd _) λy=>by rw[TupG.mem_dd,fj]
  ·rw[MF c];rcases aU.mp h with z | z
   ·show MI z.symm c
   ·show N9 d ls (λx b=>hs x (aI _ b)) z
def adm (a:List (Str×Nat))(s:Say):fu (ub (dq a s)) (dq a s)=LY:=by
 unfold fu;show List.all_eq_true.mpr λp c=>MH ?_;obtain⟨b,d⟩:=z8 c;rw[d];show N9 b _ (λ_ h=>h) b
theorem Oa {P:List Row->Prop}(a:∀T k,P T->fu (T.eraseIdx k) W=LY->P (T.eraseIdx k)):∀(k:Nat)(T:List Row),P T->P (oy W k T)
 |0,_,h=>h
 |k+1,T,h=>by
  rw[oy];show Oa a k _ ?_
  split
  ·rename_i c;show a T k h c
  ·show h
def adn {P:List Row->Prop}(hw:∀T p i r,P T->T[p]?=KE r->fu (T.set p (wid r i)) W=LY->P (T.set p (wid r i)))(n:Nat):∀(k:Nat)(T:List Row),P T->P (ju W n T k):=by
 have b:∀T p i,P T->P (rk W p T i):=λT p i h=>by
  unfold rk;cases e:T[p]? with
  |none=>show h
  |some r=>
   dsimp only
   split
   ·rename_i c;show hw T p i r h e c
   ·show h
 have d:∀p k T,P T->P (nr W p T k):=λp k=>by
  induction k with
  |zero=>show λT h=>h
  |succ k a=>show λT h=>by rw[tp];show b _ _ _ (a T h)
 intro k
 induction k with
 |zero=>show λT h=>h
 |succ k a=>show λT h=>by rw[tq];show d _ _ _ (a T h)
def Jq {n:Nat}{T a:List Row}{P:List Row->Prop}(b:∀T k,P T->fu (T.eraseIdx k) W=LY->P (T.eraseIdx k))(hw:∀T p i r,P T->T[p]?=KE r->fu (T.set p (wid r i)) W=LY->P (T.set p (wid r i)))(h:Gets W n T a)(h0:P T):P a:=by
 induction h with
 |ref=>show h0
 |step _ c=>show adn hw _ _ _ (Oa b _ _ c)
def ado {W:ip}{n:Nat}{T a:List Row}(h:Gets W n T a)(h0:fu T W=LY):fu a W=LY:=
 Jq (P:=λT=>fu T W=LY) (λ_ _ _ c=>c) (λ_ _ _ _ _ _ c=>c) h h0
def adp {n:Nat}{T a:List Row}(h:Gets W n T a):a.length<=T.length:=
 Jq (P:=λU=>U.length<=T.length) (λU k h _=>bL (List.length_eraseIdx_le _ _) h) (λU p i r h _ _=>by rw[dY];show h) h (aJ _)
theorem Ob:∀T k,k < T.length->mu (T.eraseIdx k) < mu T
 |r::T,0,_=>by change mu T < 1+cnt r.m+mu T;lia
 |r::T,k+1,h=>by
  have:=Ob T k (by simpa using h);rw[gN];change 1+cnt r.m+mu (T.eraseIdx k) < 1+cnt r.m+mu T;lia
theorem Oc:∀p i v,p[i]?=KE (KE v)->cnt (p.set i LX) < cnt p
 |some u::p,0,v,_=>fJ _
 |none::p,0,v,h=>by cases h
 |c::p,i+1,v,h=>by
  have:=Oc p i v h;rw[iE];cases c with
  |none=>show this
  |some u=>show nP this
theorem Zn:∀T p i r v,T[p]?=KE r->r.m[i]?=KE (KE v)->mu (T.set p (wid r i)) < mu T
 |s::T,0,i,r,v,h,e=>by
  cases bX h;have:=Oc s.m i v e;change 1+cnt (s.m.set i LX)+mu T < 1+cnt s.m+mu T;lia
 |s::T,p+1,i,r,v,h,e=>by
  have:=Zn T p i r v h e;rw[iE];change 1+cnt s.m+mu (T.set p (wid r i)) < 1+cnt s.m+mu T;lia
theorem LeT.mu {A B:List Row}(h:LeT A B):PB.mu A<=PB.mu B:=by
 rcases h with rfl | h
 ·show aJ _
 ·show gR h
def LeT.eq {A B:List Row}(h:LeT A B)(e:PB.mu B<=PB.mu A):A=B:=by
 rcases h with rfl | h
 ·rfl
 ·lia
theorem Tc:∀k T,k<=T.length->oy W k T=T->∀j,j < k->fu (T.eraseIdx j) W=LZ
 |0,_,_,_,_,h=>by lia
 |k+1,T,hk,e,j,d=>by
  rw[oy]at e;have c:fu (T.eraseIdx k) W=LZ:=by
   cases c:fu (T.eraseIdx k) W with
   |false=>rfl
   |true=>
    rw[ME c]at e;have a:=(Fs W k (T.eraseIdx k)).mu;rw[e]at a;have:=Ob T k ();lia
  rw[MF (by rw[c];decide)]at e;by_cases b:j=k
  ·rw[b];show c
  ·show Tc k T () e j ()
theorem Od:∀k,nr W p T k=T->∀i,i < k->rk W p T i=T
 |0,_,_,h=>by lia
 |k+1,e,i,hi=>by
  rw[tp]at e;have a:=(S0 W p (nr W p T k) k).mu;rw[e]at a;have b:=(Cq W p T k).eq a;rw[b]at e;by_cases c:i=k
  ·rw[c];show e
  ·show Od k b i ()
theorem Oe:∀k,ju W n T k=T->∀p,p < k->nr W p T n=T
 |0,_,_,h=>by omega
 |k+1,e,p,d=>by
  rw[tq]at e;have a:=(Cq W k (ju W n T k) n).mu;rw[e]at a;have b:=(Cr W n T k).eq a;rw[b]at e;by_cases c:p=k
  ·rw[c];show e
  ·show Oe k b p ()
def adq (e:iu W n T=T):(∀k,k < T.length->fu (T.eraseIdx k) W=LZ)/\∀p i r v,T[p]?=KE r->i < n->r.m[i]?=KE (KE v)->fu (T.set p (wid r i)) W=LZ:=by
 unfold iu at e;have d:=(Cr W n (oy W T.length T) (oy W T.length T).length).mu;rw[e]at d;have f:=(Fs W T.length T).eq d;rw[f]at e;show{Tc _ T (aJ _) f,λp i r v b hi g=>?_};have a:=Od n (Oe _ e p (b7 b)) i hi;unfold rk at a;rw[b]at a;dsimp only at a;cases c:fu (T.set p (wid r i)) W with
 |false=>rfl
 |true=>
  rw[ME c]at a;have:=Zn T p i r v b g;rw[a]at this;lia
end PB
namespace VL
open PySem L2 PySem.Deep PySem.SeqAt
mutual
def fg:Tr->Bool
 | .v _=>LY
 | .tup l=>immL l
 |_=>LZ
def immL:List Tr->Bool
 | []=>LY
 |d::l=>fg d && immL l
end
open Classical in
noncomputable def i9 (F:Hp):Hp:=λa=>if (∃o,F a=KE o/\imm o)then F a else LX
def va (F:Hp):Same (i9 F) F:=λa o e=>by
 unfold i9 at e
 split at e
 ·show e
 ·cases e
def Ad (e:i9 F a=KE o):imm o:=by
 unfold i9 at e
 split at e
 ·rename_i h
  obtain⟨d,b,c⟩:=h;rw[e]at b;cases b;show c
 ·cases e
def Td (e:F a=KE o)(b:imm o):i9 F a=KE o:=by
 unfold i9;rw[ME #v[o,e,b]];show e
def ads (h:SqT K F a xs):SqT K (i9 F) a xs:=by
 rcases h with(h | ⟨o,h⟩) | h
 ·show .inl (.inl (Td h trivial))
 ·show .inl (.inr {o,Td h trivial})
 ·show .inr h
mutual
theorem Rp.imm:∀{x d},Rp b F x d->fg d=LY->Rp b (i9 F) x d
 |_,_,.v h,_=>.v h
 |_,_,.tup h r,e=>.tup (ads h) (Rps.imm r (by rw[fg]at e;show e))
 |_,_,.lst h r,e=>by simp[fg]at e
 |_,_,.scr h r,e=>by simp[fg]at e
 |_,_,.dct h k r,e=>by simp[fg]at e
 |_,_,.dk h k r,e=>by simp[fg]at e
 |_,_,.obj h k r,e=>by simp[fg]at e
theorem Rps.imm:∀{xs l},Rps b F xs l->immL l=LY->Rps b (i9 F) xs l
 |_,_,.nil,_=>.nil
 |_,_,.cons h r,e=>by
  rw[immL,cQ]at e;show .cons (Rp.imm h e.1) (Rps.imm r e.2)
end
def ownR (Q:Ev->Prop):Ev->Prop
 | .val (.lst l)=>immL l=LY/\Q (.new (.lst l))
 |_=>False
def Zo (n:Nat)(g:GP)(ga:GA):GE:=λm Q=>ga m λa b=>xi a λds=>ds.length=n/\immL ds=LY/\g ds (ownR λc=>Q c b)
noncomputable def sh (W a:Wd):Hp:=λc=>match W.F c with
 |some o=>KE o
 |none=>i9 a.F c
def adt (ok:Wok b W cel)(le:Le {i9 W.F,W.H,λ_=>LX} f)(s:Wok b f [])(w:f.F a=KE (.lst xs))(r:Rps b f.F xs l)(A:immL l=LY) :
  Lx W {sh W f,f.H,W.C}/\Wok b {sh W f,f.H,W.C} cel/\Rev b W {sh W f,f.H,W.C} (.ref a) (.new (.lst l)):=by
 have keep:∀c o,W.H c=KE o->f.H c=KE o:=λc o e=>le.fr c o e λj z=>(by cases z);have J:f.H a=KE (.lst xs):=s.sub _ _ w;have D:W.H a=LX:=by
  have E:i9 W.F a=LX:=by
   cases q:i9 W.F a with
   |none=>rfl
   |some o=>
    have:=le.same a o q;rw[w]at this;cases this;show(Ad q).elim
  rcases le.nw a E (by rw[w];show λz=>by cases z)with z | ⟨j,z⟩ | ⟨o,z,A⟩
  ·show z
  ·cases z
  ·have:=keep a o z;rw[J]at this;cases this;show A.elim
 have fa:W.F a=LX:=ok.Fn D;have x:∀{c o},W.F c=KE o->sh W f c=KE o:=λ{c o} e=>(by unfold sh;rw[e]);have g:∀{c},W.F c=LX->sh W f c=i9 f.F c:=λ{c} e=>(by unfold sh;rw[e]);have O:Same (i9 f.F) (sh W f):=λc o e=>by
  cases q:W.F c with
  |none=>rw[g q];show e
  |some u=>
   rw[x q];have G:=keep c u (ok.sub c u q);have h:=s.sub c o (va _ c o e);rw[G]at h;show h
 have Q:sh W f a=LX:=by
  rw[g fa];cases q:i9 f.F a with
  |none=>rfl
  |some o=>
   have:=va _ a o q;rw[w]at this;cases this;show(Ad q).elim
 have T:∀j,W.C j≠KE a:=λj e=>by
  obtain⟨d,hd⟩:=ok.live j a e;obtain⟨a',y,_,i⟩:=ok.cell j d hd;rw[e]at y;cases y;obtain⟨o,m⟩:=i.has;rw[D]at m;cases m
 have p:Same (sh W f) f.H:=λc o e=>by
  cases q:W.F c with
  |some u=>rw[x q]at e;cases e;show keep c _ (ok.sub c _ q)
  |none=>rw[g q]at e;show s.sub c o (va _ c o e)
 show{{{λc o e=>x e,λc o e _=>keep c o e,λc e n=>?_,λj c e=>.inl e,λc z=>le.dm c z},λj c e=>e},{p,λj d U=>?_,ok.live,ok.dist},a,rfl,D,Q,T,xs,J,(r.imm A).mono O}
 ·have L:sh W f c≠LX:=n;rw[g e]at L;have E:i9 W.F c=LX:=by
   unfold i9;rw[MF λI=>by obtain⟨o,z,_⟩:=I;show by rw[e]at z;cases z]
  have Y:f.F c≠LX:=λz=>L (by unfold i9;rw[MF λI=>by obtain⟨o,N,_⟩:=I;show by rw[z]at N;cases N]);rcases le.nw c E Y with z | ⟨j,z⟩ | z
  ·show .inl z
  ·cases z
  ·show .inr (.inr z)
 ·obtain⟨c,y,q2,i⟩:=ok.cell j d U;show{c,y,?_,i.mono (λc o e=>x e) λo e=>keep c o e};change sh W f c=LX;rw[g q2];cases q:i9 f.F c with
  |none=>rfl
  |some u=>
   obtain⟨o,m⟩:=i.has;have G:=keep c o m;have h:=s.sub c u (va _ c u q);rw[G]at h;cases h;show MI (Ad q) (i.nimm _ m)
section
variable {X:Cx}
def vcn (F:Fo X.prog X.w X.K X.mg X.base I x ps (spP X.B n g))(J:Room k X.A)(s:VA X (e::r) ga)(hk:I<=k:=by decide)(L:Gl X x:=by rfl)
  (N:(x == ("__debug__":Str))=LZ:=by decide) (O:aP (e::r) X.env=(LZ,eval e X.env)::aP r X.env:=by rfl) (T:(dU u (aP r X.env)).any (·.1)=LZ:=by rfl) :
  VE X (.Call (.Name x p) (e::r) [] u) (Zo n g ga):=by
 show#v[?_];obtain⟨f,fd,F,a,b,c⟩:=F;show PE.sub (B5 F (J.mono hk) L a b c .nil yz s.out N O T) λσ H Q ⟨W,m,R,U,rel,h,q⟩=>⟨W,m,_,U,rel,h,λvO Y i xs h1 l1 D r1=>by
   obtain⟨ds,E,hl,hi,h2⟩:=o8 r1 h1;have EV:Wok X.B ⟨i9 i.F,i.H,λ_=>LX⟩ []:={λa o z=>D.ok.sub a o (va _ a o z),(λj d z=>by simp at z),(λj a z=>by cases z),(λj k a z=>by cases z)};show{by rw[bY,E.length];show hl,{i9 i.F,i.H,λ_=>LX},ds,_,rfl,EV,by rw[bY];show E.imm hi,h2,λev G y l l3 c3 yL r3=>?_};unfold ownR at l
   split at l
   · obtain⟨im,l⟩:=l;obtain⟨a,ys,rfl,s.out,ry⟩:=Rp.lstI r3;obtain⟨l4,CA,rv⟩:=adt D.ok l3 yL s.out ry im;show q _ Y {sh i G,G.H,i.C} _ l (l1.trans l4) (D.lift l4 (λ_=>rfl) CA) (rv.old l1.toLe)
   · show l.elim⟩
end
section
variable {prog:aV}{w:bC}{A:cG}{E:aE->aK->Prop}{s:aK}
def adu (hd:(d == gD)=LZ)(a:s.heap.get? d=KE b)(e:b.ExactDict)(hD:b.data=.dict f ep)
  (g:Q (.ref ‹s›) { s with heap:=s.heap.push { cls:=.type "dict_keyiterator",data:=.fields #[.ref d,.int 0 0,.int f.size 0,.int ep 0] } }):aM (aY prog w) A (sN (.ref d)) Q E s:=by
 have c:s.TypeIs (.ref d) "dict":=#v[b,a,e.1];show qE c F.slot_dict_iter (cP F.slot_dict_iter c F.entry_dict_iter ?_ (F.args_dict_iter_1 _));unfold iP.«dict.__iter__» Builtin.Dict.dictSlotNone;show aA (aA (wpAny_notOrdered_dict c (wpAny_pure ?_)));change aM _ _ (Builtin.Dict.showsAll d >>= _) _ _ s;unfold Builtin.Dict.showsAll;rw[MF (by rw[hd];show aQ)];show aA (wpAny_pure (aA (qH a hD (aA (rD a hD (aA (cY (wpAny_pure {_,rfl,"dict_keyiterator",_,{_,aW _ rfl,rfl},F.slot_dict_keyiterator_next.lookup,by simpa[iU]using g}))))))))
def Ae (a:s.TypeIs (.ref it) "dict_keyiterator")(h:Q "dict_keyiterator" s):aM (aY prog w) A (typeNameOfWhole (.ref it)) Q E s:=wpAny_typeNameOfWhole_keyiter a h
def adw (c:s.heap.IsKeyIter it d i a.size ep)(f:s.heap.get? d=KE h)(hD:h.data=.dict a ep)(j:a[i]?=KE e)
  (l:∀h',h'.IsKeyIter it d (i+1) a.size ep->eB it s.heap h'->Q (KE e.key) { s with heap:=h' }):aM (aY prog w) A (gU (.ref it)) Q E s:=by
 obtain⟨o,b,m,hd⟩:=id c;have T:=c.typeIs;unfold gU;show aA (jH (cX (name:=cZ "__next__") T F.slot_dict_keyiterator_next (cP F.slot_dict_keyiterator_next T F.entry_dict_keyiterator_next ?_ (F.args_dict_keyiterator_next_1 _))));show aA (wpAny_pure (aA (aA (aA (Ae T (wpAny_pure (aA (pC b hd ?_))))))));simp only[show Builtin.Dict_items.ownsTuple "dict_keyiterator"=LZ by decide,bP,if_false];change aM _ _ (if (bZ d == eF)=LY then _ else _) _ _ s
 rw[MF (show ¬((bZ d == eF)=LY)from aQ)];show aA (wpAny_pure (aA (qH f hD ?_)));rw[MF ∅];show aA (wpAny_pure (aA (rD f hD ?_)));rw[MF ∅];show wpAny_pure ?_;simp only[show ¬((i:Int) < 0)from by lia,if_false,bV,j];show aA (aA (Ae T (wpAny_pure (aA (wpAny_isOneOf_keyiter T ?_)))));change aM _ _ (uB (.ref it) 1 (iU ((i:Int)+1)) >>= _) _ _ s;show aA (jP b hd ∅ ?_);have g:(s.heap.update it (sH (·.setIfInBounds 1 (iU ((i:Int)+1))))).IsKeyIter it d (i+1) a.size ep:=
  {_,gG _ b (kU (fG hd _)),(mY ..).trans m,by rw[fG hd];simp[iU]}
 show aA (dB (aA (wpAny_isOneOf_keyiter (s:={ s with heap:=s.heap.update it (sH (·.setIfInBounds 1 (iU ((i:Int)+1)))) }) g.typeIs ?_)));change aM _ _ (pure e.key) _ _ _;show wpAny_pure (wpAny_pure {_,rfl,wpAny_pure (l _ g (eM ..))})
def aih (h:A.handled=LX)(c:s.heap.IsKeyIter it d i e.size ep)(f:s.heap.get? d=KE j)(hD:j.data=.dict e ep)(l:e.size<=i)
  (n:∀h',kO it s.heap h'->Q LX { s with heap:=h' }):aM (aY prog w) A (gU (.ref it)) Q E s:=by
 obtain⟨o,g,p,hd⟩:=id c;have T:=c.typeIs;unfold gU;show aA (jH (cX (name:=cZ "__next__") T F.slot_dict_keyiterator_next (cP F.slot_dict_keyiterator_next T F.entry_dict_keyiterator_next ?_ (F.args_dict_keyiterator_next_1 _))));show aA (wpAny_pure (aA (aA (aA (Ae T (wpAny_pure (aA (pC g hd ?_))))))));simp only[show Builtin.Dict_items.ownsTuple "dict_keyiterator"=LZ by decide,bP,if_false];change aM _ _ (if (bZ d == eF)=LY then _ else _) _ _ s
 rw[MF (show ¬((bZ d == eF)=LY)from aQ)];show aA (wpAny_pure (aA (qH f hD ?_)));rw[MF ∅];show aA (wpAny_pure (aA (rD f hD ?_)));rw[MF ∅];show wpAny_pure ?_;simp only[show ¬((i:Int) < 0)from by lia,if_false,bV,Array.getElem?_eq_none l];show aA (aA (Ae T (wpAny_pure ?_)));change aM _ _ (uB (.ref it) 0 .none >>= _) _ _ s;show aA (jP g hd ∅ ?_);change aM _ _ (uK (.type "StopIteration") [] >>= _) _ _ _;show aA ?_;simp only[uK,uA];show aA (cY ?_ (by size_fits));show aA (m:=kW _ _) (rJ (a:=eF) (by first | rfl | (simp only[kW];rfl)) ?_)
 show cY ?_ (by size_fits);simp only[raiseNew];show aA (sE ?_);rw[show A.in1.handled=LX from h];show aA (wpAny_pure (tV ?_));show aA (iB (T:="StopIteration") (b:=LY) {_,aW _ rfl,rfl} pD (wpAny_pure ?_));show n _ (((eM ..).extBut.push _).push _)
end
def Itk (P:aV)(w:bC)(a:MA)(ep:Nat)(kvs:DE):It:=
 {λi H=>i < kvs.length/\H a=KE (jk P w a ep kvs),λi H x H'=>H'=H/\∃e,kvs[i]?=KE e/\x=.ref e.2.1,λi H=>kvs.length<=i/\H a=KE (jk P w a ep kvs)}
def adx (r:Paired vh kvs xs):∀{i:Nat}{e:List I2×MA×V},kvs[i]?=KE e->∃y,xs[i]?=KE y/\e.2.1=y.2.1:=by
 induction r with
 |nil=>intro i e h;simp at h
 |@cons p q ps c h t b=>
  intro i e a;cases i with
  |zero=>simp at a;subst a;show{q,by simp,h.2.1}
  |succ i=>simpa using b (by simpa using a)
def Hs (I:Inv X g i H s)(h:H a=KE (jk X.prog X.w a ep kvs)):∃xs o b,Paired vh kvs xs/\s.heap.get? a=KE o/\o.ExactDict/\o.data=.dict b ep/\b.toList=xs.map (rQ (jz X.prog X.w))/\b.size=kvs.length:=by
 obtain⟨⟨xs,r,o,b,d,e,f,c,j⟩,_⟩:=(show ObjOk X.prog X.w H s.heap a (jk X.prog X.w a ep kvs)from I.hok a _ h);show{xs,o,b,r,d,e,f,c,?_};rw[<-cV,c,aB,r.length]
def Zq {kvs:DE}:yy P w K tg (Itk P w a ep kvs) [it] it (λi h=>h.IsKeyIter it a i kvs.length ep) where
 mem:=by simp
 obj:=λi h st b hb=>by
  have e:b=it:=(by simpa using hb);subst e;obtain⟨o,e,c,d⟩:=st;show{o,e,λv z=>by rw[d]at z;cases z}
 keep:=λi h h' uW k=>by obtain⟨o,e,c⟩:=uW;show{o,k it ∅ o e,c}
 item:=by
  intro X hP hw hK hc i uS s σ H E I hf st ⟨hi,hg⟩;subst hP hw hK;obtain⟨xs,od,es,r,e1,e2,e3,e4,e5⟩:=Hs I hg;obtain⟨f0,f1,f2,f3,f4,f5⟩:=hf it ∅;have hk:kvs[i]?=KE kvs[i]:=aC hi;obtain⟨y,hy,ey⟩:=adx r hk;have he:es[i]?=KE (rQ (jz X.prog X.w) y):=(by rw[<-bR,e4,aL,hy];rfl);rw[<-e5]at st;show adw st e1 e3 he λh' zA sb=>?_;have I1:Inv X uS σ H { s with heap:=h' }:=I.turned (t':=s.toks) (λb o hb e=>(sb.2 b hb).trans e) f0 f1 f3 f4 f5;obtain⟨o,e,c,d⟩:=id zA;rw[e5]at zA;show⟨_,rfl,B3 (s:={ s with heap:=h' }) e c d (by decide) {.ref kvs[i].2.1,H,I1,by rw[ey];show rfl,{rfl,_,hk,rfl},zA,λb hb=>(hf b hb).1}⟩
 done:=by
  intro X hP hw hK hc i uS s σ H E I hf st ⟨hi,hg⟩;subst hP hw hK;obtain⟨xs,od,es,r,e1,e2,e3,e4,e5⟩:=Hs I hg;obtain⟨f0,f1,f2,f3,f4,f5⟩:=hf it ∅;rw[<-e5]at st hi;show aih (I.ok.hd hc) st e1 e3 hi λh' eb=>{rfl,I.turned (t':=s.toks) (λb o hb e=>eb b o hb e) f0 f1 f3 f4 f5}
 self:=λ_ _ _ _ _ st h=>wpAny_pyIter_keyiter st h
section
variable {X:Cx}
def iKeys (P:aV)(w:bC)(c:TE):TI:=λd H R=>c d H λx b=>∃a ep kvs,x=.ref a/\(a == gD)=LZ/\b a=KE (jk P w a ep kvs)/\R (Itk P w a ep kvs) b
def aii (d:PE X l f):PI X D l (iKeys X.prog X.w f):=by
 intro g s i H R I h;show thn (d g s i H _ I h) λv s1 j=>?_;obtain⟨x,m,c,n,a,ep,kvs,e,hs,p,q⟩:=j;subst e;cases n;obtain⟨xs,E,G,r,u,y,z,J,A⟩:=Hs c p;show adu hs u y z {_,[_],_,_,m,rfl,c.kept (t':=s1.toks) λb o e=>aG _ e,Zq (a:=a) (ep:=ep) (kvs:=kvs),{_,aW _ rfl,rfl,by rw[<-A];rfl},λb C=>?_,q};have e:b=‹s1›:=(by simpa using C);subst e;show c.fpOk (aJ _) (c.hok.fresh (aJ _))
def giK (f:GE):GI:=λm Q=>f m λa b=>fz b a λd m2=>match d with
 | .dct ks _=>Q (ks.map λk=>.tup (k.map itT)) m2
 |_=>False
def ady (h:KeyAt b.K F c ks):Rp b F (.ref c) (.tup (ks.map itT)):=by
 obtain⟨xs,d,f⟩:_:=h;show .tup d ?_;clear d
 induction f with
 |nil=>show .nil
 |@cons v k vs ks h t a=>
  show .cons ?_ a;cases k with
  |inl i=>cases(show v=V.int i from h);show .v rfl
  |inr l=>
   obtain⟨c,rfl,e⟩:_:=(show ∃c,v=V.ref c/\SqT b.K F c (l.map V.int)from h);show .tup e ?_;clear h e
   induction l with
   |nil=>show .nil
   |cons i l a=>show .cons (.v rfl) a
def aij (h:F a=KE (jk b.P b.w a ep kvs))(hk:∀e∈kvs,KeyAt b.K F e.2.1 e.1):Sq b F (Itk b.P b.w a ep kvs) ((kvs.map (·.1)).map λk=>.tup (k.map itT)):=λl m s1 j i=>by
 have f:=j _ _ (s1 _ _ h);show{λhi=>{by simpa using hi,f},λd hd=>?_};rw[aL,aL]at hd;cases c:kvs[i]? with
 |none=>rw[c]at hd;cases hd
 |some e=>
  rw[c]at hd;cases hd;show{{(bJ.mp c).1,f},?_};rintro x H3 ⟨rfl,n,g,rfl⟩;rw[c]at g;cases g;show .inl {rfl,ady (j5 (hk e (aR c)) s1)}
def aik (j:VE X e f):VI X y e (giK f):=⟨PI.sub (aii j.out) λz H R ⟨W,m,A,n,rel,h,q⟩=>⟨W,m,_,n,rel,h,λC D E x o l1 p r=>by
  obtain⟨d,m2,W2,b,l2,s,g,u⟩:=mv l1 p r o
  split at b
  · cases u with
    |@dct a kvs ks l c w G=>
      obtain⟨ep,i⟩:=c.at_;subst w;rw[<-s];show{a,ep,kvs,rfl,c.sys,g.ok.sub _ _ i,q _ m2 W2 _ b l2 g (aij i c.keys)}
  · show b.elim⟩⟩
end
end VL
namespace PB
open PySem L2 VL Bits S1 PySem.Deep
def Rb:GS:=(aq (fk [2] (giK (aa 1)) (.one 2) (sIf (gT (gOp (eqG LY) (ar 2 Bw (gaV (aa 0) (gA1 (aa 2)))) (gOp ixD (aa 1) (aa 2)))) (bh (gC (.v (.bl LZ)))) dz)) (bh (gC (.v (.bl LY)))))
def oh:GP:=λds R=>∃T a s,ds=[cb T,gm (LL a) (ak a s)]/\SpOk a/\(∀r∈T,RowOk a.length r)/\R (.val (.v (.bl (fu T (dq a s)))))
def adz:fu T (dq a s)=(LL a).all λl=>decide (due l T=ak a s l):=by
 unfold fu dq;rw[tF];rfl
def Re:Pm (Rb) 3 1 2 (oh):=by
 intro ds R b h;obtain⟨T,a,s,rfl,ok,f,q⟩:=h;have o:=ok.lo;have p:=ok.hi;change gu _ _ _ _ (((LL a).map kL).map λk=>Tr.tup (k.map itT)) _;have g:(((LL a).map kL).map λk=>Tr.tup (k.map itT))=(LL a).map tI:=by
  rw[dO];show lP λl _=>MK Tr.tup (jh l).symm
 rw[g];rw[adz]at q;show du (I:=λi m=>m={[KE (.v (cb T)),KE (.v (gm (LL a) (ak a s))),LX],[LX]}/\((LL a).take i).all (λl=>decide (due l T=ak a s l))=LY) #v[rfl,rfl] ?_ ?_
 ·intro i l m N hi d j;obtain⟨rfl,hd⟩:=d;have b:=aR hi;have w:=jv b;show{rfl,l,T,rfl,by rw[w];show f,(),(),?_};show{kL l,jh l,ax (fnd b) ?_};show{Eh _ _ _,λc n=>?_};cases yn n Nj;by_cases c:due l T=ak a s l
  ·show ifN (show(!decide (due l T=ak a s l))=LZ by rw[MH c];rfl) ?_;show jx ?_;show j _ {rfl,?_};rw[cU,hi,List.all_append,hd];simp[c]
  ·show ifY (show(!decide (due l T=ak a s l))=LY by rw[MG c];rfl) ?_;have e:((LL a).all λl=>decide (due l T=ak a s l))=LZ:=qG.mpr λz=>c (of_decide_eq_true (lC.mp z l b));rw[e]at q;show q
 ·intro m d;obtain⟨rfl,hd⟩:=d;rw[cW]at hd;rw[hd]at q;show q
def Of:GS:=(aq (fk [2,3,4,5,6] (giR (gA1 (gCB gc (gaE (aa 0) gaN)))) (.one 2) (aq (sIf (j6 (ar 2 oh (gaV (gOp bz (gSl (aa 0) goN (goS (aa 2))) (gSl (aa 0) (goS (gOp bz (aa 2) (gI 1))) goN)) (gA1 (aa 1))))) (bh (gC (.v (.bl LZ)))) dz) (aq (U2 (.tup [3,4]) (gX (aa 0) (aa 2))) (fk [5,6] (giR (gA1 (gCB gc (gaE (aa 3) gaN)))) (.one 5) (sIf (gT (gOp (Bd LY) (gX (aa 3) (aa 5)) (gC (.v .non)))) (aq (bp 6 (gTup (gaV (gOp bz (gOp bz (gSl (aa 3) goN (goS (aa 5))) (gTup (gA1 (gC (.v .non))))) (gSl (aa 3) (goS (gOp bz (aa 5) (gI 1))) goN)) (gA1 (aa 4))))) (sIf (j6 (ar 2 oh (gaV (gOp bz (gOp bz (gSl (aa 0) goN (goS (aa 2))) (gLst (gA1 (aa 6)))) (gSl (aa 0) (goS (gOp bz (aa 2) (gI 1))) goN)) (gA1 (aa 1))))) (bh (gC (.v (.bl LZ)))) dz)) dz))))) (bh (gC (.v (.bl LY)))))
def wj:GP:=λds R=>∃T a s,ds=[cb T,gm (LL a) (ak a s)]/\SpOk a/\TabOk a.length T/\(T=[]\/iu (dq a s) a.length T=T)/\R (.val (.v (.bl LY)))
def Og:Pm (Of) 7 1 2 (wj):=by
 intro ds R hl h;obtain⟨T,a,s,rfl,ok,d,A,q⟩:=h;have C:=ok.hi;have few:=d.few;obtain⟨D,E⟩:(∀k,k < T.length->fu (T.eraseIdx k) (dq a s)=LZ)/\∀p i r v,T[p]?=KE r->i < a.length->r.m[i]?=KE (KE v)->fu (T.set p (wid r i)) (dq a s)=LZ:=by
  rcases A with rfl | e
  ·show{λk hk=>by simp at hk,λp i r v e=>by simp at e}
  ·show adq e
 have G:(T.map cj).length=T.length:=aB ..;show{by change(-1000000:Int)<=((T.map cj).length:Int);lia,by change((T.map cj).length:Int)<=1000000;lia,?_};change gu _ _ _ _ (iz 0 (((T.map cj).length:Int)).toNat) _;rw[G,n9];show du (I:=λ_ m=>m={[KE (.v (cb T)),KE (.v (gm (LL a) (ak a s))),LX,LX,LX,LX,LX],[LX]}) rfl ?_ (λm u=>q);intro k x m N b l H;subst l;have hk:=b7 b;rw[bS]at hk;rw[cB hk]at b;cases b;obtain⟨r,n⟩:∃r,T[k]?=KE r:={_,aC hk};have f:=d.rows r (aR n);have cl:=u6 (T.map cj) k ();have J:Tr.lst (au (T.map cj) LX (KE (k:Int))++au (T.map cj) (KE ((k:Int)+1)) LX)=cb (T.eraseIdx k):=by
  rw[Jn _ _ (),ua]
 show{by change(au (T.map cj) LX (KE (k:Int))).length+(au (T.map cj) (KE ((k:Int)+1)) LX).length<=1000000;lia,?_};show{rfl,T.eraseIdx k,a,s,MK (λz=>[z,gm (LL a) (ak a s)]) J,ok,(d.erase k).rows,?_};show ifN (D k hk) ?_;show jx ?_;show ax (x:=cj r) (bj (by rw[aL,n];rfl)) ?_;have ml:(r.m.map eh).length=a.length:=(by rw[aB,f.ml]);show{by change(-1000000:Int)<=((r.m.map eh).length:Int);lia,by change((r.m.map eh).length:Int)<=1000000;lia,?_};change gu _ _ _ _ (iz 0 (((r.m.map eh).length:Int)).toNat) _;rw[ml,n9];show du (I:=λ_ m=>m={[KE (.v (cb T)),KE (.v (gm (LL a) (ak a s))),KE (.v (iT (k:Int))),KE (.v (fm r.m)),KE (.v (.tup (r.ds.map fm))),LX,LX],[LX]}) rfl ?_ (λm u=>by cases u;show H _ rfl);intro j x m N' b l w;subst l;have g:=b7 b;rw[bS]at g;rw[cB g]at b;cases b;have o:j < r.m.length:=(by rw[f.ml];show g);obtain⟨c,y⟩:∃c,r.m[j]?=KE c:={_,aC o};show ax (x:=eh c) (bj (by rw[aL,y];rfl)) ?_;cases c with
 |none=>show w _ rfl
 |some v=>
  have L:r.m.length<=3:=(by rw[f.ml];show C);have O:(r.m.map eh).length<=3:=(by rw[aB];show L);have Q:=u6 (r.m.map eh) j (by rw[aB];show o);have U:Tr.tup [Tr.tup ((au (r.m.map eh) LX (KE (j:Int))++[.v .non])++au (r.m.map eh) (KE ((j:Int)+1)) LX),.tup (r.ds.map fm)]=cj (wid r j):=(by rw[S3 o];rfl);have Y:Tr.lst ((au (T.map cj) LX (KE (k:Int))++[Tr.tup [Tr.tup ((au (r.m.map eh) LX (KE (j:Int))++[.v .non])++au (r.m.map eh) (KE ((j:Int)+1)) LX),.tup (r.ds.map fm)]])++au (T.map cj) (KE ((k:Int)+1)) LX)=cb (T.set k (wid r j)):=by
   rw[U,S4 _ _ _ (),<-List.map_set]
  show{bg rfl,?_};show{by change(au (r.m.map eh) LX (KE (j:Int))).length+1<=1000000;lia,?_};show{by change(au (r.m.map eh) LX (KE (j:Int))++[Tr.v .non]).length+(au (r.m.map eh) (KE ((j:Int)+1)) LX).length<=1000000;rw[aH];change _+1+_<=_;lia,?_};show{bg rfl,bg rfl,?_};show{by change(au (T.map cj) LX (KE (k:Int))).length+1<=1000000;lia,?_};show{by change(au (T.map cj) LX (KE (k:Int))++[_]).length+(au (T.map cj) (KE ((k:Int)+1)) LX).length<=1000000;rw[aH];change _+1+_<=_;lia,?_};show{rfl,T.set k (wid r j),a,s,MK (λz=>[z,gm (LL a) (ak a s)]) Y,ok,(d.set (f.wid j)).rows,?_};show ifN (E k j r v n g y) ?_;show jx ?_;show w _ rfl
end PB
namespace PB
open PySem L2 VL Bits S1 PySem.Deep
abbrev g__law_step:GP:=Ab 100
theorem nh {b:Type}{f:b->Tr}(h:∀a,fg (f a)=LY):∀l:List b,immL (l.map f)=LY
 | []=>by rw[gW,immL]
 |a::l=>by rw[bB,immL,h,nh h l];rfl
def ail (c:Option Int):fg (eh c)=LY:=by cases c<;>simp[eh,fg]
def Te (p:List (Option Int)):fg (fm p)=LY:=by rw[fg];show nh ail p
def Tf (r:Row):fg (cj r)=LY:=by
 rw[fg,immL,immL,immL,Te,fg,nh Te];rfl
def amc (l:List Int):fg (tI l)=LY:=by
 change fg (.tup _)=LY;rw[fg];show nh (λn=>by simp[fg]) l
def Zr (a:List (Str×Nat)):fg (spT a)=LY:=by
 change fg (.tup _)=LY;rw[fg];show nh (λw=>by change fg (.tup _)=LY;simp[fg,immL]) a
theorem yo:∀s:Say,fg s.t=LY
 | .nought | .every | .note=>by simp[Say.t,fg,immL]
 | .is _ _ | .put _ _=>by simp[Say.t,fg,immL]
 | .no a | .again a=>by simp[Say.t,fg,immL,yo a]
 | .either a b | .both a b=>by simp[Say.t,fg,immL,yo a,yo b]
def aim {c d:Type}(f:c->d)(l:List c)(a b:Option Int):au (l.map f) a b=(au l a b).map f:=by
 unfold au;rw[nJ,lH,aB]
structure K4 (ws:List (Str×Nat))(t:List Int):Prop where
 len:t.length=4
 val:∀p v w,t[p]?=KE v->ws[p % 2]?=KE w->0<=v/\v < (w.2:Int)
def V1:GS:=(fk [2,3] (giE (gA1 (aa 1))) (.tup [2,3]) (fv (ar 2 qd (gaV (gX (gX (aa 0) (gOp (gn (λ_ j=>0 < j) λi j=>.int (i % j)) (aa 2) (gI 2))) (gI 1)) (gA1 (aa 3))))))
def uw:GP:=λds R=>∃a t,ds=[spT a,tI t]/\2<=a.length/\K4 a t/\R (.val (.v .non))
def V2:Pm (V1) 4 1 2 (uw):=by
 intro ds R u h;obtain⟨a,t,rfl,x,d,q⟩:=h;change gu _ _ _ _ (jo (t.map λn=>Tr.v (.int n))) _;rw[wu];show du (I:=λ_ m=>m={[KE (.v (spT a)),KE (.v (tI t)),LX,LX],[LX]}) rfl ?_ (λ_ _=>q);intro i e m N b f g;obtain⟨v,j⟩:=e;subst f;rw[lG]at b;obtain⟨y,l,o⟩:=dR.mp b;cases o;obtain⟨w,c⟩:∃w,a[i % 2]?=KE w:={_,aC ()};obtain⟨p,r⟩:=d.val i v w l c;show{by change(0:Int) < 2;decide,?_};have s:atI (a.map pT) (((0+i:Nat):Int) % 2)=KE (pT w):=by
  rw[show(((0+i:Nat):Int) % 2)=((i % 2:Nat):Int)by lia];show bj (by rw[aL,c];rfl)
 show ax s ?_;show{rfl,_,v,rfl,p,r,g _ rfl}
structure Ag (ws:List (Str×Nat))(rs:List Say)(ts:List (List Int)):Prop where
 sp:SpOk ws
 two:2<=ws.length
 few:(LL ws).length<=24
 many:∀w,ws[0]?=KE w->rs.length=w.2
 rule:∀r∈rs,r.size<=100/\r.good ws/\r.nts=0
 tie:∀t∈ts,K4 ws t
 ties:ts.length<=100
abbrev rsT (rs:List Say):Tr:=.tup (rs.map Say.t)
abbrev ntT (ws:List (Str×Nat))(rs:List Say)(ts:List (List Int)):Tr:=.tup [spT ws,rsT rs,.tup (ts.map tI)]
def neN {c:Bool}{P Q:Prop}(h:c=LY)(q:Q):if (if LY=LY then !c else c)=LY then P else Q:=by subst h;rw[MF (by decide)];show q
def V3:GS:=(aq (bp 1 (gX (aa 0) (gI 0))) (aq (sIf (gT (gOp (ff λi j=>.bl (decide (i < j))) (gCB gc (gaE (aa 1) gaN)) (gI 2))) yg dz) (aq (sIf (gT (gOp (eqG LY) (gCB gc (gaE (gX (aa 0) (gI 1)) gaN)) (gX (gX (aa 1) (gI 0)) (gI 1)))) yg dz) (aq (fk [2] (giT (gX (aa 0) (gI 1))) (.one 2) (aq (fv (ar 2 km (gaV (aa 1) (gA1 (aa 2))))) (fv (ar 1 qh (gA1 (aa 2)))))) (fk [3] (giT (gX (aa 0) (gI 2))) (.one 3) (fv (ar 2 uw (gaV (aa 1) (gA1 (aa 3))))))))))
def Ah:GP:=λds R=>∃a b c,ds=[ntT a b c]/\Ag a b c/\R (.val (.v .non))
def V4:Pm (V3) 4 1 1 (Ah):=by
 intro ds R o h;obtain⟨g,c,d,rfl,ok,q⟩:=h;obtain⟨w,a,rfl⟩:∃w a,g=w::a:=by
  have:=ok.two;cases g with
  |nil=>simp at this
  |cons w a=>show#v[w,a,rfl]
 have j:=ok.many w rfl;have hz:((w::a).map pT).length=(w::a).length:=aB _;change if decide (((((w::a).map pT).length:Nat):Int) < 2)=LY then _ else _
 show ifN (MG (by rw[hz];have:=ok.two;lia)) ?_;show jx ?_;show ix0 ?_;show{rfl,?_};show neN (MH (by rw[aB,j])) ?_;show jx ?_;have fin:∀m:M,m=⟨[KE (.v (ntT (w::a) c d)),KE (.v (spT (w::a))),LX,LX],[LX]⟩->fk [3] (giT (gOp ixG (aa 0) (gC (.v (.int 2))))) (.one 3) (fv (ar 2 uw (gaV (aa 1) (gaV (aa 3) gaN)))) { nx:=λm=>R (.val (.v .non)),rt:=vt R } m:=by
  intro m b;subst b;show du (I:=λ_ m=>m={[KE (.v (ntT (w::a) c d)),KE (.v (spT (w::a))),LX,LX],[LX]}) rfl ?_ (λ_ _=>q);intro i x m N e b f;subst b;show{rfl,w::a,x,rfl,ok.two,ok.tie x (aR e),f _ rfl}
 show du (I:=λ_ m=>m={[KE (.v (ntT (w::a) c d)),KE (.v (spT (w::a))),LX,LX],[LX]}) rfl ?_ fin;intro i x m N e b f;subst b;obtain⟨p,l,n⟩:=ok.rule x (aR e);show{rfl,w::a,x,rfl,(),l,rfl,x,rfl,(),n,f _ rfl}
def cut_7 (l:List b)(a:Nat):(au l (KE (a:Int)) (KE ((a+7:Nat):Int))).length<=28:=by
 unfold au;rw[bN,dC,HT.sIx_nat,HT.sIx_nat];omega
def ixN1 (h:Q 1):ku (ixN (n+2) 1) Q:=ax (by unfold ixN;rw[ME (by decide),ME ()];rfl) h
def Rf:GS:=(bh (gTup (gaV (aa 2) (gaV (gCB n8 (gaE (aa 4) gaN)) (gA1 (gCB n8 (gaE (aa 6) gaN)))))))
def Rg:GS:=aq (fk [5,7] (giR (gA1 (gOp (gn (λ_ j=>0 < j) λi j=>.int (i % j)) (ar 2 ko (gaV (aa 0) (gA1 (gOp bz (aa 1) (gI 1))))) (gI 7)))) (.one 5) (aq (jm 7 2 (ar 1 mf (gA1 (ar 2 ko (gaV (aa 0) (gA1 (gOp bz (gOp bz (aa 1) (gI 2)) (aa 5)))))))) (fv (xk 6 (gCB n8 (gaE (c8 1 [7,2] (giR (gA1 (gI 4))) (.one 0) cu (gy 2 0 dt (gaE (aa 1) (gA1 (gX (gX (aa 2) (gOp (gn (λ_ j=>0 < j) λi j=>.int (i % j)) (aa 0) (gI 2))) (gI 1)))))) gaN)))))) (Rf)
def xw:GS:=aq (jm 6 1 (gLst gaN)) (Rg)
def Rh:GS:=aq (sIf (xh (gT (gOp (ff λi j=>.bl (decide (j < i))) (aa 3) (gI 1))) (gT (gOp (eqG LZ) (gOp (gn (λ_ j=>0 < j) λi j=>.int (i % j)) (ar 2 ko (gaV (aa 0) (gA1 (gOp bz (aa 1) (gI 1))))) (gI 4)) (gI 1)))) (qw 4 (gX (aa 4) (gI 0)) (gI 1)) dz) (xw)
def Ri:GS:=aq (fk [5] (giR (gA1 (aa 3))) (.one 5) (fv (xk 4 (ar 3 ue (gaV (gSl (aa 0) (goS (gOp bz (gOp bz (aa 1) (gI 8)) (gOp qt (gI 7) (aa 5)))) (goS (gOp bz (gOp bz (aa 1) (gI 15)) (gOp qt (gI 7) (aa 5))))) (gaV (aa 2) (gA1 (gI 0)))))))) (Rh)
def Rj:GS:=aq (jm 4 0 (gLst gaN)) (Ri)
def Rk:GS:=aq (bp 3 (gX (gX (aa 2) (gI 0)) (gI 1))) (Rj)
def V5:GS:=aq (bp 2 (ar 2 ud (gaV (ar 2 ko (gaV (aa 0) (gA1 (aa 1)))) (gA1 (gI 2))))) (Rk)
def Ai:GP:=λds R=>∃(ns:List Int)(k:Nat),ds=[.scr (ns.map iT),iT k]/\k<=100/\∀a b c,Ag a b c->R (.val (ntT a b c))
def RuOk (a:List (Str×Nat))(r:Say):Prop:=r.size<=100/\r.good a/\r.nts=0
abbrev mN (ns:List Int)(k:Nat)(ws:List (Str×Nat))(c:Nat)(rs:List Say):M:={[KE (.v (.scr (ns.map iT))),KE (.v (iT k)),KE (.v (spT ws)),KE (.v (iT c)),KE (.c 1),LX,LX,LX],[LX,KE (.lst (rs.map Say.t)),LX,LX]}
abbrev mT (ns:List Int)(k:Nat)(ws:List (Str×Nat))(c:Nat)(rs:List Say)(ts:List (List Int))(z:Option Tr):M:={[KE (.v (.scr (ns.map iT))),KE (.v (iT k)),KE (.v (spT ws)),KE (.v (iT c)),KE (.c 1),LX,KE (.c 2),LX],[LX,KE (.lst (rs.map Say.t)),KE (.lst (ts.map tI)),z]}
abbrev tkF:GE:=(gy 2 0 dt (gaE (aa 1) (gaV (gOp ixG (gOp ixG (aa 2) (gOp (gn (λ_ j=>0 < j) λi j=>.int (i % j)) (aa 0) (gC (.v (.int 2))))) (gC (.v (.int 1)))) gaN)))
def aez (a:List (Str×Nat))(t:List Int):Prop:=∀p v w,t[p]?=KE v->a[p % 2]?=KE w->0<=v/\v < (w.2:Int)
theorem Jr (ok:SpOk e)(two:2<=e.length)(o:k9 loc [7,2]=[KE (.c 3),KE (.v (spT e))])(r:∀a b,h8 [LX,KE x,KE y,KE (uc a b)] loc=LY) :
  ∀n j d a b,0<=a->0<=b->d.length=j->aez e d->n+j<=4->(∀t a b,t.length=j+n->aez e t->Q (t.map iT) {loc,[LX,KE x,KE y,KE (uc a b)]})->df 1 [7,2] (.one 0) cu tkF loc Q ((List.range' j n).map λi:Nat=>Tr.v (.int (i:Int))) (d.map iT) [LX,KE x,KE y,KE (uc a b)]
 |0,j,d,a,b,_,_,s,g,_,q=>q d a b () g
 |n+1,j,d,a,b,h,l,s,g,hz,q=>by
  rw[List.range'_succ,bB];show{by rw[aB];lia,?_};rw[o];obtain⟨w,m⟩:∃w,e[j % 2]?=KE w:={_,aC ()};have I:=ok.cnt w (aR m);have A:atI (e.map pT) ((j:Int) % 2)=KE (pT w):=by
   rw[show((j:Int) % 2)=((j % 2:Nat):Int)by lia];show bj (by rw[aL,m];rfl)
  show{by change(0:Int) < 2;decide,?_};show ax A ?_;show{rfl,_,_,_,rfl,rfl,h,l,by change(0:Int) < (w.2:Int);lia,by change(w.2:Int) < 1073741824;lia,λv a b C D h l=>{r a b,?_}};have z:=Jr ok two o r (Q:=Q) n (j+1) (d++[v]) a b h l (by rw[aH,s];rfl) (λp u E f hw=>?_) () (λt a b J G=>q t a b () G)
  ·rw[bE]at z;show z
  ·by_cases c:p < d.length
   ·rw[bT c]at f;show g p u E f hw
   ·rw[cH ()]at f;have H:=b7 f;rw[cK]at H;have e0:p=j:=();subst e0;rw[show p - d.length=0 by lia]at f;cases f;rw[m]at hw;cases hw;show#v[C,D]
def aeb (ok:SpOk (w::c))(two:2<=(w::c).length)(G:e.length=w.2)(s:∀r∈e,RuOk (w::c) r)(q:∀d,(∀t∈d,K4 (w::c) t)->d.length<=100->R (.val (ntT (w::c) e d))) :
  xw { nx:=λm=>R (.val (.v .non)),rt:=vt R } (mN ns k (w::c) w.2 e):=by
 show{bg rfl,?_};show{rfl,ns,k+1,rfl,λx=>?_};have H:=i8 x (m:=7) (by decide);obtain⟨n,en,J⟩:∃n:Nat,x % 7=(n:Int)/\n<=6:={(x % 7).toNat,(),()};show{by change(0:Int) < 7;decide,by change(-1000000:Int)<=x % 7;lia,by change x % 7<=1000000;lia,?_};change gu _ _ _ _ (iz 0 (x % 7).toNat) _;rw[en,n9];show du (I:=λi m=>∃d z,m=mT ns k (w::c) w.2 e d z/\d.length=i/\∀t∈d,K4 (w::c) t) {[],LX,rfl,rfl,λr s=>nomatch s} ?_ ?_
 ·intro i j m N f g u;obtain⟨d,z,rfl,l,o⟩:=g;have hi:=b7 f;rw[bS]at hi;rw[cB hi]at f;cases f;show{rfl,ns,k+2+i,rfl,λy=>?_};show{rfl,y,rfl,λa b A C=>?_};show{rfl,by decide,by decide,?_};show Jr (x:=.lst (e.map Say.t)) (y:=.lst (d.map tI)) ok two rfl (λa b=>rfl) 4 0 [] a b A C rfl (λp v w h=>by simp at h) () λt a b L D=>?_;show{by change(d.map tI).length < 1000000;rw[aB];lia,?_};show u _ {d++[t],KE (uc a b),?_,by rw[aH,l];rfl,λr E=>?_}
  ·change _=({_,[LX,KE (.lst (e.map Say.t)),KE (.lst ((d++[t]).map tI)),KE (uc a b)]}:M);rw[bE];rfl
  ·rcases cS.mp E with z | z
   ·show o r z
   ·cases aZ.mp z;show{(),D}
 ·intro m g;obtain⟨d,z,rfl,l,o⟩:=g;rw[bS]at l;show{bg rfl,q d o ()}
def V6:Pm (V5) 8 4 2 (Ai):=by
 intro ds R L h;obtain⟨ns,k,rfl,hk,q⟩:=h;show{rfl,ns,k,rfl,λx=>?_};show{rfl,x,2,rfl,by decide,by decide,λu ok y A l2=>?_};obtain⟨w,a,rfl⟩:∃w a,u=w::a:=by
  cases u with
  |nil=>simp at l2
  |cons w a=>show#v[w,a,rfl]
 have O:=ok.cnt w aN;show ix0 ?_;show{bg rfl,by change(-1000000:Int)<=(w.2:Int);lia,by change(w.2:Int)<=1000000;lia,?_};change gu _ _ _ _ (iz 0 ((w.2:Int)).toNat) _;rw[n9];show du (I:=λi m=>∃b:List Say,m={[KE (.v (.scr (ns.map iT))),KE (.v (iT k)),KE (.v (spT (w::a))),KE (.v (iT w.2)),KE (.c 1),LX,LX,LX],[LX,KE (.lst (b.map Say.t)),LX,LX]}/\b.length=i/\∀r∈b,RuOk (w::a) r) {[],rfl,rfl,λr g=>nomatch g} ?_ ?_
 ·intro i j m N o p C;obtain⟨b,rfl,f,g⟩:=p;have hi:=b7 o;rw[bS]at hi;rw[cB hi]at o;cases o;show{rfl,.inl {by decide,by decide},.inl {by decide,by decide},?_};have D:au (ns.map iT) (KE ((k:Int)+8+7 * (i:Int))) (KE ((k:Int)+15+7 * (i:Int)))=(au ns (KE ((k+8+7 * i:Nat):Int)) (KE ((k+8+7 * i+7:Nat):Int))).map iT:=by
   rw[aim,show((k:Int)+8+7 * (i:Int))=((k+8+7 * i:Nat):Int)by lia,show((k:Int)+15+7 * (i:Int))=((k+8+7 * i+7:Nat):Int)by lia]
  show{rfl,_,w::a,0,MK (λz=>[Tr.lst z,spT (w::a),iT 0]) D,cut_7 ns _,ok,y,λs E Q hz=>?_};show{by change(b.map Say.t).length < 1000000;rw[aB];lia,?_};show C _ {b++[s],?_,by rw[aH,f];rfl,λr AQ=>?_}
  ·rw[bE];rfl
  ·rcases cS.mp AQ with z | z
   ·show g r z
   ·cases aZ.mp z;show{hz,E,()}
 ·intro m p;obtain⟨b,rfl,f,g⟩:=p;rw[bS]at f;have two:2<=(w::a).length:=();have fin:∀b:List Say,b.length=w.2->(∀r∈b,RuOk (w::a) r)->xw { nx:=λm=>R (.val (.v .non)),rt:=vt R } (mN ns k (w::a) w.2 b):=λb f g=>
   aeb ok two f g λG H J=>q _ b G {ok,two,by rw[ama];show A,λT e=>(by cases e;show f),g,H,J}
  by_cases c:(1:Int) < (w.2:Int)
  ·show ifY (MH c) ?_;show{rfl,ns,k+1,rfl,λx=>{by change(0:Int) < 4;decide,rfl,?_}};by_cases d:x % 4=1
   ·show sfY (MH (show V.int (x % 4)=V.int 1 by rw[d])) ?_;obtain⟨r0,n,l,rfl⟩:∃r0 n l,b=r0::n::l:=by
     match b,f with
     | [],f=>simp at f;lia
     | [_],f=>simp at f;lia
     |r0::n::l,_=>show#v[r0,n,l,rfl]
    show ix0 ?_;show ixN1 ?_;show fin (r0::r0::l) f λr AQ=>by
     rcases aU.mp AQ with rfl | AQ
     ·show g _ aN
     ·rcases aU.mp AQ with rfl | AQ
      ·show g _ aN
      ·show g r (aI _ (aI _ AQ))
   ·show sfN (MG λe=>d (V.int.inj e)) ?_;show jx ?_;show fin b f g
  ·show ifN (MG c) ?_;show ifN (c:=LZ) rfl ?_;show jx ?_;show fin b f g
end PB
namespace PB.N74
open PySem L2 VL Bits S1 PySem.Deep
def Jp:GS:=(aq (fk [2,3,4,5] (giL (aa 0)) (.tup [2,3]) (sIf (gT (gOp (eqG LZ) (gCB gc (gaE (c8 1 [1,2] (giR (gA1 (gCB gc (gaE (aa 1) gaN)))) (.one 0) (xh (gT (gOp (Bd LY) (gX (aa 2) (aa 0)) (gC (.v .non)))) (gT (gOp (eqG LY) (gX (aa 2) (aa 0)) (gX (aa 1) (aa 0))))) (aa 0)) gaN)) (gI 0))) (aq (jm 4 0 (gLst gaN)) (aq (fk [5] (giT (aa 3)) (.one 5) (fv (xk 4 (gCB n8 (gaE (c8 1 [5,1] (giR (gA1 (gCB gc (gaE (aa 1) gaN)))) (.one 0) cu (gX (gLst (gaV (gX (aa 1) (aa 0)) (gA1 (gX (aa 2) (aa 0))))) (gCB Uy (gaE (gOp (Bd LZ) (gX (aa 1) (aa 0)) (gC (.v .non))) gaN)))) gaN))))) (bh (Bf TupG.srtG (aa 4))))) dz)) (bh (gLst gaN)))
def f__law_by:Pm (Jp) 6 2 2 (Bw):=by
 intro ds R J h;obtain⟨l,T,rfl,D,g,a,q⟩:=h;have u:(l.map λn=>Tr.v (.int n)).length=l.length:=aB ..;show du (I:=λi m=>m={[KE (.v (cb T)),KE (.v (tI l)),LX,LX,LX,LX],[LX,LX]}/\due l (T.drop i)=due l T) #v[rfl,rfl] ?_ ?_
 ·intro i r m N hi b o;obtain⟨rfl,hd⟩:=b;obtain⟨ml,dl,dm⟩:=D r (aR hi);have s:=b7 hi;have E:T.drop i=r::T.drop (i+1):=by
   rw[dZ s];rw[aC s]at hi;cases hi;rfl
  rw[E,due]at hd;show{by change(-1000000:Int)<=((l.map λn=>Tr.v (.int n)).length:Int);lia,by change((l.map λn=>Tr.v (.int n)).length:Int)<=1000000;lia,?_};change df _ _ _ _ _ _ _ (iz 0 (((l.map λn=>Tr.v (.int n)).length:Int)).toNat) _ _;rw[u,n9];show jj (p:=Ac l r.m) (out:=λk:Nat=>iT k) rfl _ _ (by rw[bS];change 0+_<=_;lia) (λk hk Y Z f w=>?_) ?_
  ·have hk:=dN.mp hk;have g:l[k]?=KE l[k]:=aC hk;have a:r.m[k]?=KE r.m[k]:=aC ();have j:Ac l r.m k=(match KE r.m[k],KE l[k]with | some (KE v),KE x=>decide (v≠x) | _,_=>LZ):=by unfold Ac;rw[g,a]<;>rfl
   show ax (x:=eh r.m[k]) (bj (by rw[aL,a];rfl)) ?_;cases c:r.m[k]with
   |none=>
    rw[c]at j;show w j
   |some v=>
    rw[c]at j;show ax (x:=iT v) (bj (by rw[aL,a,c];rfl)) ?_;show ax (x:=iT l[k]) (bj (by rw[aL,g];rfl)) ?_;show{rfl,?_};by_cases d:v=l[k]
    ·show ifN (show(!decide (V.int v=V.int l[k]))=LZ by rw[d];simp) ?_;show w (by rw[j];show MG λz=>z d)
    ·show ifY (show(!decide (V.int v=V.int l[k]))=LY by rw[MG λz=>d (V.int.inj z)];rfl) ?_;show f (by rw[j];show MH d)
  ·show{rfl,?_};have y:([]++((bG l.length).filter (Ac l r.m)).map λk:Nat=>iT k).length=((bG l.length).filter (Ac l r.m)).length:=(by rw[bH,aB]);have A:=adl ml.symm;by_cases c:put l r.m=l
   ·rw[ME c]at hd;show sfY (MH (show V.int _=V.int 0 from MK V.int (show(((([]++((bG l.length).filter (Ac l r.m)).map λk:Nat=>iT k).length:Nat)):Int)=0 by rw[y,A.mpr c];rfl))) ?_;show{bg rfl,?_};show du (I:=λi m=>m={[KE (.v (cb T)),KE (.v (tI l)),KE (.v (fm r.m)),KE (.v (.tup (r.ds.map fm))),KE (.c 1),LX],[LX,KE (.lst ((r.ds.take i).map λd=>tI (put l d)))]}) rfl ?_ ?_
    ·intro i d m N hi b o;subst b;have s:=b7 hi;have e:=(dm d (aR hi)).symm;show{rfl,by change(-1000000:Int)<=((l.map λn=>Tr.v (.int n)).length:Int);lia,by change((l.map λn=>Tr.v (.int n)).length:Int)<=1000000;lia,?_};change df _ _ _ _ _ _ _ (iz 0 (((l.map λn=>Tr.v (.int n)).length:Int)).toNat) _ _;rw[u,n9];show cw (out:=λk:Nat=>iT ((put l d).getD k 0)) rfl _ _ (by rw[bS];change 0+_<=_;lia) (λk hk Y f=>?_) ?_
     ·have hk:=dN.mp hk;have g:l[k]?=KE l[k]:=aC hk;have a:d[k]?=KE d[k]:=aC ();rw[cI,N6 g a]at f;show ax (x:=eh d[k]) (bj (by rw[aL,a];rfl)) ?_;show ax (x:=iT l[k]) (bj (by rw[aL,g];rfl)) ?_;show{bg rfl,?_};show ax (x:=eh d[k]) (bj (by rw[aL,a];rfl)) ?_;cases c:d[k]with
      |none=>rw[c]at f;show f
      |some v=>rw[c]at f;show f
     ·have ep:([]++(bG l.length).map λk:Nat=>iT ((put l d).getD k 0))=(put l d).map λn=>Tr.v (.int n):=by
       rw[bH];show eZ λk=>?_;rw[aL,aL];by_cases hk:k < l.length
       ·have C:k < (put l d).length:=(by rw[yk e];show hk);rw[cB hk,aC C,rC,rC,cI,aC C];rfl
       ·rw[bU (by rw[bS];lia),bU (by rw[yk e];lia)];rfl
      rw[ep];show{by change((r.ds.take i).map λd=>tI (put l d)).length < 1000000;rw[aB,bN];lia,?_};show o _ ?_;rw[cU,hi];change _=({_,[LX,KE (.lst ((r.ds.take i++[d]).map λd=>tI (put l d)))]}:M);rw[bE];rfl
    ·intro m b;subst b;rw[cW];show{r.ds.map (put l),by rw[dO];rfl,by rw[aB];lia,λx G e=>?_,?_}
     ·obtain⟨d,H,rfl⟩:=dG.mp G;have:=yk (dm d H).symm;rw[e]at this;simp at this;lia
     ·rw[hd];show q
   ·rw[MF c]at hd;show sfN (MG λz=>c (A.mp (by have:=V.int.inj z;rw[y]at this;lia))) ?_;show jx ?_;show o _ #v[rfl,hd]
 ·intro m b;obtain⟨rfl,hd⟩:=b;rw[List.drop_length]at hd;show{bg rfl,?_};rw[<-hd]at q;show q
end PB.N74
namespace VL
open PySem L2
def Fo.void (F:Fd K mg x st ps f fd)(h:∀ds R,¬g ds R):Fo P w K mg base k x ps (spP #v[P,w,K] n g):=
 ⟨f,fd,⟨λvs H Q E a=>by obtain⟨_,_,_,_,_,_,_,z,_⟩:=a;show(h _ _ z).elim,λA outer s H args us vs Q E c e b r a=>by obtain⟨_,_,_,_,_,_,_,z,_⟩:=a;show(h _ _ z).elim⟩,F.at_,F.fn.kp,F.bd⟩
open PySem.Deep
open PyProof.Rows (envOfC)
def pb {a c:Type}{R S:a->c->Prop}{P:a->Prop}{b:List a}{ls:List c}(h:Paired R b ls)(d:∀x∈b,P x)(f:∀x l,P x->R x l->S x l):Paired S b ls:=by
 induction h with
 |nil=>show .nil
 |cons h t e=>show .cons (f _ _ (d _ aN) h) (e λx g=>d x (aI _ g))
def ni {a b:Type}{R:a->b->Prop}{c:List a}{ls:List b}(h:Paired R c ls){x:a}(hx:x∈c):∃l,R x l:=by
 induction h with
 |nil=>cases hx
 |cons h t d=>
  rcases aU.mp hx with rfl | hx
  ·show{_,h}
  ·show d hx
structure OwnL (b:B)(O W:Wd)(D:MA)(as:List MA)(ls:List (List Tr)):Prop where
 new:O.H D=LX
 out:W.F D=LX
 nc:∀j,W.C j≠KE D
 at_:W.H D=KE (.lst (as.map V.ref))
 nin:D ∉ as
 nd:as.Nodup
 inn:∀x∈as,O.H x=LX/\W.F x=LX/\∀j,W.C j≠KE x
 its:Paired (λx l=>∃xs,W.H x=KE (.lst xs)/\Rps b W.F xs l) as ls
def Aj (k:Nat)(fr:List Nat)(t:Tg)(f:GE)(loc:List (Option Wt))(Q:List (List Tr)->M->Prop):List Tr->List (List Tr)->List (Option Tr)->Prop
 | [],a,cel=>Q a #v[loc,cel]
 |d::ds,a,cel=>a.length < 1000000/\gTg t d {aT k LX++k9 loc fr,cel} λm2=>f m2 λb m4=>match b with
  | .new (.lst l)=>h8 m4.cel loc=LY/\Aj k fr t f loc Q ds (a++[l]) m4.cel
  |_=>False
def lfOw (b:B)(k:Nat)(fr:List Nat)(i:GI)(t:Tg)(f:GE):TE:=λc H Q=>∃W m R,W.H=H/\Rel b W m c/\(i m λds d=>Aj k fr t f d.loc R ds [] d.cel)/\∀ls e a D g,R ls e->Lx W a->Rel b a e c->OwnL b W a D g ls->Q (.ref D) a.H
def Oh {b:B}{k:Nat}{fr:List Nat}{i:GI}{t:Tg}{f:GE}{I:St}{H:Hp}{Q:VK}(ht:zi k t)(h:lfOw b k fr i t f I H Q):y3 k fr (lfI b i) (gOf b.K t) (lfT b cu) (lf b f) I H Q:=by
 obtain⟨W,m,R,hW,rel,h,q⟩:_:=h;show{W,m,_,hW,rel,h,λds U G J h1 l1 uT sq D hD=>?_};obtain⟨lD,GU,aD,eD,_,fD,cD,_⟩:_:=o7 (d:=.lst []) (o:=.lst []) uT.ok hD {[],bo,.nil};cases eD
 let P:Nat->List V->Hp->Prop:=λi ys r=>∃(W2:Wd)(s:List MA) (ls:List (List Tr)) (cel:List (Option Tr)),W2.H=r/\Lx G W2/\Rel b W2 #v[U.loc,cel] I/\ys=s.map V.ref/\OwnL b G W2 D s ls/\Aj k fr t f U.loc R (ds.drop i) ls cel
 have GV:∀(i n:Nat)(ys:List V) (r:Hp),(i+n=ds.length/\P i ys r)->
   r D=KE (.lst ys)/\((J.stop i r/\Q (.ref D) r)\/(J.go i r/\ys.length < sizeLine/\∃N:List V->Hp->Prop,(∀Y H',N Y H'->∃L,L < n/\(i+1+L=ds.length/\P (i+1) Y H'))/\∀x H3,J.yld i r x H3->Kx k fr (gOf b.K t) (lfT b cu) (lf b f) I D ys N x H3)):=by
  rintro i n ys r ⟨en,W2,s,ls,cel,rfl,l2,O,rfl,a,A⟩;show{a.at_,?_};obtain⟨st,go⟩:_:=sq W2.F W2.H l2.same O.ok.sub i;by_cases ci:i < ds.length
  ·have hd:ds[i]?=KE ds[i]:=aC ci;rw[dZ ci]at A;obtain⟨g1,g2⟩:_:=go _ hd;obtain⟨hz,A⟩:_:=A;show .inr {g1,by rw[aB,Paired.length a.its];show bO hz (by decide),P (i+1),λY H' z=>{n - 1,(),(),z},λx H3 hy=>?_};obtain⟨W3,e3,l3,vW,r3⟩:_:=qv (W2:=W2) O (g2 x H3 hy);subst e3;show vp (vW.inner k fr) r3 A λm4 σ4 h4 zU DZ EU=>{Ci DZ ht EU,W3,m4,λc L=>c=LY/\L=m4,rfl,zU,#v[rfl,rfl],λcc m5 W5 h5 l5 yO=>?_};obtain⟨rfl,rfl⟩:_:=h5;show{W5,m5,_,rfl,yO,h4,λev m6 u y T l6 zK r6=>?_};have BI:Lx W2 W5:=l3.trans l5;have w:Lx W2 u:=BI.trans l6;rcases ev with d | d | j
   ·show T.elim
   ·rcases d with _ | _ | l | _ | _ | _ | _<;>try show T.elim
    obtain⟨lv,h7⟩:_:=T;obtain⟨g,rfl,p0,p1,p2,xs,p3,p4⟩:_:=r6;obtain⟨k1,k2,k3⟩:_:=i5 w a.at_ a.out a.nc;have ro:=O.outer w zK lv;have old:∀c o,W2.H c=KE (.lst o)->W2.F c=LX->(∀j,W2.C j≠KE c)->g≠c:=λc o z1 z2 z3 e=>by
     have:=(i5 BI z1 z2 z3).1;rw[e,this]at p0;cases p0
    have bD:g≠D:=old D _ a.at_ a.out a.nc;have bas:g ∉ s:=λz=>by
     obtain⟨l',AE,E,_⟩:_:=ni a.its z;show old g _ E (a.inn g z).2.1 (a.inn g z).2.2 rfl
    obtain⟨l8,DC⟩:_:=ye (o:=.lst (s.map V.ref++[.ref g])) (l2.trans w) zK.ok hD k2 k3;show{k1,{u.F,upd u.H D (.lst (s.map V.ref++[.ref g])),u.C},s++[g],ls++[l],m6.cel,rfl,l8,#v[DC,ro.loc,ro.len],by rw[bE];rfl,{hD,k2,k3,by change upd u.H D _ D=_;rw[bo,bE];rfl,?_,?_,?_,?_},h7}
    ·intro z;rcases cS.mp z with z | z
     ·show a.nin z
     ·show bD (aZ.mp z).symm
    ·show List.nodup_append.mpr {a.nd,eJ.mpr {(λz=>nomatch z),fP},λx p y hy e=>by cases aZ.mp hy;show bas (e ▸ p)}
    ·intro x p;rcases cS.mp p with z | z
     ·obtain⟨l',AE,E,_⟩:_:=ni a.its z;obtain⟨q1,q2,q3⟩:_:=a.inn x z;show{q1,(i5 w E q2 q3).2.1,(i5 w E q2 q3).2.2}
     ·cases aZ.mp z;show{(l2.trans BI).dm g p0,p1,p2}
    ·show Paired.snoc (pb (P:=λx=>x≠D/\W2.F x=LX/\∀j,W2.C j≠KE x) a.its (λx p=>{λe=>a.nin (e ▸ p),(a.inn x p).2}) λx l' ⟨z1,z2,z3⟩ ⟨AE,E,e2⟩=>{AE,?_,e2.mono w.same}) {xs,?_,p4}
     ·change upd u.H D _ x=_;rw[ay z1];show(i5 w E z2 z3).1
     ·change upd u.H D _ g=_;rw[ay bD];show p3
   ·show T.elim
  ·rw[kQ ()]at A;show .inl {st (),q _ _ W2 _ s A (l1.trans l2) O {l1.dm D a.new,a.out,a.nc,a.at_,a.nin,a.nd,λx p=>{l1.dm x (a.inn x p).1,(a.inn x p).2},a.its}}
 show{_,{ds.length,(),{G.F,upd G.H D (.lst []),G.C},[],[],U.cel,rfl,lD,uT.lift lD (λ_=>rfl) GU,rfl,{hD,fD,cD,bo,(λz=>nomatch z),fP,(λx p=>nomatch p),.nil},h1},GV}
def Js (ok:Wok b W [])(f:Rps b W.F vs ds):Rel b W {locs N.length (vsW ds),aT nc LX} (L2.start N vs):=by
 have g:∀j,W.C j=LX:=λj=>by
  cases e:W.C j with
  |none=>rfl
  |some a=>obtain⟨d,hd⟩:=ok.live j a e;simp at hd
 show{{ok.sub,λj d h=>?_,λj a e=>(by rw[g]at e;cases e),λj k a e=>(by rw[g]at e;cases e)},λi u l=>?_,?_}
 ·rw[dJ]at h
  split at h<;>cases h
 ·have c:=G5 l;rw[aL]at c;rcases e:ds[i]? with _ | d
  ·rw[e]at c;cases c
  ·rw[e]at c;cases c;obtain⟨y,m,n⟩:=f.get e;show{y,D6 m,n}
 ·change(locs N.length (vsW ds)).length=_;rw[Bj];unfold locs;rw[aH,cA,aB,f.length]
abbrev GW:=List Tr->(List (List Tr)->Prop)->Prop
def spO (b:B)(n:Nat)(g:GW):Sp:=λvs H Q _=>vs.length=n/\∃W ds R,W.H=H/\Wok b W []/\Rps b W.F vs ds/\g ds R/\∀ls a D c,R ls->Le W a->(∀j,a.C j=LX)->Wok b a []->OwnL b W a D c ls->Q (.ref D) a.H
section
variable {P:aV}{w:bC}{K:aF}{mg:Str->Option aE}{base:MB}
def OwnL.cut (a:OwnL b W c D f ls)(l:Le O W):OwnL b O {c.F,c.H,λ_=>LX} D f ls:={l.dm D a.new,a.out,(λj e=>by cases e),a.at_,a.nin,a.nd,λx d=>{l.dm x (a.inn x d).1,(a.inn x d).2.1,λj e=>by cases e},a.its}
def amd {N ps:List Str}{k nc kk:Nat}{fr:List Nat}(F:Fun K x c st f fd)(S:fq N ps (bq st))(n:g6 st=[s1,o])(p:zi kk t)
  (r:∀(b:aE)(A:cG) (outer:List Env) (s:aK) (H:Hp) (E:XK),Room k (A.deeper (lW c (bq st) ‹s› f b))->VS (xb CX0 P w K mg base N c (bq st) f b A outer s H E).nox s1 g1/\PS (xb CX0 P w K mg base N c (bq st) f b A outer s H E).nox o (K7 (y3 kk fr (lfI #v[P,w,K] i) (gOf K t) (lfT #v[P,w,K] cu) (lf #v[P,w,K] u))))
  (y:∀ds R,ds.length=ps.length->z ds R->g1 { nx:=λm=>i m λds d=>Aj kk fr t u d.loc (λls _=>R ls) ds [] d.cel,rt:=λ_ _=>False } {locs N.length (vsW ds),aT nc LX}):FnOk P w K mg base CX0 (k+1) f fd ps (spO #v[P,w,K] ps.length z):=by
 show F.ok S (λvs H Q E h=>h.1) λb A outer s H vs Q E C h=>?_;obtain⟨G,W,ds,R,rfl,ok,g,I,q⟩:=h;obtain⟨J,L⟩:=r b A outer s W.H E C;show{qm (lfS #v[P,w,K] W g1) _,by rw[n];show gg (J.out W) (mi L),W,_,_,rfl,Le.refl W,Js (nc:=nc) ok g,y ds R (by rw[<-g.length];show G) I,λO T U h l s' rel=>?_,(λ_ _ _ _ _ h=>h.elim),(λ_ _ _ h=>h.elim),λ_ _ _ h=>h.elim};show Oh p {T,O,_,rfl,rel,h,λls m2 W2 D Y hR l2 uU ow=>?_};show q ls {W2.F,W2.H,λ_=>LX} D Y hR ((l.trans l2.toLe).cut λj a e=>(by cases e)) (λ_=>rfl) uU.ok.cut (ow.cut l)
open Classical in
noncomputable def d6 (F H:Hp)(a:List MA):Hp:=λc=>if c∈a then H c else F c
def ix (h:c∈a):d6 F H a c=H c:=by unfold d6;rw[ME h]
def ji (h:c ∉ a):d6 F H a c=F c:=by unfold d6;rw[MF h]
def yp (hs:Same F (d6 F H bs))(h:Paired (λx l=>∃xs,H x=KE (.lst xs)/\Rps b F xs l) a ls)(c:∀x∈a,x∈bs):Rps b (d6 F H bs) (a.map V.ref) (ls.map Tr.lst):=by
 induction h with
 |nil=>show .nil
 |cons h t d=>
  obtain⟨xs,e,f⟩:=h;show .cons (.lst (by rw[ix (c _ aN)];show e) (f.mono hs)) (d λx g=>c x (aI _ g))
def Zs (p:Wok b O [])(l:Le O W)(r:∀j,W.C j=LX)(ok:Wok b W [])(g:OwnL b O W D f ls):∃i,i.H=W.H/\Le O i/\(∀j,i.C j=LX)/\Wok b i []/\Rev b O i (.ref D) (.new (.lst (ls.map .lst))):=by
 have hs:Same W.F (d6 W.F W.H f):=λc o e=>by
  by_cases h:c∈f
  ·rw[(g.inn c h).2.1]at e;cases e
  ·rw[ji h];show e
 have sub:Same (d6 W.F W.H f) W.H:=λc o e=>by
  by_cases h:c∈f
  ·rw[ix h]at e;show e
  ·rw[ji h]at e;show ok.sub c o e
 show{{d6 W.F W.H f,W.H,λ_=>LX},rfl,{λc o e=>hs c o (l.same c o e),l.fr,λc e n=>?_,(λj a e=>by cases e),l.dm},λ_=>rfl,{sub,(λj d h=>by simp at h),(λj a e=>by cases e),(λj k a e=>by cases e)},D,rfl,g.new,?_,(λj e=>by cases e),f.map V.ref,g.at_,yp hs g.its λx q=>q}
 ·by_cases h:c∈f
  ·show .inl (g.inn c h).1
  ·have m:d6 W.F W.H f c≠LX:=n;rw[ji h]at m;show l.nw c e m
 ·change d6 W.F W.H f D=LX;rw[ji g.nin];show g.out
def Fo.plain (F:Fo P w K mg base k x ps (spO #v[P,w,K] n g)):Fo P w K mg base k x ps (spP #v[P,w,K] n λds R=>g ds λls=>R (.new (.lst (ls.map .lst)))):=by
 obtain⟨f,fd,F,a,b,c⟩:=F;show{f,fd,F.imp λvs H Q E e=>?_,a,b,c};obtain⟨h,W,ds,R,i,d,j,m,h5⟩:=e;show{h,W,ds,_,i,d,j,m,λls y D z hR l o ok p=>?_};obtain⟨W2,q,l2,r,s,u⟩:=Zs d l o ok p;rw[<-q];show h5 _ W2 _ hR l2 r s u
end
end VL
namespace PB.N74
open PySem L2 VL Bits S1 PySem.Deep
structure TabS (ws:List (Str×Nat))(s:Say)(T:List Row):Prop where
 ok:TabOk ws.length T
 got:Gets (dq ws s) ws.length (ub (dq ws s)) T
 fin:T=[]\/iu (dq ws s) ws.length T=T
theorem TabS.one (h:TabS a s T)(k:TabS a s U):T=U:=by
 have z:∀U:List Row,(U=[]\/iu (dq a s) a.length U=U)->iu (dq a s) a.length U=U:=λU h=>by
  rcases h with rfl | h
  ·rfl
  ·show h
 show Gets.one h.got (z T h.fin) k.got (z U k.fin)
abbrev tbF:GE:=Zo 2 z7 (gaV (gOp ixG (aa 1) (gC (.v (.int 0)))) (gaV (aa 0) gaN))
def g_tables_of:GW:=λds R=>∃a b c,ds=[ntT a b c]/\Ag a b c/\∀d:List (List Row),Paired (TabS a) b d->R (d.map λT=>T.map cj)
theorem Jt (ok:SpOk a)(few:(LL a).length<=24):∀b c,(∀r∈b,r.size<=100/\r.good a/\r.nts=0)->c.length+b.length<=1000000->
  (∀d:List (List Row),Paired (TabS a) b d->Q (c++d.map λT=>T.map cj) {[KE (.v (ntT a e g))],[LX]})->Aj 1 [0] (.one 0) tbF [KE (.v (ntT a e g))] Q (b.map Say.t) c [LX]
 | [],c,_,_,q=>by have:=q [] .nil;rw[gW,bY]at this;show this
 |s::b,c,f,hz,q=>by
  rw[bA]at hz;obtain⟨o,h,i⟩:=f s aN;show{(),?_};show{rfl,by change immL [spT a,s.t]=LY;rw[immL,immL,immL,Zr,yo];rfl,a,s,rfl,ok,(),h,i,(),λT j gT l=>{nh Tf T,rfl,?_}};show Jt ok few b (c++[T.map cj]) (λr m=>f r (aI _ m)) (by rw[aH,cK];lia) λd n=>?_;have:=q (T::d) (.cons #v[j,gT,l] n);rw[bB]at this;rw[dD];show this
def f_tables_of (ds:List Tr)(R:List (List Tr)->Prop)(i:ds.length=1)(h:g_tables_of ds R):fv (ar 1 Ah (gaV (aa 0) gaN)) { nx:=λm=>giT (gOp ixG (aa 0) (gC (.v (.int 1)))) m λds b=>Aj 1 [0] (.one 0) tbF b.loc (λls _=>R ls) ds [] b.cel,rt:=λ_ _=>False } {locs 1 (vsW ds),aT 1 LX}:=by
 obtain⟨c,d,e,rfl,ok,q⟩:=h;obtain⟨w,a,rfl⟩:∃w a,c=w::a:=by
  have:=ok.two;cases c with
  |nil=>simp at this
  |cons w a=>show#v[w,a,rfl]
 have j:=ok.many w rfl;have l:=ok.sp.cnt w aN;show{rfl,w::a,d,e,rfl,ok,?_};show Jt ok.sp ok.few d [] ok.rule (by change 0+_<=_;lia) λf g=>?_;rw[bH];show q f g
def O0:Wd:={λ_=>LX,λ_=>LX,λ_=>LX}
def le0 (h:∀j,W.C j=LX):Le O0 W:={(λ_ _ e=>by cases e),(λ_ _ e=>by cases e),λ_ _ _=>.inl rfl,(λj a e=>by rw[h]at e;cases e),λ_ _=>rfl}
def RL (b:B)(F H:Hp)(x:MA)(l:List Tr):Prop:=∃xs,H x=KE (.lst xs)/\Rps b F xs l
def snap (i0:∀c o,a c=KE o->imm o)(sub:Same a H)(b:∀c∈bs,∃xs,H c=KE (.lst xs)):Same a (d6 a H bs)/\Same (d6 a H bs) H:=by
 constructor
 ·intro c o e;by_cases h:c∈bs
  ·obtain⟨xs,d⟩:=b c h;have:=sub c o e;rw[d]at this;cases this;show(i0 c _ e).elim
  ·rw[ji h];show e
 ·intro c o e;by_cases h:c∈bs
  ·rw[ix h]at e;show e
  ·rw[ji h]at e;show sub c o e
def xx (h:Paired (RL b F H) c ls)(n:x ∉ c):Paired (RL b F (upd H x o)) c ls:=
 pb (P:=λy=>y≠x) h (λy a e=>n (e ▸ a)) λy l a d=>by obtain⟨xs,f,g⟩:=d;show{xs,by rw[ay a];show f,g}
theorem Fv:∀{c ls i},Paired (RL b F H) c ls->c.Nodup->c[i]?=KE x->Paired (RL b F (upd H x (.lst []))) c (ls.set i [])
 |_,_,i,.nil,_,e=>by simp at e
 |_,_,0,.cons h t,nd,e=>by
  simp at e;subst e;show .cons {[],bo,.nil} (xx t (eJ.mp nd).1)
 |a::c,l::ls,i+1,.cons h t,nd,e=>by
  have d:c[i]?=KE x:=(by simpa using e);have ne:a≠x:=λz=>(eJ.mp nd).1 (z ▸ aR d);obtain⟨xs,f,g⟩:=h;show .cons {xs,by rw[ay ne];show f,g} (Fv t (eJ.mp nd).2 d)
abbrev rows (Ts:List (List Row)):List (List Tr):=Ts.map λT=>T.map cj
structure Kept (b:B)(F0 H:Hp)(σ:St)(v:V)(D5:MA)(xT:List MA)(ws:List (Str×Nat))(rs:List Say)(ts:List (List Int))(Ts:List (List Row)):Prop where
 i0:∀c o,F0 c=KE o->imm o
 sub:Same F0 H
 net:Rp b F0 v (ntT ws rs ts)
 s1:σ[1]?=KE (KE v)
 s7:σ[7]?=KE (KE (.ref D5))
 len:σ.length=9
 h5:H D5=KE (.lst (xT.map V.ref))
 cpy:Paired (RL b F0 H) xT (rows Ts)
def vb (a:List (List Row)):(rows a).map Tr.lst=a.map cb:=by rw[dO];rfl
def Oi (n:Nat)(a b:List (List Row)):cmpL (n+4) (a.map cb) (b.map cb)=LY:=u7 (f:=cb) (λT U=>(show gr (n+4) (cb T) (cb U)=LY from u7 (S6 n) T U)) a b
def Ht (h:Paired (RL b F H) a ls):∀c∈a,∃xs,H c=KE (.lst xs):=λc d=>by
 obtain⟨l,xs,e,_⟩:=ni h d;show#v[xs,e]
def Oj:GP:=λds R=>g_tables_of ds λls=>R (.new (.lst (ls.map .lst)))
abbrev g8:GE:=gOp (eqG LZ) (ar 1 Oj (gaV (aa 1) gaN)) (aa 7)
def law8 (k:Kept b s H A v f l m n o p)(ok:Ag m n o)(C:Paired (TabS m) n p)(q:∀H',D.rt (.bl LY) H'):K7 (lf b g8) D A H:=by
 obtain⟨sa,u⟩:=snap (bs:=f::l) k.i0 k.sub λc hc=>by
  rcases aU.mp hc with rfl | hc
  ·show{_,k.h5}
  ·show Ht k.cpy c hc
 show{{d6 s H (f::l),H,λ_=>LX},{[LX,KE (.v (ntT m n o)),LX,LX,LX,LX,LX,KE (.v (.lst (p.map cb))),LX],[LX]},λy _=>y=.val (.v (.bl LY)),rfl,{{u,λj d h=>?_,(λj a e=>by cases e),(λj k a e=>by cases e)},λi w hw=>?_,by rw[k.len];rfl},?_,λy J L x e _ _ r=>?_}
 ·cases j with
  |zero=>cases h
  |succ j=>simp at h
 ·match i,hw with
  |1,hw=>cases hw;show{v,k.s1,k.net.mono sa}
  |7,hw=>
   cases hw;show{_,k.s7,.lst (by change d6 s H (f::l) f=_;rw[ix aN];show k.h5) ?_};have:=yp (bs:=f::l) sa k.cpy λx E=>aI _ E;rw[vb]at this;show this
  |0,hw | 2,hw | 3,hw | 4,hw | 5,hw | 6,hw | 8,hw=>cases hw
  |i+9,hw=>simp at hw
 ·show{rfl,m,n,o,rfl,ok,λg z=>?_};have e:g=p:=by
   clear k sa u q ok
   induction C generalizing g with
   |nil=>cases z;rfl
   |cons h t G=>
    cases z with
    |cons h' t'=>rw[h'.one h,G _ t']
  subst e;have I:cmpL 39 ((rows g).map Tr.lst) (g.map cb)=LY:=(by rw[vb];show Oi 35 _ _);show{I,λc hc=>?_};have e:c=LY:=hc.mpr (vb g);subst e;rfl
 ·subst e;obtain⟨rfl,_⟩:=Rp.vI r;show q _
abbrev rLen (K:aF):List V->Hp->VK->Prop:=λxs H Q=>∃p ys,xs=[.ref p]/\(SqL K H p ys\/SqT K H p ys)/\Q (.int ys.length) H
abbrev RF:TS:=K7 (tC (.bl LZ))
abbrev T7 (K:aF):TS:=Tj (tBM0 K "list" Ll (yw 3))
abbrev gt6:GT:=gT (gOp (eqG LY) (gSl (aa 3) (goS (gOp bz (aa 8) (gC (.v (.int 1))))) goN) (gSl (aa 7) (goS (gOp bz (aa 8) (gC (.v (.int 1))))) goN))
abbrev T6 (b:B):TS:=Z0 (aed (Kv (tCB (rLen b.K) (Kv (yw 3) T9)) T9)) (uf 8) (qm (Tj (tBM0 b.K "list" Ll (tOp (rIxL b.K) (yw 3) (yw 8)))) (Di (lfT b gt6) RF yx))
structure Wipe (b:B)(F0 H:Hp)(σ:St)(v:V)(D D5:MA)(as xT:List MA)(ws:List (Str×Nat))(rs:List Say)(ts:List (List Int))(Ts:List (List Row))(i:Nat):Prop extends Kept b F0 H σ v D5 xT ws rs ts Ts where
 s3:σ[3]?=KE (KE (.ref D))
 hD:H D=KE (.lst (as.map V.ref))
 nd:as.Nodup
 d1:D ∉ as
 d2:D ∉ xT
 d3:D≠D5
 d4:D5 ∉ as
 d5:∀x∈as,x ∉ xT
 now:Paired (RL b F0 H) as (aT i []++rows (Ts.drop i))
def Wipe.keep (k:Wipe b F0 H σ v D D5 as xT ws rs ts Ts i)(sub:Same F0 H')(h:∀c∈D::D5::(as++xT),∀o,H c=KE o->H' c=KE o):Wipe b F0 H' σ v D D5 as xT ws rs ts Ts i where
 i0:=k.i0
 sub:=sub
 net:=k.net
 s1:=k.s1
 s7:=k.s7
 len:=k.len
 h5:=h D5 (aI _ aN) _ k.h5
 cpy:=pb (P:=λx=>x∈xT) k.cpy (λx hx=>hx) λx l hx uW=>by obtain⟨xs,e1,e2⟩:=uW;show{xs,h x (aI _ (aI _ (bQ _ hx))) _ e1,e2}
 s3:=k.s3
 hD:=h D aN _ k.hD
 nd:=k.nd
 d1:=k.d1
 d2:=k.d2
 d3:=k.d3
 d4:=k.d4
 d5:=k.d5
 now:=pb (P:=λx=>x∈as) k.now (λx hx=>hx) λx l hx uW=>by obtain⟨xs,e1,e2⟩:=uW;show{xs,h x (aI _ (aI _ (dS _ hx))) _ e1,e2}
def Zt {a:List (List Row)}(hi:i < a.length):(aT i []++rows (a.drop i)).set i []=aT (i+1) []++rows (a.drop (i+1)):=by
 rw[dZ hi];change(aT i []++(a[i].map cj::rows (a.drop (i+1)))).set i []=_;rw[List.set_append_right _ _ (by rw[cA];show aJ _),cA,tH,List.set_cons_zero,List.replicate_succ',dD];rfl
def Ol (l:List a)(i:Nat)(h:i < l.length):au l (KE ((i:Int)+1)) LX=l.drop (i+1):=by
 rw[show((i:Int)+1)=((i+1:Nat):Int)by lia];show me l (i+1) ()
def ain (k:Wipe b p H r v D g m n z A C f (i+1))(hi:i < f.length)(G:r[8]?=KE (KE (.int i)))(q:∀H',Wipe b p H' r v D g m n z A C f (i+1)->E.nx r H'):Di (lfT b gt6) RF yx E r H:=by
 have I:∀c∈D::g::(m++n),∃xs,H c=KE (.lst xs):=λc hc=>by
  rcases aU.mp hc with rfl | hc
  ·show{_,k.hD}
  rcases aU.mp hc with rfl | hc
  ·show{_,k.h5}
  rcases cS.mp hc with hc | hc
  ·show Ht k.now c hc
  ·show Ht k.cpy c hc
 obtain⟨sa,J⟩:_:=snap (bs:=D::g::(m++n)) k.i0 k.sub I;have N:(aT (i+1) (Tr.lst [])++(f.drop (i+1)).map cb).length=f.length:=(by rw[aH,cA,aB,dC];omega);show{{d6 p H (D::g::(m++n)),H,λ_=>LX},{[LX,LX,LX,KE (.v (.lst (aT (i+1) (.lst [])++(f.drop (i+1)).map cb))),LX,LX,LX,KE (.v (.lst (f.map cb))),KE (.v (.v (.int i)))],[LX]},λc _=>c=LZ,rfl,{{J,λj d h=>?_,(λj a e=>by cases e),(λj k a e=>by cases e)},λj w hw=>?_,by rw[k.len];rfl},?_,λc O Q e l rel=>?_}
 ·cases j with
  |zero=>cases h
  |succ j=>simp at h
 ·match j,hw with
  |3,hw=>
   cases hw;show{_,k.s3,.lst (by change d6 p H _ D=_;rw[ix aN];show k.hD) ?_};have:=yp (bs:=D::g::(m++n)) sa k.now λx s=>aI _ (aI _ (dS _ s));rw[bE,List.map_replicate,vb]at this;show this
  |7,hw=>
   cases hw;show{_,k.s7,.lst (by change d6 p H _ g=_;rw[ix (aI _ aN)];show k.h5) ?_};have:=yp (bs:=D::g::(m++n)) sa k.cpy λx s=>aI _ (aI _ (bQ _ s));rw[vb]at this;show this
  |8,hw=>cases hw;show{_,G,.v rfl}
  |0,hw | 1,hw | 2,hw | 4,hw | 5,hw | 6,hw=>cases hw
  |j+9,hw=>simp at hw
 ·have u:au (aT (i+1) (Tr.lst [])++(f.drop (i+1)).map cb) (KE ((i:Int)+1)) LX=(f.drop (i+1)).map cb:=by
   rw[Ol _ _ (),List.drop_append_of_le_length (by rw[cA];show aJ _),List.drop_of_length_le (by rw[cA];show aJ _),bH]
  have y:au (f.map cb) (KE ((i:Int)+1)) LX=(f.drop (i+1)).map cb:=(by rw[Ol _ _ (by rw[aB];show hi),lH]);have L:cmpL 39 (au (aT (i+1) (Tr.lst [])++(f.drop (i+1)).map cb) (KE ((i:Int)+1)) LX) (au (f.map cb) (KE ((i:Int)+1)) LX)=LY:=(by rw[u,y];show Oi 35 _ _);show{L,λc hc=>?_};have e:c=LY:=hc.mpr (u.trans y.symm);subst e;rfl
 ·subst e;show q _ (k.keep (λc o e=>rel.ok.sub c o (l.same c o (sa c o e))) λc hc o e=>rel.ok.sub c o (l.same c o (by change d6 p H _ c=_;rw[ix hc];show e)))
def Wipe.setk (k:Wipe b a H c v D d e f g h j l i)(x:V):Wipe b a H (c.set 8 (KE x)) v D d e f g h j l i:=
 { k with s1:=by rw[bM (by decide)];show k.s1,s7:=by rw[bM (by decide)];show k.s7,s3:=by rw[bM (by decide)];show k.s3,len:=by rw[dY];show k.len }
def Th (i0:∀c o,a c=KE o->imm o)(sub:Same a H)(b:H x=KE (.lst xs)):Same a (upd H x o):=λc u e=>by
 by_cases h:c=x
 ·subst h;have:=sub c u e;rw[b]at this;cases this;show(i0 c _ e).elim
 ·rw[ay h];show sub c u e
def law6 (k:Wipe b n H f v D h c o p r s d 0)(hz:d.length<=1000)(q:∀g H',Wipe b n H' g v D h c o p r s d d.length->E.nx g H'):T6 b E f H:=by
 have C:c.length=d.length:=by
  have:=Paired.length k.now;rw[List.replicate_zero,bH,aB,mM]at this;show this
 show{_,k.s3,D,c.map V.ref,rfl,.inl (SqL.of k.hD),_,rfl,by rw[aB];lia,by rw[aB];lia,?_};rw[aB,C,bV];show{λi m f H=>i+m=d.length/\Wipe b n H f v D h c o p r s d i,{d.length,(),k},?_};intro i m f H u;obtain⟨e,k⟩:=u;by_cases hi:i < d.length
 ·show .inr {hi,λf H=>Wipe b n H f v D h c o p r s d (i+1),λg H' w=>{m - 1,(),(),w},?_};intro x H' u;obtain⟨rfl,rfl⟩:=u;have ex:c[i]?=KE c[i]:=aC ();have j:=aR ex;obtain⟨l,xs,y,_⟩:=ni k.now j;have a:=k.setk (.int (0+(i:Int)));have A:(f.set 8 (KE (.int (0+(i:Int)))))[8]?=KE (KE (.int (i:Int))):=(by rw[cM (by rw[k.len];decide),Int.zero_add]);show{_,a.s3,_,A,D,c.map V.ref,_,.ref c[i],rfl,rfl,SqL.of a.hD,bj (by rw[aL,ex];rfl),.inl {rfl,_,SqL.of y},c[i],xs,rfl,rfl,y,?_};show ain (i:=i) { a with sub:=Th a.i0 a.sub y,h5:=?_,cpy:=xx a.cpy (a.d5 _ j),hD:=?_,now:=?_ } hi A λH' w=>w
  ·rw[ay (show h≠c[i]from λz=>a.d4 (z ▸ j))];show a.h5
  ·rw[ay (show D≠c[i]from λz=>a.d1 (z ▸ j))];show a.hD
  ·rw[<-Zt hi];show Fv a.now a.nd ex
 ·have G:i=d.length:=();subst G;show .inl {aJ _,q f H k}
def law7 (k:Wipe b c H a v D d l e f g h j i)(q:∀H',Kept b c H' a v d e f g h j->E.nx a H'):T7 b.K E a H:=
 ⟨_,k.s3,.inl {rfl,_,SqL.of k.hD},D,_,rfl,rfl,k.hD,q _ { k.toKept with sub:=Th k.i0 k.sub k.hD,h5:=by rw[ay (Ne.symm k.d3)];show k.h5,cpy:=xx k.cpy k.d2 }⟩
def Fw {b a:Type}{R S:b->a->Prop}{P:a->Prop}{c:List b}{ls:List a}(h:Paired R c ls)(d:∀l∈ls,P l)(f:∀x l,P l->R x l->S x l):Paired S c ls:=by
 induction h with
 |nil=>show .nil
 |cons h t e=>show .cons (f _ _ (d _ aN) h) (e λx g=>d x (aI _ g))
def Om (a:List (List Row)):∀l∈rows a,immL l=LY:=λl b=>by
 obtain⟨T,_,rfl⟩:=dG.mp b;show nh Tf T
def aio (c:List (Str×Nat))(a:List Say)(b:List (List Int)):fg (ntT c a b)=LY:=by
 change fg (.tup [spT c,rsT a,.tup (b.map tI)])=LY;rw[fg,immL,immL,immL,immL,Zr];change(LY && (fg (.tup (a.map Say.t)) && (fg (.tup (b.map tI)) && LY)))=LY;rw[fg,fg,nh yo,nh amc];rfl
abbrev lsF:GE:=gCB Uz (gaE (aa 0) gaN)
theorem Fx (c:h8 [LX] loc=LY):∀b a,a.length+b.length<=1000000->Q (a++rows b) {loc,[LX]}->Aj 1 [] (.one 0) lsF loc Q (b.map cb) a [LX]
 | [],a,_,q=>by have:=q;rw[show rows []=[]from rfl,bY]at this;show this
 |T::b,a,hz,q=>by
  rw[bA]at hz;show{(),c,?_};show Fx c b (a++[T.map cj]) (by rw[aH,cK];lia) ?_;rw[dD];show q
structure Pre5 (b:B)(W:Wd)(σ:St)(v:V)(D:MA)(as:List MA)(ws:List (Str×Nat))(rs:List Say)(ts:List (List Int))(Ts:List (List Row)):Prop where
 rel:Rel b W {[LX,KE (.v (ntT ws rs ts)),LX,KE (.v (.lst (Ts.map cb))),LX,LX,LX,LX,LX],[LX]} σ
 s1:σ[1]?=KE (KE v)
 net:Rp b W.F v (ntT ws rs ts)
 s3:σ[3]?=KE (KE (.ref D))
 fD:W.F D=KE (.lst (as.map V.ref))
 its:Paired (RL b W.F W.F) as (rows Ts)
 nd:as.Nodup
 d1:D ∉ as
abbrev T5 (b:B):TS:=λE σ H=>y3 1 [] (lfI b (giL (aa 3))) (gOf b.K (.one 0)) (lfT b cu) (lf b lsF) σ H λx H1=>E.nx (σ.set 7 (KE x)) H1
def law5 {a:List (List Row)}{E:Au}(k:Pre5 b W r v D C s u w a)(hz:a.length<=1000)(q:∀G h i g H',Wipe b G H' g v D h C i s u w a 0->E.nx g H'):T5 b E r W.H:=by
 show Oh (show 0 < 1 from cE) {W,_,λls _=>ls=rows a,rfl,k.rel,Fx rfl a [] (by change 0+_<=_;lia) (bH _),λls L y h i e l rel f=>?_};subst e;have up:∀c o,W.F c=KE o->y.H c=KE o:=λc o e=>rel.ok.sub c o (l.same c o e);have old:∀c o,W.F c=KE o->W.H c=KE o:=λc o e=>k.rel.ok.sub c o e;have I:=k.rel.len;have A:r.length=9:=I.symm;show q (i9 y.F) h i _ _ { i0:=λc o e=>Ad e,sub:=λc o e=>rel.ok.sub c o (va _ c o e),net:=(k.net.mono l.same).imm (aio s u w),s1:=by rw[bM (by decide)];show k.s1,s7:=cM (by rw[A];decide),len:=by rw[dY];show A,h5:=f.at_,cpy:=Fw f.its (Om a) λx j m n=>by obtain⟨xs,d,p⟩:=n;show{xs,d,p.imm m},s3:=by rw[bM (by decide)];show k.s3,hD:=up _ _ k.fD,nd:=k.nd,d1:=k.d1,d2:=λz=>?_,d3:=λz=>?_,d4:=λz=>?_,d5:=λx J z=>?_,now:=?_ }
 ·have:=(f.inn D z).1;rw[old _ _ k.fD]at this;cases this
 ·have:=f.new;rw[<-z,old _ _ k.fD]at this;cases this
 ·obtain⟨j,xs,d,_⟩:=ni k.its z;have:=f.new;rw[old _ _ d]at this;cases this
 ·obtain⟨j,xs,d,_⟩:=ni k.its J;have:=(f.inn x z).1;rw[old _ _ d]at this;cases this
 ·rw[List.replicate_zero,bH,mM];show Fw k.its (Om a) λx j m n=>by obtain⟨xs,d,p⟩:=n;show{xs,up _ _ d,(p.mono l.same).imm m}
abbrev gi4:GI:=giZM (gaV (aa 3) (gaV (gOp ixG (aa 1) (gC (.v (.int 1)))) gaN))
abbrev ga4:GE:=ar 3 g__law_step (gaV (gOp ixG (aa 1) (gC (.v (.int 0)))) (gaV (aa 2) (gaV (aa 5) gaN)))
abbrev gb4:GT:=gOr (Gv (j6 (gIsi "list" (aa 4)))) (gT (gOp (ff λi j=>.bl (decide (j < i))) (gCB gc (gaE (aa 4) gaN)) (gCB gc (gaE (aa 2) gaN))))
abbrev gc4:GT:=gOr (Gv (j6 (ar 2 oh (gaV (aa 4) (gaV (aa 6) gaN))))) (Gv (j6 (ar 2 wj (gaV (aa 4) (gaV (aa 6) gaN)))))
abbrev T4 (b:B):TS:=Z0 (lfI b gi4) (gOf b.K (.tup [4,5])) (qm (K9 (lf b ga4) (uf 6)) (qm (Di (lfT b gb4) RF yx) (Di (lfT b gc4) RF yx)))
abbrev m4 (ws:List (Str×Nat))(rs:List Say)(ts:List (List Int))(Ts:List (List Row))(a5 b5 c5:Option Wt):M:={[LX,KE (.v (ntT ws rs ts)),KE (.v (ltT (LL ws))),KE (.v (.lst (Ts.map cb))),a5,b5,c5,LX,LX],[LX]}
structure Hu (b:B)(W:Wd)(σ:St)(v:V)(D:MA)(ws:List (Str×Nat))(rs:List Say)(ts:List (List Int))(Ts:List (List Row)):Prop where
 rel:Rel b W (m4 ws rs ts Ts LX LX LX) σ
 s1:σ[1]?=KE (KE v)
 s3:σ[3]?=KE (KE (.ref D))
def amg {a b:Type}{f:a->Tr}{g:b->Tr}{xs:List a}{ys:List b}{i:Nat}{x:a}{y:b}(c:xs[i]?=KE x)(d:ys[i]?=KE y):(prs (xs.map f) (ys.map g))[i]?=KE (.tup [f x,g y]):=by
 unfold prs;rw[nU,aL,aL,c,d];rfl
theorem lj:∀{a:List b}{ls:List f}{i:Nat}{x:b},Paired R a ls->a[i]?=KE x->∃l,ls[i]?=KE l/\R x l
 |_,_,i,_,.nil,e=>by simp at e
 |_,_,0,_,.cons h t,e=>by simp at e;subst e;show{_,by simp,h}
 |_,_,i+1,_,.cons h t,e=>by
  obtain⟨l,c,d⟩:=lj (i:=i) t (by simpa using e);show{l,by simpa using c,d}
def law4 {b:B}{W:Wd}{n:St}{v:V}{D:MA}{a:List (Str×Nat)}{f:List Say}{j:List (List Int)}{g:List (List Row)}{E:Au}(k:Hu b W n v D a f j g)(ok:Ag a f j)(Y:Paired (TabS a) f g)(q:∀z o,Lx W z->Hu b z o v D a f j g->E.nx o z.H):T4 b E n W.H:=by
 have lt:f.length=g.length:=Paired.length Y;show{W,_,λds m=>ds=prs (g.map cb) (f.map Say.t)/\m=m4 a f j g LX LX LX,rfl,k.rel,#v[rfl,rfl],λds m' A J C l1 uT sq=>?_};obtain⟨e1,e2⟩:=C;subst e1 e2;have pl:(prs (g.map cb) (f.map Say.t)).length=f.length:=by rw[Cg,aB,aB];lia
 let P:St->Hp->Prop:=λn H=>∃W2,W2.H=H/\Lx A W2/\Hu b W2 n v D a f j g
 show{λi m n H=>i+m=f.length/\P n H,{f.length,(),A,rfl,Lx.refl A,#v[uT,k.s1,k.s3]},?_};intro i m n _ uY;obtain⟨e,W2,rfl,l2,p⟩:=uY;obtain⟨st,go⟩:=sq W2.F W2.H l2.same p.rel.ok.sub i;by_cases hi:i < f.length
 ·have G:f[i]?=KE f[i]:=aC hi;obtain⟨T,eT,r⟩:=lj Y G;obtain⟨g1,g2⟩:=go _ (amg eT G);show .inr {g1,P,λo H' h=>{m - 1,(),(),h},λx H3 hy=>?_};obtain⟨W3,e3,l3,vW,r3⟩:=qv (W2:=W2) p.rel (g2 x H3 hy);subst e3;obtain⟨h1,h2,h3⟩:=ok.rule _ (aR G);generalize f[i]=s at *;show vp (t:=.tup [4,5]) (Q:=λm=>m=m4 a f j g (KE (.v (cb T))) (KE (.v s.t)) LX) vW r3 rfl λm5 l e5 yO hl5 LW=>?_;subst e5;have t1:l[1]?=KE (KE v):=(by rw[LW 1 (by change ¬_∈[4,5];decide)];show p.s1);have t3:l[3]?=KE (KE (.ref D)):=(by rw[LW 3 (by change ¬_∈[4,5];decide)];show p.s3);have u:=ado r.got (adm a s);have tlen:=adp r.got;have t0:(ub (dq a s)).length=(LL a).length:=(by unfold ub dq;rw[aB,aB]);show{W3,_,λev m=>ev=.new (gm (LL a) (ak a s))/\m=m4 a f j g (KE (.v (cb T))) (KE (.v s.t)) LX,rfl,yO,#v[rfl,a,s,rfl,ok.sp,ok.few,h2,h3,h1,rfl,rfl],λev m6 W6 y C l6 zK r6=>?_};obtain⟨e6,I⟩:=C;subst e6 I;obtain⟨d,m7,W7,⟨e7,N⟩,l7,eH,AV,r7⟩:=mv (Q:=λd m=>d=gm (LL a) (ak a s)/\m=m4 a f j g (KE (.v (cb T))) (KE (.v s.t)) LX) l6 zK r6 #v[rfl,rfl];subst e7 N;rw[<-eH];have O:Rel b W7 (m4 a f j g (KE (.v (cb T))) (KE (.v s.t)) (KE (.v (gm (LL a) (ak a s))))) (l.set 6 (KE y)):=AV.set (i:=6) (w:=.v (gm (LL a) (ak a s))) r7;have u1:(l.set 6 (KE y))[1]?=KE (KE v):=(by rw[bM (by decide)];show t1);have u3:(l.set 6 (KE y))[3]?=KE (KE (.ref D)):=(by rw[bM (by decide)];show t3);show{W7,_,λc m=>c=LZ/\m=m4 a f j g (KE (.v (cb T))) (KE (.v s.t)) (KE (.v (gm (LL a) (ak a s)))),rfl,O,{MG (show ¬((((LL a).map tI).length:Nat):Int) < (((T.map cj).length:Nat):Int)by rw[aB,aB];lia),rfl},λc m8 W8 ⟨e8,JO⟩ l8 O=>?_};subst e8 JO;show{W8,_,λc m=>c=LZ/\m=m4 a f j g (KE (.v (cb T))) (KE (.v s.t)) (KE (.v (gm (LL a) (ak a s)))),rfl,O,?_,λc m9 W9 ⟨e9,U⟩ l9 EW=>?_}
  ·show{rfl,T,a,s,rfl,ok.sp,r.ok.rows,?_};show ifN (show(!fu T (dq a s))=LZ by rw[u];rfl) ?_;show#v[rfl,T,a,s,rfl,ok.sp,r.ok,r.fin,rfl,rfl]
  ·subst e9 U;show{W9,rfl,l2.trans (l3.trans (l7.trans (l8.trans l9))),EW.fgt (L:=[4,5,6]),u1,u3}
 ·show .inl {st (),q W2 n (l1.trans l2) p}
abbrev gt3:GT:=gOr (Gv (j6 (gIsi "list" (aa 3)))) (gT (gOp (eqG LY) (gCB gc (gaE (aa 3) gaN)) (gCB gc (gaE (gOp ixG (aa 1) (gC (.v (.int 1)))) gaN))))
def law3 (k:Hu b W e v D f a h d)(i:Paired (TabS f) a d)(q:∀g,Lx W g->Hu b g e v D f a h d->E.nx e g.H):Di (lfT b gt3) RF yx E e W.H:=by
 have lt:a.length=d.length:=Paired.length i;show{W,_,λc m=>c=LZ/\m=m4 f a h d LX LX LX,rfl,k.rel,{rfl,?_,rfl},λc p j ⟨l,n⟩ l8 o=>?_}
 ·change(if LY=LY then !decide (V.int (((d.map cb).length:Nat):Int)=V.int (((a.map Say.t).length:Nat):Int))else _)=LZ
  rw[aB,aB,lt];simp
 ·subst l n;show q j l8 #v[o,k.s1,k.s3]
end PB.N74
namespace VL
open PySem L2
section
variable {K:aF}{mg:Str->Option aE}{h:MB}
structure At (K:aF)(f:MA)(x q:Str)(st:MD):Prop where
 ex:∃fd,Fun K x q st f fd
def at_mk {f:MA}{x q:Str}{st:MD}{a:aE}{b d:Option MA}{e:Array (Option aE)}{kV g i cd ct:aE}(l:K.lookup f=KE {a,b,.func (fU x q (jq st) (g6 st) (bq st) .none kV g i d cd ct),e})(c:mI K cd q=LY)(k:fM K (.ref f)=LY):At K f x q st:={_,aka l c k}
structure Af (K:aF)(f:MA)(x:Str)(st:MD):Prop where
 ns:cJ K bI x=KE (KE (.ref f))
 at_:At K f x x st
def af_mk {f:MA}{x:Str}{st:MD}{b:aE}{d e:Option MA}{g:Array (Option aE)}{kV i j cd ct:aE}(a:cJ K bI x=KE (KE (.ref f)))(l:K.lookup f=KE {b,d,.func (fU x x (jq st) (g6 st) (bq st) .none kV i j e cd ct),g})(c:mI K cd x=LY)(k:fM K (.ref f)=LY):Af K f x st:={a,at_mk l c k}
def yq (x q:Str)(st:MD)(ps:List Str):Nat->Prop
 |1=>∀kV f g i j ct a,oZ (fU x q (jq st) (g6 st) (bq st) .none kV f g i j ct) {[a],[]}=pure (ps.zip [a])
 |2=>∀kV f g i j ct a b,oZ (fU x q (jq st) (g6 st) (bq st) .none kV f g i j ct) {[a,b],[]}=pure (ps.zip [a,b])
 |3=>∀kV f g i j ct a b c,oZ (fU x q (jq st) (g6 st) (bq st) .none kV f g i j ct) {[a,b,c],[]}=pure (ps.zip [a,b,c])
 |4=>∀kV f g i j ct a b c d,oZ (fU x q (jq st) (g6 st) (bq st) .none kV f g i j ct) {[a,b,c,d],[]}=pure (ps.zip [a,b,c,d])
 |5=>∀kV f g i j ct a b c d e,oZ (fU x q (jq st) (g6 st) (bq st) .none kV f g i j ct) {[a,b,c,d,e],[]}=pure (ps.zip [a,b,c,d,e])
 |_=>False
def yr (F:Fun K x q st f fd)(b:yq x q st ps ps.length):Binds K fd ps []:=F.binds λkV i j l cd ct us m=>by
 rw[<-m]at b
 match us,b with
 | [a],b=>show b kV i j l cd ct a
 | [a,c],b=>show b kV i j l cd ct a c
 | [a,c,d],b=>show b kV i j l cd ct a c d
 | [a,c,d,e],b=>show b kV i j l cd ct a c d e
 | [a,c,d,e,g],b=>show b kV i j l cd ct a c d e g
theorem Af.fd (F:Af K f x st)(X:K.In h)(G:h.Ns bI mg)(b:yq x x st ps ps.length:=by intro _;intros;rfl):∃fd,Fd K mg x st ps f fd:=by
 obtain⟨fd,e⟩:=F.at_.ex;show{fd,e,lK X G F.ns,yr e b}
def At.md (F:At K f x q st)(c:Cls K C)(a:dE K (.ref C) x=KE (KE (.ref f)))(i:iV K (.ref f)=LY)(b:yq x q st ps ps.length:=by intro _;intros;rfl):∃fd,Md K C x q st ps f fd:=by
 obtain⟨fd,e⟩:=F.ex;show{fd,e,c,#v[a,i,e.kp],yr e b}
def At.cd (F:At K f x q st)(X:K.In h)(G:h.Ns bI mg)(n:cJ K bI y=KE (KE (.ref C)))(ga:mW K (.ref C) "__getattribute__"=KE (KE (.builtin "type.__getattribute__")))(rd:qX K C (.type "type")=LY)
  (fc:qY K (.ref C) (.type "type") x=KE (.val (.ref f))) (b:yq x q st ps ps.length:=by intro _;intros;rfl):∃fd,Cd K mg y x q st ps C f fd:=by
 obtain⟨fd,e⟩:=F.ex;show{fd,e,#v[ga,rd,fc,e.kp],lK X G n,yr e b}
def At.kd (F:At K f "__init__" q st)(X:K.In h)(G:h.Ns bI mg)(n:cJ K bI y=KE (KE (.ref C)))(mk:oA K C=LY)(a:dE K (.ref C) "__init__"=KE (KE (.ref f)))(i:iV K (.ref f)=LY)(kp:fM K (.ref C)=LY)
  (b:yq "__init__" q st ps ps.length:=by intro _;intros;rfl):∃fd,Kd K mg y q st ps C f fd:=by
 obtain⟨fd,e⟩:=F.ex;show{fd,e,#v[mk,a,i,kp],lK X G n,yr e b}
def Ek {its:Array aE}{ss:List Str}(X:K.In h)(G:h.Ns bI mg)(e:cJ K bI x=KE (KE (.ref a)))(l:K.lookup a=KE {.type "tuple",c,.seq its n,d})(z:its.size<=1000)(r:Vals (ss.map V.str) its.toList) :
  Gc #v[P,w,K] mg x (.tup (ss.map λs=>.v (.str s))):=by
 show{.ref a,.ref a,lK X G e,rfl,λF=>.tup (agb l rfl rfl (bL z (by decide)) r) ?_};clear r
 induction ss with
 |nil=>show .nil
 |cons s ss b=>show .cons (.v rfl) b
def bl_mk (X:K.In h)(G:h.Ns bI mg)(b:∀x∈(ZZ:List Str),cJ K bI x=KE LX):Bl mg:=by
 have n:∀x∈(ZZ:List Str),mg x=LX:=λx o=>PySem.W.mg_none_of X G (b x o);simp only[List.forall_mem_cons,dH,false_implies,implies_true,and_true]at n;obtain⟨p,q,r,s,u,w,y,z,A,a,c,d,e,f,g,i,j,l,m⟩:=n;show#v[p,q,r,s,u,w,y,z,A,a,c,d,e,f,g,i,j,l,m]
end
section
variable {P:aV}{w:bC}{K:aF}{mg:Str->Option aE}{base:MB}
def Fd.go (F:Fd K mg x st ps f fd)(k nc:Nat)(N:List Str)(g:GS)(a:Pm g N.length nc ps.length b)(c:N.Nodup->Rdx P w K mg base N x st f k g)(S:fq N ps (bq st):=by show fsN):Fo P w K mg base (k+1) x ps (spP #v[P,w,K] ps.length b):=vf F S (c S.nd) a
def Fd.goR (F:Fd K mg x st ps f fd)(p k nc:Nat)(N:List Str)(g:GS)(a:Pr p g N.length nc ps.length b)(c:N.Nodup->Rdx P w K mg base N x st f k g)(S:fq N ps (bq st):=by show fsN):Fo P w K mg base (k+1) x ps (spR #v[P,w,K] ps.length p b):=vfr F S (c S.nd) a
def Md.go (F:Md K C x q st ps f fd)(k nc:Nat)(N:List Str)(g:GS)(a:Pm g N.length nc ps.length b)(c:N.Nodup->Rdx P w K mg base N q st f k g)(S:fq N ps (bq st):=by show fsN):Mo P w K mg base (k+1) C x ps (spP #v[P,w,K] ps.length b):=vfm F S (c S.nd) a
def Cd.go (F:Cd K mg y x q st ps C f fd)(p k nc:Nat)(N:List Str)(g:GS)(a:Pr p g N.length nc ps.length b)(c:N.Nodup->Rdx P w K mg base N q st f k g)(S:fq N ps (bq st):=by show fsN):Co P w K mg base (k+1) y x ps (spR #v[P,w,K] ps.length p b):=vfc F S (c S.nd) a
def Kd.go (F:Kd K mg x q st ps C f fd)(p k nc:Nat)(N:List Str)(g:GS)(a:Pr p g N.length nc ps.length b)(c:N.Nodup->Rdx P w K mg base N q st f k g)(S:fq N ps (bq st):=by show fsN):Ko P w K mg base (k+1) x C ps (spR #v[P,w,K] ps.length p b):=vfk F S (c S.nd) a
end
theorem Ti:∀ns:List Int,Rps b F (ns.map V.int) (ns.map λi=>Tr.v (.int i))
 | []=>.nil
 |_::ns=>.cons (.v rfl) (Ti ns)
def Af.law (F:Af K f x st)(X:K.In h)(G:h.Ns bI mg)(a:mg x=KE (.ref fa))(b:yq x x st [p] 1:=by intro _;intros;rfl):∃fd,Fd K mg x st [p] fa fd/\∀s v,qJ s fd {[v],[]} [(p,v)]:=by
 have e:=a.symm.trans (lK X G F.ns);cases e;obtain⟨fd,e⟩:=F.at_.ex;show{fd,{e,lK X G F.ns,yr e b},λs v=>?_};obtain⟨j,l,kV,c,d,g,i,ct,m,rfl,lk,n⟩:=e.ex;show .of_eq (b kV c d g i ct v)
end VL
namespace PB.N74
open PySem L2 VL Bits S1 PySem.Deep
open PyProof.Rows (envOfC)
def amh (rel:Rel b W m f)(g:∀(i j:Nat),m.loc[i]?≠KE (KE (Wt.c j)))(sm:Same W.F a)(h:Wok b {a,H3,λ_=>LX} m.cel):Rel b {a,H3,λ_=>LX} m f:=⟨h,λi w hw=>by
  obtain⟨x,e,r⟩:=rel.loc i w hw;show{x,e,?_};cases w with
  |v d=>show Rp.mono sm r
  |c j=>show(g i j hw).elim,rel.len⟩
abbrev m2 (ws:List (Str×Nat))(rs:List Say)(ts:List (List Int)):M:={[LX,KE (.v (ntT ws rs ts)),KE (.v (ltT (LL ws))),LX,LX,LX,LX,LX,LX],[LX]}
def m2_nc:∀(i j:Nat),(m2 a b d).loc[i]?≠KE (KE (Wt.c j)):=λi j h=>by
 match i,h with
 |0,h | 1,h | 2,h | 3,h | 4,h | 5,h | 6,h | 7,h | 8,h=>cases h
 |i+9,h=>simp at h
abbrev T2 (b:B)(Ex:XK):TS:=K9 (Ua (spO b 1 g_tables_of) [] Ex (Kv (yw 1) T9)) (uf 3)
def law2 {z:St}{E:Au}(rel:Rel b W (m2 n p s) z)(s1:z[1]?=KE (KE v))(C:Rp b W.F v (ntT n p s))(ok:Ag n p s)
  (q:∀f u D g m,Paired (TabS n) p m->Hu b f u v D n p s m->Rp b f.F v (ntT n p s)->f.F D=KE (.lst (g.map V.ref))->Paired (RL b f.F f.F) g (rows m)->g.Nodup->D ∉ g->E.nx u f.H):T2 b Ex E z W.H:=by
 show{v,s1,rfl,{W.F,W.H,λ_=>LX},_,λls=>∃m,ls=rows m/\Paired (TabS n) p m,rfl,rel.ok.cut,.cons C .nil,{n,p,s,rfl,ok,λm h=>#v[m,rfl,h]},λls f D g A l T G r=>?_};obtain⟨m,e,I⟩:=A;subst e;have hs:Same f.F (d6 f.F f.H (D::g)):=λc o e=>by
  by_cases h:c∈D::g
  ·rcases aU.mp h with rfl | h
   ·rw[r.out]at e;cases e
   ·rw[(r.inn c h).2.1]at e;cases e
  ·rw[ji h];show e
 have sub:Same (d6 f.F f.H (D::g)) f.H:=λc o e=>by
  by_cases h:c∈D::g
  ·rw[ix h]at e;show e
  ·rw[ji h]at e;show G.sub c o e
 have fD:d6 f.F f.H (D::g) D=KE (.lst (g.map V.ref)):=(by rw[ix aN];show r.at_);have up:Same W.F (d6 f.F f.H (D::g)):=λc o e=>hs c o (l.same c o e);have J:Wok b ⟨d6 f.F f.H (D::g),f.H,λ_=>LX⟩ [LX]:=⟨sub,λj d h=>(by cases j with
   |zero=>cases h
   |succ j=>simp at h),(λj a e=>by cases e),(λj k a e=>by cases e)⟩
 have rd:Rp b (d6 f.F f.H (D::g)) (.ref D) (.lst (m.map cb)):=by
  show .lst fD ?_;have:=yp (bs:=D::g) hs r.its λx y=>aI _ y;rw[vb]at this;show this
 have L:=(amh (H3:=f.H) rel m2_nc up J).set (i:=3) (w:=.v (.lst (m.map cb))) rd;have N:z.length=9:=rel.len.symm;show q {d6 f.F f.H (D::g),f.H,λ_=>LX} _ D g m I {L,by rw[bM (by decide)];show s1,cM (by rw[N];decide)} (C.mono up) fD (pb (P:=λx=>x∈g) r.its (λx y=>y) λx U y A=>by obtain⟨xs,O,Q⟩:=A;show{xs,by change d6 f.F f.H (D::g) x=_;rw[ix (aI _ y)];show O,Q.mono hs}) r.nd r.nin
abbrev g0:GS:=bp 1 (ar 2 Ai (gaV (aa 0) (gaV (gC (.v (.int 1))) gaN)))
abbrev g1:GS:=bp 2 (ar 1 r8 (gaV (gOp ixG (aa 1) (gC (.v (.int 0)))) gaN))
abbrev TL (b:B)(Ex:XK):TS:=qm (lfS b O0 g0) (qm (lfS b O0 g1) (qm (T2 b Ex) (qm (Di (lfT b gt3) RF yx) (qm (T4 b) (qm (T5 b) (qm (T6 b) (qm (T7 b.K) (K7 (lf b g8)))))))))
def aip {ns:List Int}{N:List Str}{E:Au}(A:N.length=9)(C:SqL b.K H a (ns.map V.int))(q:∀H',E.rt (.bl LY) H'):TL b Ex E (L2.start N [.ref a]) H:=by
 have G:Wok b ⟨H,H,λ_=>LX⟩ []:={λ_ _ e=>e,(λj d e=>by simp at e),(λ_ _ e=>nomatch e),(λ_ _ _ e=>nomatch e)};have u:=Js (N:=N) (nc:=1) G (ds:=[.scr (ns.map λi=>Tr.v (.int i))]) (.cons (.scr C (Ti ns)) .nil);rw[A]at u;show⟨{H,H,λ_=>LX},_,{ nx:=λm=>∃c f g,Ag c f g/\m={[KE (.v (.scr (ns.map iT))),KE (.v (ntT c f g)),LX,LX,LX,LX,LX,LX,LX],[LX]},rt:=λ_ _=>False },rfl,le0 λ_=>rfl,u,{rfl,ns,1,rfl,by decide,λc f g ok=>#v[c,f,g,ok,rfl]},?_,(λ_ _ _ _ _ h=>h.elim),(λ_ _ _ h=>h.elim),λ_ _ _ h=>h.elim⟩;intro I J O o l1 _ Q;obtain⟨c,f,g,ok,rfl⟩:=o;show⟨J,_,{ nx:=λm=>m={[KE (.v (.scr (ns.map iT))),KE (.v (ntT c f g)),KE (.v (ltT (LL c))),LX,LX,LX,LX,LX,LX],[LX]},rt:=λ_ _=>False },rfl,l1,Q,#v[rfl,c,rfl,ok.sp,rfl],?_,(λ_ _ _ _ _ h=>h.elim),(λ_ _ _ h=>h.elim),λ_ _ _ h=>h.elim⟩;intro I W2 T o l2 _ y;subst o;obtain⟨v,s1,U⟩:=y.loc 1 (.v (ntT c f g)) rfl;show law2 (y.fgt (L:=[0])) s1 U ok λY σ3 D as p n k3 n3 f3 i3 nd d1=>?_;have hz:p.length<=1000:=by
  have lt:f.length=p.length:=Paired.length n;obtain⟨w,hw⟩:∃w,c[0]?=KE w:={_,aC (by have:=ok.two;lia)};have:=ok.many w hw;have:=ok.sp.cnt w (aR hw);lia
 show law3 k3 n λW4 l4 k4=>?_;show law4 k4 ok n λz r l5 s=>?_;have up:Same Y.F z.F:=(l4.trans l5).same;have p5:Pre5 b z r v D as c f g p:=⟨s.rel.fgt (L:=[2]),s.s1,n3.mono up,s.s3,up _ _ f3,pb (P:=λ_=>True) i3 (λ_ _=>trivial) λx l _ uW=>by obtain⟨xs,e1,e2⟩:=uW;show{xs,up _ _ e1,e2.mono up},nd,d1⟩;show law5 p5 hz λF0 D5 xT σ6 H6 k6=>?_;show law6 k6 hz λσ7 H7 k7=>?_;show law7 k7 λH8 k8=>?_;show law8 k8 ok n q
def spL (K:aF):Sp:=λvs H Q _=>vs.length=1/\∃(a:MA)(ns:List Int),vs=[.ref a]/\SqL K H a (ns.map V.int)/\∀H',Q (.bl LY) H'
def fn_law {P:aV}{w:bC}{K:aF}{mg:Str->Option aE}{base:MB}{x c:Str}{st:MD}{f:MA}{fd:gB}{N ps:List Str}{k:Nat}{Ex:XK}(F:Fun K x c st f fd)(S:fq N ps (bq st))(d:N.length=9)(e:ps.length=1)
  (g:∀(b:aE)(A:cG) (outer:List Env) (s:aK) (H:Hp) (E:XK),Room k (A.deeper (lW c (bq st) ‹s› f b))->∃Ex,PSs (xb CX0 P w K mg base N c (bq st) f b A outer s H E).nox (g6 st) (TL #v[P,w,K] Ex)):FnOk P w K mg base CX0 (k+1) f fd ps (spL K):=by
 show F.ok S (λvs H Q E h=>by rw[e];show h.1) λb A outer s H vs Q E i h=>?_;obtain⟨_,a,ns,rfl,j,q⟩:=h;obtain⟨Ex,p⟩:=g b A outer s H E i;show{_,p,aip d j q}
section
variable {X:Cx}
def pe_of (h:VE X e f):PE X e (lf X.B f):=h.out
def pt_of (h:VT X e f):PT X e (lfT X.B f):=h.out
def pi_of (h:VI X a e f):PI X a e (lfI X.B f):=h.out
def pg_of (h:VG X a t):PG X a (gOf X.K t):=h.out
def ps_of (h:VS X st g)(O:Wd):PS X st (lfS X.B O g):=h.out O
end
def law_walkL {l:nE}{n k:Nat}{c:List Str}{e:(Str->Option aE)->MB->Prop}{b:bC->MB->Prop}{d:DefRec}{K:Params->aF}(g:l.most=KE n)(i:d.params.defaults=[])(j:∀(w:bC)(h:MB),b w h->(K w.params).In h)(hz:n<=1000)(m:Room k pB)
  (F:∀(w:bC)(mg:Str->Option aE) (fa:MA) (h:MB),(K w.params).In h->h.Ns bI mg->mg d.name=KE (.ref fa)->∃fd:gB,(∀(s:aK)(u:aE),qJ s fd {[u],[]} [(x,u)])/\∀base:MB,(K w.params).In base->base.Ns bI mg->FnOk l.prog w (K w.params) mg base CX0 k fa fd [x] (spL (K w.params))) :
  PySem.W.WalkO q c e b l.row.toRowW d [] (λf vs=>uI f vs):=
 L2.walk_of (n:=n) (k:=k) (x:=x) (CX:=λ_=>CX0) (sp:=λw=>spL (K w.params)) g (bL hz (by decide)) i m j F (λw _ a ns p _ o=>{rfl,a,ns,rfl,o,λ_=>rfl}) λ_ _ _ _ _ z=>z
end PB.N74
namespace O74
open PySem L2 VL Bits PB PySem.Deep
def top (i:Nat):MD:=PySem.Challenge.pw_switchsay_k74_tables_of_nets.main.body.getD i (.Pass {0,0,0,0})
def Hv (ds:List Tr)(R:Ev->Prop):¬Ab 0 ds R:=λ⟨a,s,_,_,_,_,_,h,_⟩=>by have:=s.size_pos;lia
section
variable {P:aV}{w:bC}{K:aF}{mg:Str->Option aE}{base:MB}
section
variable (P:aV)(w:bC)(K:aF)(mg:Str->Option aE)(base:MB)(C:MA)
abbrev Qa:Prop:=Fo P w K mg base 1 "nothing" ZJ (spP #v[P,w,K] 1 o9)
abbrev Qb:Prop:=Fo P w K mg base 1 "the_same" ZJ (spP #v[P,w,K] 1 mw)
abbrev Qc:Prop:=Fo P w K mg base 1 "either_of" ZL (spP #v[P,w,K] 2 og)
abbrev Qd:Prop:=Fo P w K mg base 1 "where_nothing" ZI (spP #v[P,w,K] 1 qb)
abbrev Qe:Prop:=Fo P w K mg base 1 "letters_in" YR (spP #v[P,w,K] 2 vx)
abbrev Qf:Prop:=Fo P w K mg base 1 "reached_from" YV (spP #v[P,w,K] 2 qx)
abbrev Qg:Prop:=Fo P w K mg base 2 "one_then_other" ZS (spP #v[P,w,K] 2 i7)
abbrev Qh:Prop:=Fo P w K mg base 2 "again_and_again" ZI (spP #v[P,w,K] 1 nk)
abbrev Qi:Prop:=Fo P w K mg base 2 "filling" YF (spP #v[P,w,K] 1 wy)
abbrev Qj:Prop:=Fo P w K mg base 2 "note_ways" ZJ (spP #v[P,w,K] 1 xn)
abbrev Qk:Prop:=Fo P w K mg base 3 "behind" ZS (spP #v[P,w,K] 2 zp)
abbrev Ql:Prop:=Fo P w K mg base 4 "either_ways" ZL (spP #v[P,w,K] 2 t6)
abbrev Qm:Prop:=Fo P w K mg base 4 "then_ways" ZS (spP #v[P,w,K] 2 xo)
abbrev Qn:Prop:=Fo P w K mg base 1 "must_value" YO (spP #v[P,w,K] 2 qd)
abbrev Qo:Prop:=Fo P w K mg base 2 "place_of" YX (spP #v[P,w,K] 3 um)
abbrev Qp:Prop:=Fo P w K mg base 1 "is_relation" ZV (spP #v[P,w,K] 3 t7)
abbrev Qq:Prop:=Fo P w K mg base 1 "put_relation" ZV (spP #v[P,w,K] 3 q5)
abbrev Qr:Prop:=Fo P w K mg base 1 "held_in" ZX (spP #v[P,w,K] 1 tm)
abbrev Qs:Prop:=Fo P w K mg base 2 "parts_of" ZX (spP #v[P,w,K] 1 my)
abbrev Qt:Prop:=Fo P w K mg base 3 "is_test" ZX (spP #v[P,w,K] 1 Bp)
abbrev Qu:Prop:=Fo P w K mg base 3 "notes_in" ZX (spP #v[P,w,K] 1 zq)
abbrev Qv:Prop:=Fo P w K mg base 4 "must_test" ZX (spP #v[P,w,K] 1 sj)
abbrev Qw:Prop:=Fo P w K mg base 4 "must_plain" ZX (spP #v[P,w,K] 1 qh)
abbrev Qx:Prop:=Fo P w K mg base 5 "must_part" YN (spP #v[P,w,K] 2 xp)
abbrev Qy:Prop:=Fo P w K mg base 6 "must_saying" ZN (spP #v[P,w,K] 2 km)
abbrev Qz:Prop:=Fo P w K mg base 3 "plain_relation" YY (spP #v[P,w,K] 3 ou)
abbrev QA:Prop:=Fo P w K mg base 3 "again_row" YM (spP #v[P,w,K] 3 xq)
abbrev QB:Prop:=Fo P w K mg base 4 "again_ways" YF (spP #v[P,w,K] 1 vz)
abbrev QC:Prop:=Fo P w K mg base 5 "ways_of_part" ZP (spP #v[P,w,K] 4 mz)
abbrev QD:Prop:=Fo P w K mg base 6 "ways_of" ZD (spP #v[P,w,K] 3 Bq)
abbrev QE:Prop:=Fo P w K mg base 1 "each_longer" YG (spP #v[P,w,K] 2 t9)
abbrev QF:Prop:=Fo P w K mg base 2 "letters_of" ["speech"] (spP #v[P,w,K] 1 qi)
abbrev QG:Prop:=Co P w K mg base 1 "Runs" "__init__" ZK (spR #v[P,w,K] 3 0 (xr C))
abbrev QH:Prop:=Mo P w K mg base 1 C "masks_from" ZT (spP #v[P,w,K] 3 (nq C))
abbrev QI:Prop:=Mo P w K mg base 2 C "ends_from" ZT (spP #v[P,w,K] 3 (ox C))
abbrev QJ:Prop:=Mo P w K mg base 3 C "ends" ZH (spP #v[P,w,K] 3 (xt C))
abbrev QK:Prop:=Ko P w K mg base 7 "Machine" C YW (spR #v[P,w,K] 3 0 (rh C))
abbrev QL:Prop:=Fo P w K mg base 1 "with_put" YU (spP #v[P,w,K] 2 uq)
abbrev QM:Prop:=Fo P w K mg base 2 "matches" YT (spP #v[P,w,K] 2 Br)
abbrev QN:Prop:=Fo P w K mg base 3 "by_table" YD (spP #v[P,w,K] 2 ur)
abbrev QO:Prop:=Fo P w K mg base 1 "deed_for" YL (spP #v[P,w,K] 2 zx)
abbrev QP:Prop:=Fo P w K mg base 2 "row_for" ZA (spP #v[P,w,K] 2 Bs)
abbrev QQ:Prop:=Fo P w K mg base 1 "wider_row" YK (spP #v[P,w,K] 2 xu)
abbrev QR:Prop:=Fo P w K mg base 4 "does_all" ZW (spP #v[P,w,K] 2 uu)
abbrev QS:Prop:=Fo P w K mg base 5 "with_fewer_rows" ZW (spP #v[P,w,K] 2 nu)
abbrev QT:Prop:=Fo P w K mg base 5 "with_wider_matches" ZW (spP #v[P,w,K] 2 j9)
abbrev QU:Prop:=Fo P w K mg base 6 "made_small" ZW (spP #v[P,w,K] 2 v8)
abbrev QV:Prop:=Fo P w K mg base 9 "table_of" ZN (spP #v[P,w,K] 2 z7)
abbrev QW:Prop:=Fo P w K mg base 2 "must_tie" ["speech","tie"] (spP #v[P,w,K] 2 uw)
abbrev QX:Prop:=Fo P w K mg base 7 "must_net" ["net"] (spP #v[P,w,K] 1 Ah)
abbrev QY:Prop:=Fo P w K mg base 10 "tables_of" ["net"] (spO #v[P,w,K] 1 N74.g_tables_of)
abbrev QZ:Prop:=Fo P w K mg base 1 "_law_cell" ZG (spP #v[P,w,K] 2 ko)
abbrev Q0:Prop:=Fo P w K mg base 1 "_law_purse" YC (spP #v[P,w,K] 1 mf)
abbrev Q1:Prop:=Fo P w K mg base 1 "_law_take" ZE (spR #v[P,w,K] 2 0 dt)
abbrev Q2:Prop:=Fo P w K mg base 2 "_law_speech" ZM (spP #v[P,w,K] 2 ud)
abbrev Q3:Prop:=Fo P w K mg base 1 "_law_letters" YJ (spP #v[P,w,K] 1 r8)
abbrev Q4:Prop:=Fo P w K mg base 2 "_law_lone" ZR (spR #v[P,w,K] 3 1 xv)
abbrev Q5:Prop:=Fo P w K mg base 1 "_law_joined" YQ (spP #v[P,w,K] 2 om)
abbrev Q6:Prop:=Fo P w K mg base 3 "_law_grown" ZU (spP #v[P,w,K] 4 wb)
abbrev Q7:Prop:=Fo P w K mg base 4 "_law_saying" ZO (spP #v[P,w,K] 3 ue)
abbrev Q8:Prop:=Fo P w K mg base 5 "_law_net" YS (spP #v[P,w,K] 2 Ai)
abbrev Q9:Prop:=Fo P w K mg base 1 "_law_union" ZC (spP #v[P,w,K] 2 wg)
abbrev Ja:Prop:=Fo P w K mg base 1 "_law_led" ZF (spP #v[P,w,K] 2 Aa)
abbrev Jb:Prop:=Fo P w K mg base 102 "_law_step" ZY (spP #v[P,w,K] 3 g__law_step)
abbrev Jc:Prop:=Fo P w K mg base 1 "_law_by" Z' (spP #v[P,w,K] 2 Bw)
abbrev Jd:Prop:=Fo P w K mg base 2 "_law_same" ZQ (spP #v[P,w,K] 2 oh)
abbrev Je:Prop:=Fo P w K mg base 3 "_law_least" ZQ (spP #v[P,w,K] 2 wj)
end
def V7 (z:Bl mg)(F:Fd K mg "nothing" (top 14) ZJ f fd):Qa P w K mg base:=F.go 0 1 ZJ _ Yw λa b A outer s H E c=>(ai (aw (aj lq (bc (ae ag ab)) (v_ 0))))
def Rm (z:Bl mg)(F:Fd K mg "the_same" (top 15) ZJ f fd):Qb P w K mg base:=F.go 0 1 ZJ _ Vb λa b A outer s H E c=>(ai (aw (dh (ns:=["place"]) (ys:=[]) (fr:=[]) (cl:=[]) (csN [(".0",.local),("place",.local)]) rfl (gh rfl z.range (ae (v_ 0) ab)) (λ_ _ _ _=>ic) (λ_ _ _ _=>cp) (λ_ _ _ _=>(aj Fc ag (v_ 0))) (by show cE))))
def On (z:Bl mg)(F:Fd K mg "either_of" (top 16) ZL f fd):Qc P w K mg base:=F.go 0 1 ZL _ Pe λa b A outer s H E c=>(ai (aw (dh (ns:=["mask","another"]) (ys:=[]) (fr:=[]) (cl:=[]) (csN [(".0",.local),("mask",.local),("another",.local)]) rfl (G3 rfl z.zip (ae (v_ 0) (ae (v_ 1) ab))) (λ_ _ _ _=>(xl rfl)) (λ_ _ _ _=>cp) (λ_ _ _ _=>(aj Uw (v_ 0) (v_ 1))) xm)))
def El (z:Bl mg)(F:Fd K mg "where_nothing" (top 20) ZI f fd):Qd P w K mg base:=F.go 0 1 ZI _ Fm λa b A outer s H E c=>(ai (aw (dh (ns:=["place","mask"]) (ys:=[]) (fr:=[]) (cl:=[]) (csN [(".0",.local),("place",.local),("mask",.local)]) rfl (D4 rfl z.enumerate (ae (v_ 0) ab)) (λ_ _ _ _=>(xl rfl)) (λ_ _ _ _=>cp) (λ_ _ _ _=>(E9 (ia (v_ 1)) ag (aj Fc ag (v_ 0)))) xm)))
def Ki (z:Bl mg)(F:Fd K mg "letters_in" (top 21) YR f fd):Qe P w K mg base:=F.go 0 1 YR _ M1 λa b A outer s H E c=>(ai (aw (dh (ns:=["place","letter"]) (ys:=["mask"]) (fr:=[1]) (cl:=[("mask",‹s›+1)]) (csN [(".0",.local),("place",.local),("letter",.local),("mask",.cell)]) rfl (D4 rfl z.enumerate (ae (v_ 0) ab)) (λ_ _ _ _=>(xl rfl)) (λ_ _ _ _=>(yf (ia (aj L8 (aj Ya (v_ 2) (v_ 0)) ag)))) (λ_ _ _ _=>(v_ 1)) xm)))
def Fy (z:Bl mg)(F:Fd K mg "reached_from" (top 18) YV f fd):Qf P w K mg base:=F.go 0 1 ["mask","relation","reached","lowest"] _ Ha λa b A outer s H E c=>(ah (ba (i:=2) a rfl (aS rfl) ag) (ah (vq (L:=[3]) bF (ia (v_ 0)) (ah (ba (i:=3) a rfl (aS rfl) (aj L8 (v_ 0) (p7 (v_ 0)))) (ah (Pc (i:=2) a rfl (aS rfl) (ao (v_ 1) (aj L7 (akw PySem.F.plainAttrs_int PySem.F.slot_int_bit_length PySem.F.type_int_bit_length agy (v_ 3)) ag))) (ai (Mq (i:=0) a rfl (aS rfl) (v_ 3)))))) (ai (aw (v_ 2)))))
def C1 (z:Bl mg)(c:Qf P w K mg base)(F:Fd K mg "one_then_other" (top 17) ZS f fd):Qg P w K mg base:=F.go 1 2 ["first","second","known","mask"] _ Ea λb d A outer s H E a=>(ah (ij (i:=2) (j:=0) b rfl (fA rfl) ahm) (ah (cz (L:=[3]) bF rfl (dj (v_ 0)) (c7 (i:=3) b rfl (aS rfl)) (ai (cq (bf (Bk a.units) (v_ 3) (v_ 2)) (ai (ki (i:=2) rfl (fA (aS rfl)) a.units (vc c a (ae (v_ 3) (ae (v_ 1) ab))) (v_ 3))) cg))) (ai (aw (dh (ns:=["mask"]) (ys:=["known"]) (fr:=[2]) (cl:=[("known",‹s›+1)]) (csN [(".0",.local),("mask",.local),("known",.cell)]) rfl (dj (v_ 0)) (λ_ _ _ _=>ic) (λ_ _ _ _=>cp) (λ_ _ _ _=>(gj a.units (v_ 1) (v_ 0))) (by show cE))))))
def Bx (z:Bl mg)(c:Qc P w K mg base)(d:Qb P w K mg base)(F:Fd K mg "again_and_again" (top 19) ZI f fd):Qh P w K mg base:=F.go 1 1 ["relation","rows","middle","through"] _ Cv λa e A outer s H E b=>(ah (ba (i:=1) a rfl (aS rfl) (vc c b (ae (vc d b (ae (br de rfl z.len ⋯ (bu (v_ 0) ab)) ab)) (ae (v_ 0) ab)))) (ah (cz (L:=[2,3]) bF rfl (gh rfl z.range (ae (br de rfl z.len ⋯ (bu (v_ 1) ab)) ab)) (c7 (i:=2) a rfl (fA rfl)) (ah (ba (i:=3) a rfl (fA rfl) (ao (v_ 1) (v_ 2))) (ai (jd (i0:=1) a rfl rfl (ns:=["row"]) (ys:=["middle","through"]) (fr:=[2,3]) (cl:=[("through",‹s›+2),("middle",‹s›+1)]) (csN [(".0",.local),("row",.local),("middle",.cell),("through",.cell)]) rfl (dj (v_ 1)) (λ_ _ _ _=>ic) (λ_ _ _ _=>cp) (λ_ _ _ _=>(E9 (ia (aj L8 (aj Ya (v_ 0) (v_ 1)) ag)) (aj Uw (v_ 0) (v_ 2)) (v_ 0))) (by show cE))))) (ai (aw (v_ 1)))))
def V8 (z:Bl mg)(a:Qa P w K mg base)(F:Fd K mg "filling" (top 46) YF f fd):Qi P w K mg base:=F.go 1 1 YF _ Yy λc d A outer s H E b=>(ai (aw (aj lq (bc (ae (vc a b (ae (br de rfl z.len ⋯ (bu (ao (ao (v_ 0) ag) ag) ab)) ab)) ab)) (aj L7 (br de rfl z.len ⋯ (bu (v_ 0) ab)) ag))))
def Oo (z:Bl mg)(b:Qa P w K mg base)(c:Qb P w K mg base)(F:Fd K mg "note_ways" (top 42) ZJ f fd):Qj P w K mg base:=F.go 1 1 ZJ _ Pg λd e A outer s H E a=>(ai (aw (bc (ae (bc (ae (vc b a (ae (v_ 0) ab)) (ae (vc c a (ae (v_ 0) ab)) ab))) (ae (bc (ae (vc c a (ae (v_ 0) ab)) (ae (vc b a (ae (v_ 0) ab)) ab))) ab)))))
def Zu (z:Bl mg)(a:Qi P w K mg base)(F:Fd K mg "behind" (top 45) ZS f fd):Qk P w K mg base:=F.go 2 1 ["first","second","fill"] _ acp λb d A outer s H E c=>(ah (ba (i:=2) b rfl (fA rfl) (vc a c (ae (v_ 0) ab))) (ai (aw (dh (ns:=["row"]) (ys:=["fill"]) (fr:=[2]) (cl:=[("fill",‹s›+1)]) (csN [(".0",.local),("row",.local),("fill",.cell)]) rfl (dj (cv (v_ 1) (bt ag) bx)) (λ_ _ _ _=>ic) (λ_ _ _ _=>cp) (λ_ _ _ _=>(aj az (aj az (cv (v_ 0) bx (bt ag)) (v_ 1)) (cv (v_ 0) (bt ag) bx))) (by show cE)))))
def Hw (z:Bl mg)(c:Qc P w K mg base)(d:Qi P w K mg base)(e:Qk P w K mg base)(F:Fd K mg "either_ways" (top 43) ZL f fd):Ql P w K mg base:=F.go 3 1 ["one","other","start","fill"] _ Jy λb g A outer s H E a=>(ah (ba (i:=2) b rfl (aS rfl) (aj az (aj az (bc (ae (vc c a (ae (ao (ao (v_ 0) ag) ag) (ae (ao (ao (v_ 1) ag) ag) ab))) ab)) (cv (ao (v_ 0) ag) (bt ag) bx)) (cv (ao (v_ 1) ag) (bt ag) bx))) (ah (ba (i:=3) b rfl (fA rfl) (vc d a (ae (v_ 1) ab))) (ai (aw (aj az (aj az (bc (ae (v_ 2) ab)) (dh (ns:=["row"]) (ys:=["fill"]) (fr:=[3]) (cl:=[("fill",‹s›+1)]) (csN [(".0",.local),("row",.local),("fill",.cell)]) rfl (dj (cv (v_ 0) (bt ag) bx)) (λ_ _ _ _=>ic) (λ_ _ _ _=>cp) (λ_ _ _ _=>(aj az (v_ 0) (v_ 1))) (by show cE))) (vc e a (ae (v_ 0) (ae (v_ 1) ab))))))))
def Oq (z:Bl mg)(c:Qg P w K mg base)(d:Qk P w K mg base)(F:Fd K mg "then_ways" (top 44) ZS f fd):Qm P w K mg base:=F.go 3 2 ["first","second","rows","row","begun"] _ Pi λa e A outer s H E b=>(ah (ij (i:=2) (j:=0) a rfl (aS rfl) (bc ab)) (ah (cz (L:=[3,4]) bF rfl (dj (v_ 0)) (c7 (i:=3) a rfl (fA rfl)) (ah (jd (i0:=4) a rfl rfl (ns:=ZI) (ys:=["row"]) (fr:=[3]) (cl:=[("row",‹s›+1)]) (csN [(".0",.local),("relation",.local),("one_then_other",.globalImplicit),("row",.cell)]) rfl (dj (ao (v_ 1) ag)) (λ_ _ _ _=>ic) (λ_ _ _ _=>cp) (λ_ _ _ _=>(vc c b (ae (ao (v_ 1) ag) (ae (v_ 0) ab)))) (by show cE)) (ai (d8 (vo (i:=2) rfl (aS rfl) (aj az (aj az (cv (v_ 4) bx (bt ag)) (cv (v_ 3) (bt ag) bx)) (cv (v_ 4) (bt ag) bx))))))) (ai (aw (aj az (v_ 2) (vc d b (ae (v_ 0) (ae (v_ 1) ab))))))))
def Kj (z:Bl mg)(F:Fd K mg "must_value" (top 12) YO f fd):Qn P w K mg base:=F.go 0 1 YO _ M7 λa b A outer s H E c=>(ai (cq (tw (E8 (bf zc (v_ 1) ag) (kh (bf og_ge (v_ 1) (v_ 0))))) (ai qu) cg))
def Rn (z:Bl mg)(b:Qn P w K mg base)(F:Fd K mg "place_of" (top 11) YX f fd):Qo P w K mg base:=F.go 1 1 ["speech","field","value","place","pair"] _ Ve λc d A outer s H E a=>(ah (cz (L:=[3,4]) bF rfl (Sl rfl z.enumerate (ae (v_ 0) ab)) (vg2 (i:=3) (j:=4) rfl c rfl rfl (aS rfl) (aS rfl)) (ai (cq (bf (ef a.units) (ao (v_ 4) ag) (v_ 1)) (ah (d8 (vc b a (ae (ao (v_ 4) ag) (ae (v_ 2) ab)))) (ai (aw (v_ 3)))) cg))) (ai qu))
def Hx (z:Bl mg)(F:Fd K mg "is_relation" (top 40) ZV f fd):Qp P w K mg base:=F.go 0 1 ZV _ J0 λb c A outer s H E a=>(ai (aw (dh (ns:=["at","letter"]) (ys:=["place","value"]) (fr:=[1,2]) (cl:=[("value",‹s›+2),("place",‹s›+1)]) (csN [(".0",.local),("at",.local),("letter",.local),("place",.cell),("value",.cell)]) rfl (D4 rfl z.enumerate (ae (v_ 0) ab)) (λ_ _ _ _=>(xl rfl)) (λ_ _ _ _=>cp) (λ_ _ _ _=>(E9 (bf (ef a.units) (ao (v_ 1) (v_ 2)) (v_ 3)) (aj Fc ag (v_ 0)) ag)) xm)))
def Fz (z:Bl mg)(F:Fd K mg "put_relation" (top 41) ZV f fd):Qq P w K mg base:=F.go 0 1 ["letters","place","value","put"] _ He λa c A outer s H E b=>(ah (jd (i0:=3) a rfl rfl (ns:=YI) (ys:=["place","value"]) (fr:=[1,2]) (cl:=[("value",‹s›+3),("place",‹s›+2)]) (csN [(".0",.local),("letter",.local),("place",.cell),("value",.cell)]) rfl (dj (v_ 0)) (λ_ _ _ _=>ic) (λ_ _ _ _=>cp) (λ_ _ _ _=>(aj az (aj az (cv (v_ 0) bx (bt (v_ 1))) (d7 (ae (v_ 2) ab))) (cv (v_ 0) (bt (aj az (v_ 1) ag)) bx))) (by show cE)) (ai (aw (dh (ns:=YI) (ys:=["letters"]) (fr:=[0]) (cl:=[("letters",‹s›+1)]) (csN [(".0",.local),("letter",.local),("letters",.cell)]) rfl (dj (v_ 3)) (λ_ _ _ _=>ic) (λ_ _ _ _=>cp) (λ_ _ _ _=>(aj Fc ag (U0 dM iN mU (D2 b.units) (v_ 1) (bu (v_ 0) ab)))) (by show cE)))))
def V9 (z:Bl mg)(a:Gc #v[P,w,K] mg "HOLDING_SORTS" qg)(F:Fd K mg "held_in" (top 27) ZX f fd):Qr P w K mg base:=F.go 0 1 ZX _ Y1 λc d A outer s H E b=>(ah (cq (bf (Ux b.units) (ao (v_ 0) ag) (vgl a)) (ai (aw (cv (v_ 0) (bt ag) bx))) cg) (ai (aw (d7 ab))))
def Ro (z:Bl mg)(b:Qr P w K mg base)(F:Fd K mg "parts_of" (top 26) ZX f fd):Qs P w K mg base:=F.go 1 3 ["saying","parts","waiting","part"] _ Vh λa d A outer s H E c=>(ah (ij (i:=1) (j:=1) a rfl (aS rfl) (bc ab)) (ah (ij (i:=2) (j:=0) a rfl (aS rfl) (bc (ae (v_ 0) ab))) (ah (vq (L:=[3]) bF (ia (v_ 2)) (ah (ba (i:=3) a rfl (aS rfl) (Mc (i:=2) dM nW nX Me rfl (aS rfl))) (ah (d8 (vo (i:=1) rfl (aS rfl) (v_ 3))) (ai (d8 (aep (i:=2) dM PySem.F.slot_list_extend PySem.F.type_list_extend Jg rfl (aS rfl) (bu (alh (vc b c (ae (v_ 3) ab)) (p7 ag)) ab))))))) (ai (aw (v_ 1))))))
def Wa (z:Bl mg)(b:Gc #v[P,w,K] mg "TEST_SORTS" vy)(c:Qs P w K mg base)(F:Fd K mg "is_test" (top 30) ZX f fd):Qt P w K mg base:=F.go 2 1 ZX _ Y3 λd e A outer s H E a=>(ai (aw (br (akv rfl) rfl z.all ⋯ (bu (dh (ns:=["part"]) (ys:=[]) (fr:=[]) (cl:=[]) (csN [(".0",.local),("part",.local),("TEST_SORTS",.globalImplicit)]) rfl (dj (vc c a (ae (v_ 0) ab))) (λ_ _ _ _=>ic) (λ_ _ _ _=>cp) (λ_ _ _ _=>(yb (Ux a.units) (ao (v_ 0) ag) (vgl b))) (by show cE)) ab))))
def Rq (z:Bl mg)(b:Qs P w K mg base)(F:Fd K mg "notes_in" (top 31) ZX f fd):Qu P w K mg base:=F.go 2 1 ZX _ Vj λc d A outer s H E a=>(ai (aw (br de rfl z.len ⋯ (bu (dh (ns:=["part"]) (ys:=[]) (fr:=[]) (cl:=[]) (csN [(".0",.local),("part",.local)]) rfl (dj (vc b a (ae (v_ 0) ab))) (λ_ _ _ _=>ic) (λ_ _ _ _=>(yf (bf (ef a.units) (ao (v_ 0) ag) b9))) (λ_ _ _ _=>(v_ 0)) (by show cE)) ab))))
def Os (z:Bl mg)(a:Qt P w K mg base)(F:Fd K mg "must_test" (top 32) ZX f fd):Qv P w K mg base:=F.go 3 1 ZX _ Pk λc d A outer s H E b=>(ai (cq (Bc (ia (vc a b (ae (v_ 0) ab)))) (ai qu) cg))
def Kk (z:Bl mg)(a:Qu P w K mg base)(F:Fd K mg "must_plain" (top 33) ZX f fd):Qw P w K mg base:=F.go 3 1 ZX _ Na λc d A outer s H E b=>(ai (cq (ia (vc a b (ae (v_ 0) ab))) (ai qu) cg))
def Ot (z:Bl mg)(b:Gc #v[P,w,K] mg "FIELD_SORTS" t8)(c:Qo P w K mg base)(d:Qv P w K mg base)(F:Fd K mg "must_part" (top 29) YN f fd):Qx P w K mg base:=F.go 4 1 YN _ Pn λe g A outer s H E a=>(ah (cq (bf (Ux a.units) (ao (v_ 1) ag) (vgl b)) (ai (d8 (vc c a (ae (v_ 0) (ae (ao (v_ 1) ag) (ae (ao (v_ 1) ag) ab)))))) cg) (ai (cq (bf (ef a.units) (ao (v_ 1) ag) b9) (ai (d8 (vc d a (ae (ao (v_ 1) ag) ab)))) cg)))
def Hy (z:Bl mg)(b:Qs P w K mg base)(c:Qx P w K mg base)(F:Fd K mg "must_saying" (top 28) ZN f fd):Qy P w K mg base:=F.go 5 1 ["speech","saying","part"] _ J2 λd e A outer s H E a=>(ai (cz (L:=[2]) bF rfl (dj (vc b a (ae (v_ 1) ab))) (c7 (i:=2) d rfl (aS rfl)) (ai (d8 (vc c a (ae (v_ 0) (ae (v_ 2) ab)))))))
def C2 (z:Bl mg)(b:Qa P w K mg base)(c:Qb P w K mg base)(d:Qo P w K mg base)(e:Qp P w K mg base)(g:Qq P w K mg base)(F:Fd K mg "plain_relation" (top 39) YY f fd):Qz P w K mg base:=F.go 2 1 ["speech","letters","part","place"] _ Ee λh j A outer s H E a=>(ah (cq (bf (ef a.units) (ao (v_ 2) ag) b9) (ai (aw (vc b a (ae (br de rfl z.len ⋯ (bu (v_ 1) ab)) ab)))) cg) (ah (cq (bf (ef a.units) (ao (v_ 2) ag) b9) (ai (aw (vc c a (ae (br de rfl z.len ⋯ (bu (v_ 1) ab)) ab)))) cg) (ah (ba (i:=3) h rfl (aS rfl) (vc d a (ae (v_ 0) (ae (ao (v_ 2) ag) (ae (ao (v_ 2) ag) ab))))) (ah (cq (bf (ef a.units) (ao (v_ 2) ag) b9) (ai (aw (vc e a (ae (v_ 1) (ae (v_ 3) (ae (ao (v_ 2) ag) ab)))))) cg) (ai (aw (vc g a (ae (v_ 1) (ae (v_ 3) (ae (ao (v_ 2) ag) ab))))))))))
def Ou (z:Bl mg)(b:Qg P w K mg base)(d:Qc P w K mg base)(F:Fd K mg "again_row" (top 48) YM f fd):QA P w K mg base:=F.go 2 1 ["row","anew","start","ended","later"] _ Pt λc e A outer s H E a=>(ah (ba (i:=3) c rfl (fA rfl) (vc b a (ae (ao (v_ 0) ag) (ae (v_ 1) ab)))) (ah (jd (i0:=4) c rfl rfl (ns:=["old","begun"]) (ys:=["ended"]) (fr:=[3]) (cl:=[("ended",‹s›+1)]) (csN [(".0",.local),("old",.local),("begun",.local),("either_of",.globalImplicit),("one_then_other",.globalImplicit),("ended",.cell)]) rfl (G3 rfl z.zip (ae (cv (v_ 0) (bt ag) bx) (ae (cv (v_ 2) (bt ag) bx) ab))) (λ_ _ _ _=>(xl rfl)) (λ_ _ _ _=>cp) (λ_ _ _ _=>(vc d a (ae (v_ 0) (ae (vc b a (ae (v_ 2) (ae (v_ 1) ab))) ab)))) xm) (ai (aw (aj az (bc (ae (v_ 3) ab)) (v_ 4))))))
def Kl (z:Bl mg)(c:Qh P w K mg base)(d:QA P w K mg base)(F:Fd K mg "again_ways" (top 47) YF f fd):QB P w K mg base:=F.go 3 1 ["ways","anew","rows"] _ Nd λa e A outer s H E b=>(ah (ba (i:=1) a rfl (fA rfl) (vc c b (ae (ao (ao (v_ 0) ag) ag) ab))) (acr (i0:=2) (iv:=1) (ns:=["row"]) (ys:=["anew","ways"]) (fr:=[1,0]) (cl:=[("ways",‹s›+1),("anew",‹s›+2)]) a rfl rfl (csN [(".0",.local),("row",.local),("again_row",.globalImplicit),("anew",.cell),("ways",.cell)]) rfl (dj (v_ 0)) (λ_ _ _ _=>ic) (λ_ _ _ _=>(vc d b (ae (v_ 0) (ae (v_ 1) (ae (ao (v_ 2) ag) ab))))) (by show cE) (by decide) (La (pv 1) (Wk (Kw B6 (pv 2) K6 (λ_ _=>rfl)) K6 Lh)) (ai (aw (v_ 2)))))
def Ga (z:Bl mg)(b:Ql P w K mg base)(c:Qm P w K mg base)(d:QB P w K mg base)(e:Qd P w K mg base)(g:Qj P w K mg base)(h:Qz P w K mg base)(F:Fd K mg "ways_of_part" (top 38) ZP f fd):QC P w K mg base:=F.go 4 1 ZP _ Hj λi j A outer s H E a=>(ah (cq (bf (ef a.units) (ao (v_ 2) ag) b9) (ai (aw (vc b a (ae (ao (v_ 3) ag) (ae (ao (v_ 3) ag) ab))))) cg) (ah (cq (bf (ef a.units) (ao (v_ 2) ag) b9) (ai (aw (vc c a (ae (ao (v_ 3) ag) (ae (ao (v_ 3) ag) ab))))) cg) (ah (cq (bf (ef a.units) (ao (v_ 2) ag) b9) (ai (aw (vc d a (ae (ao (v_ 3) ag) ab)))) cg) (ah (cq (bf (ef a.units) (ao (v_ 2) ag) b9) (ai (aw (bc (ae (bc (ae (vc e a (ae (ao (ao (ao (v_ 3) ag) ag) ag) ab)) ab)) ab)))) cg) (ah (cq (bf (ef a.units) (ao (v_ 2) ag) b9) (ai (aw (vc g a (ae (br de rfl z.len ⋯ (bu (v_ 1) ab)) ab)))) cg) (ai (aw (bc (ae (bc (ae (vc h a (ae (v_ 0) (ae (v_ 1) (ae (v_ 2) ab)))) ab)) ab)))))))))
def Wb (z:Bl mg)(c:Qs P w K mg base)(d:Qr P w K mg base)(e:QC P w K mg base)(F:Fd K mg "ways_of" (top 37) ZD f fd):QD P w K mg base:=F.go 5 2 ["speech","letters","saying","waiting","part","inner"] _ Y7 λa g A outer s H E b=>(ah (ij (i:=3) (j:=0) a rfl (fA rfl) (bc ab)) (ah (cz (L:=[4,5]) bF rfl (ale rfl z.reversed (ae (vc c b (ae (v_ 2) ab)) ab)) (c7 (i:=4) a rfl (aS rfl)) (ah (jd (i0:=5) a rfl rfl (ns:=["held"]) (ys:=["waiting"]) (fr:=[3]) (cl:=[("waiting",‹s›+1)]) (csN [(".0",.local),("held",.local),("waiting",.cell)]) rfl (lu (vc d b (ae (v_ 4) ab))) (λ_ _ _ _=>ic) (λ_ _ _ _=>cp) (λ_ _ _ _=>(Mc (i:=1) dM nW nX Me rfl (fA (aS rfl)))) (by show cE)) (ai (d8 (vo (i:=3) rfl (fA (aS rfl)) (vc e b (ae (v_ 0) (ae (v_ 1) (ae (v_ 4) (ae (v_ 5) ab)))))))))) (ai (aw (Mc (i:=3) dM nW nX Me rfl (fA (aS rfl)))))))
def Hz (z:Bl mg)(F:Fd K mg "each_longer" (top 10) YG f fd):QE P w K mg base:=F.go 0 2 ["letters","count","longer","letter"] _ J4 λa b A outer s H E c=>(ah (ij (i:=2) (j:=0) a rfl (aS rfl) (bc ab)) (ah (cz (L:=[3]) bF rfl (dj (v_ 0)) (c7 (i:=3) a rfl (fA rfl)) (ai (d8 (aep (i:=2) dM PySem.F.slot_list_extend PySem.F.type_list_extend Jg rfl (aS rfl) (bu (dh (ns:=["value"]) (ys:=YI) (fr:=[3]) (cl:=[("letter",‹s›+1)]) (csN [(".0",.local),("value",.local),("letter",.cell)]) rfl (gh rfl z.range (ae (v_ 1) ab)) (λ_ _ _ _=>ic) (λ_ _ _ _=>cp) (λ_ _ _ _=>(aj az (v_ 1) (d7 (ae (v_ 0) ab)))) (by show cE)) ab))))) (ai (aw (v_ 2)))))
def Km (z:Bl mg)(b:QE P w K mg base)(F:Fd K mg "letters_of" (top 9) ["speech"] f fd):QF P w K mg base:=F.go 1 1 ["speech","letters","pair"] _ Ng λa d A outer s H E c=>(ah (ba (i:=1) a rfl (aS rfl) (bc (ae (d7 ab) ab))) (ah (cz (L:=[2]) bF rfl (lu (v_ 0)) (c7 (i:=2) a rfl (aS rfl)) (ai (ba (i:=1) a rfl (aS rfl) (vc b c (ae (v_ 1) (ae (ao (v_ 2) ag) ab)))))) (ai (aw (v_ 1)))))
def Ov (z:Bl mg)(a:Cls K C)(b:NoAttr K C "letters")(c:NoAttr K C "ways")(F:Cd K mg "Runs" "__init__" "Runs.__init__" (kn (top 35) 0) ZK d f fd):QG P w K mg base C:=F.go 0 0 0 ZK _ Pv λe g A outer s H E h=>(ah (Yp (i:=0) a b rfl (aS rfl) (v_ 1)) (ai (Yp (i:=0) a c rfl (aS rfl) (v_ 2))))
def By (z:Bl mg)(b:Cls K C)(d:NoAttr K C "letters")(c:NoAttr K C "ways")(F:Md K C "masks_from" "Runs.masks_from" (kn (top 35) 6) ZT f fd):QH P w K mg base C:=F.go 0 1 ["self","rooms","letter","place","masks","room"] _ Cy λa g A outer s H E e=>(ah (ba (i:=3) a rfl (fA rfl) (U0 dM iN mU (D2 e.units) (Fj b d (v_ 0)) (bu (v_ 2) ab))) (ah (ba (i:=4) a rfl (aS rfl) (aj lq (bc (ae ag ab)) (br de rfl z.len ⋯ (bu (Fj b c (v_ 0)) ab)))) (ah (cz (L:=[5]) bF rfl (lu (v_ 1)) (c7 (i:=5) a rfl (aS rfl)) (ai (jd (i0:=4) a rfl rfl (ns:=YV) (ys:=["place"]) (fr:=[3]) (cl:=[("place",‹s›+1)]) (csN [(".0",.local),("mask",.local),("relation",.local),("place",.cell)]) rfl (G3 rfl z.zip (ae (v_ 4) (ae (ao (Fj b c (v_ 0)) (v_ 5)) ab))) (λ_ _ _ _=>(xl rfl)) (λ_ _ _ _=>cp) (λ_ _ _ _=>(aj Uw (v_ 0) (ao (v_ 1) (v_ 2)))) xm))) (ai (aw (v_ 4))))))
def C3 (z:Bl mg)(b:Cls K C)(c:NoAttr K C "letters")(d:Qe P w K mg base)(e:QH P w K mg base C)(F:Md K C "ends_from" "Runs.ends_from" (kn (top 35) 4) ZT f fd):QI P w K mg base C:=F.go 1 1 ZT _ Eg λg h A outer s H E a=>(ai (aw (vc d a (ae (Fj b c (v_ 0)) (ae (ao (G7 e a (v_ 0) (ae (v_ 1) (ae (v_ 2) ab))) ag) ab)))))
def Ow (z:Bl mg)(a:QI P w K mg base C)(F:Md K C "ends" "Runs.ends" (kn (top 35) 2) ZH f fd):QJ P w K mg base C:=F.go 2 1 ZH _ Px λc d A outer s H E b=>(ai (aw (G7 a b (v_ 0) (ae (d7 (ae (v_ 1) ab)) (ae (v_ 2) ab)))))
def Gb (z:Bl mg)(b:Qy P w K mg base)(c:QF P w K mg base)(d:QG P w K mg base C)(e:QD P w K mg base)(F:Kd K mg "Machine" "Machine.__init__" (kn (top 36) 0) YW C f fd):QK P w K mg base C:=F.go 0 6 0 ["self","speech","saying","letters"] _ Hl λg h A outer s H E a=>(ah (d8 (vc b a (ae (v_ 1) (ae (v_ 2) ab)))) (ah (ba (i:=3) g rfl (aS rfl) (vc c a (ae (v_ 1) ab))) (ai (d8 (vcm d a (bu (v_ 0) (ae (v_ 3) (ae (vc e a (ae (v_ 1) (ae (v_ 3) (ae (v_ 2) ab)))) ab))))))))
def Rr (z:Bl mg)(F:Fd K mg "with_put" (top 52) YU f fd):QL P w K mg base:=F.go 0 1 YU _ Vo λa b A outer s H E c=>(ai (aw (ib lr rfl z.tuple ⋯ (bu (dh (ns:=["own","value"]) (ys:=[]) (fr:=[]) (cl:=[]) (csN [(".0",.local),("own",.local),("value",.local)]) rfl (Yl rfl z.zip (ae (v_ 0) (ae (v_ 1) ab))) (λ_ _ _ _=>(xl rfl)) (λ_ _ _ _=>cp) (λ_ _ _ _=>(E9 (bf aeo (v_ 1) vm) (v_ 0) (v_ 1))) xm) ab))))
def Wc (z:Bl mg)(b:QL P w K mg base)(F:Fd K mg "matches" (top 51) YT f fd):QM P w K mg base:=F.go 1 1 YT _ Zb λc d A outer s H E a=>(ai (aw (yb (ef a.units) (vc b a (ae (v_ 1) (ae (v_ 0) ab))) (v_ 1))))
def Rt (z:Bl mg)(b:QM P w K mg base)(c:QL P w K mg base)(F:Fd K mg "by_table" (top 50) YD f fd):QN P w K mg base:=F.go 2 1 ["table","letter","row"] _ Vq λd e A outer s H E a=>(ah (cz (L:=[2]) bF rfl (dj (v_ 0)) (c7 (i:=2) d rfl (aS rfl)) (ai (cq (ia (vc b a (ae (ao (v_ 2) ag) (ae (v_ 1) ab)))) (ai (aw (Gx rfl a.units rfl z.sorted ⋯ rfl z.set ⋯ (dh (ns:=["deed"]) (ys:=YI) (fr:=[1]) (cl:=[("letter",‹s›+1)]) (csN [(".0",.local),("deed",.local),("with_put",.globalImplicit),("letter",.cell)]) rfl (lu (ao (v_ 2) ag)) (λ_ _ _ _=>ic) (λ_ _ _ _=>cp) (λ_ _ _ _=>(vc c a (ae (v_ 1) (ae (v_ 0) ab)))) (by show cE))))) cg))) (ai (aw (bc ab))))
def Ru (z:Bl mg)(F:Fd K mg "deed_for" (top 55) YL f fd):QO P w K mg base:=F.go 0 1 YL _ Vs λb c A outer s H E a=>(ai (aw (ib lr rfl z.tuple ⋯ (bu (dh (ns:=["value","own"]) (ys:=[]) (fr:=[]) (cl:=[]) (csN [(".0",.local),("value",.local),("own",.local)]) rfl (Yl rfl z.zip (ae (v_ 1) (ae (v_ 0) ab))) (λ_ _ _ _=>(xl rfl)) (λ_ _ _ _=>cp) (λ_ _ _ _=>(E9 (bf (ef a.units) (v_ 0) (v_ 1)) vm (v_ 0))) xm) ab))))
def We (z:Bl mg)(a:QO P w K mg base)(F:Fd K mg "row_for" (top 54) ZA f fd):QP P w K mg base:=F.go 1 1 ZA _ Zd λc d A outer s H E b=>(ai (aw (d7 (ae (v_ 0) (ae (ib lr rfl z.tuple ⋯ (bu (dh (ns:=["end"]) (ys:=YI) (fr:=[0]) (cl:=[("letter",‹s›+1)]) (csN [(".0",.local),("end",.local),("deed_for",.globalImplicit),("letter",.cell)]) rfl (dj (v_ 1)) (λ_ _ _ _=>ic) (λ_ _ _ _=>cp) (λ_ _ _ _=>(vc a b (ae (v_ 1) (ae (v_ 0) ab)))) (by show cE)) ab)) ab)))))
def Ox (z:Bl mg)(F:Fd K mg "wider_row" (top 59) YK f fd):QQ P w K mg base:=F.go 0 1 YK _ Pz λa b A outer s H E c=>(ai (aw (d7 (ae (aj az (aj az (cv (ao (v_ 0) ag) bx (bt (v_ 1))) (d7 (ae vm ab))) (cv (ao (v_ 0) ag) (bt (aj az (v_ 1) ag)) bx)) (ae (ao (v_ 0) ag) ab)))))
def Rv (z:Bl mg)(b:QN P w K mg base)(F:Fd K mg "does_all" (top 60) ZW f fd):QR P w K mg base:=F.go 3 1 ["table","wanted","letter","ends"] _ Vu λc d A outer s H E a=>(ah (cz (L:=[2,3]) bF rfl (dj (v_ 1)) (vg2 (i:=2) (j:=3) rfl c rfl rfl (aS rfl) (aS rfl)) (ai (cq (bf (ug a.units) (vc b a (ae (v_ 0) (ae (v_ 2) ab))) (v_ 3)) (ai (aw pz)) cg))) (ai (aw pz)))
def Bz (z:Bl mg)(b:QR P w K mg base)(F:Fd K mg "with_fewer_rows" (top 57) ZW f fd):QS P w K mg base:=F.go 4 1 ["table","wanted","place","fewer"] _ C0 λa d A outer s H E c=>(ah (cz (L:=[2,3]) bF rfl (ahj rfl z.range (ae (aj L7 (br de rfl z.len ⋯ (bu (v_ 0) ab)) ag) (ae (p7 ag) (ae (p7 ag) ab)))) (c7 (i:=2) a rfl (aS rfl)) (ah (ba (i:=3) a rfl (aS rfl) (aj az (cv (v_ 0) bx (bt (v_ 2))) (cv (v_ 0) (bt (aj az (v_ 2) ag)) bx))) (ai (cq (ia (vc b c (ae (v_ 3) (ae (v_ 1) ab)))) (ai (ba (i:=0) a rfl (aS rfl) (v_ 3))) cg)))) (ai (aw (v_ 0))))
def yt (z:Bl mg)(c:QQ P w K mg base)(d:QR P w K mg base)(F:Fd K mg "with_wider_matches" (top 58) ZW f fd):QT P w K mg base:=F.go 4 1 ["table","wanted","place","field","wider"] _ z6 λa e A outer s H E b=>(ah (cz (L:=[2,3,4]) bF rfl (gh rfl z.range (ae (br de rfl z.len ⋯ (bu (v_ 0) ab)) ab)) (c7 (i:=2) a rfl (aS rfl)) (ai (cz (L:=[3,4]) bF rfl (gh rfl z.range (ae (br de rfl z.len ⋯ (bu (ao (ao (v_ 0) (v_ 2)) ag) ab)) ab)) (c7 (i:=3) a rfl (aS rfl)) (ah (ba (i:=4) a rfl (aS rfl) (aj az (aj az (cv (v_ 0) bx (bt (v_ 2))) (bc (ae (vc c b (ae (ao (v_ 0) (v_ 2)) (ae (v_ 3) ab))) ab))) (cv (v_ 0) (bt (aj az (v_ 2) ag)) bx))) (ai (cq (ia (vc d b (ae (v_ 4) (ae (v_ 1) ab)))) (ai (ba (i:=0) a rfl (aS rfl) (v_ 4))) cg)))))) (ai (aw (v_ 0))))
def Kn (z:Bl mg)(c:QT P w K mg base)(d:QS P w K mg base)(F:Fd K mg "made_small" (top 56) ZW f fd):QU P w K mg base:=F.go 5 1 ["table","wanted","before"] _ Nn λa e A outer s H E b=>(ah (ba (i:=2) a rfl (aS rfl) (bc ab)) (ah (vq (L:=[]) bF (bf (ug b.units) (v_ 0) (v_ 2)) (ah (ba (i:=2) a rfl (aS rfl) (v_ 0)) (ai (ba (i:=0) a rfl (aS rfl) (vc c b (ae (vc d b (ae (v_ 0) (ae (v_ 1) ab))) (ae (v_ 1) ab))))))) (ai (aw (v_ 0)))))
def Rw (z:Bl mg)(c:Qy P w K mg base)(d:Qw P w K mg base)(e:QK P w K mg base C)(g:QF P w K mg base)(h:QJ P w K mg base C)(j:QU P w K mg base)(l:QP P w K mg base)(F:Fd K mg "table_of" (top 53) ZN f fd):QV P w K mg base:=F.go 8 1 ["speech","saying","machine","wanted"] _ Vw λb m A outer s H E a=>(ah (d8 (vc c a (ae (v_ 0) (ae (v_ 1) ab)))) (ah (d8 (vc d a (ae (v_ 1) ab))) (ah (ba (i:=2) b rfl (fA rfl) (aho e a (ae (v_ 0) (ae (v_ 1) ab)))) (ah (jd (i0:=3) b rfl rfl (ns:=YI) (ys:=["machine"]) (fr:=[2]) (cl:=[("machine",‹s›+1)]) (csN [(".0",.local),("letter",.local),("machine",.cell)]) rfl (dj (vc g a (ae (v_ 0) ab))) (λ_ _ _ _=>ic) (λ_ _ _ _=>cp) (λ_ _ _ _=>(d7 (ae (v_ 0) (ae (G7 h a (v_ 1) (ae ag (ae (v_ 0) ab))) ab)))) (by show cE)) (ai (aw (vc j a (ae (dh (ns:=ZA) (ys:=[]) (fr:=[]) (cl:=[]) (csN [(".0",.local),("letter",.local),("ends",.local),("row_for",.globalImplicit)]) rfl (dj (v_ 3)) (λ_ _ _ _=>(xl rfl)) (λ_ _ _ _=>cp) (λ_ _ _ _=>(vc l a (ae (v_ 0) (ae (v_ 1) ab)))) xm) (ae (v_ 3) ab)))))))))
def Rx (z:Bl mg)(a:Qn P w K mg base)(F:Fd K mg "must_tie" (top 63) ["speech","tie"] f fd):QW P w K mg base:=F.go 1 1 ["speech","tie","place","value"] _ V2 λb d A outer s H E c=>(ai (cz (L:=[2,3]) bF rfl (Sl rfl z.enumerate (ae (v_ 1) ab)) (vg2 (i:=2) (j:=3) rfl b rfl rfl (aS rfl) (aS rfl)) (ai (d8 (vc a c (ae (ao (ao (v_ 0) (aj js (v_ 2) ag)) ag) (ae (v_ 3) ab)))))))
def Ry (z:Bl mg)(c:Qy P w K mg base)(d:Qw P w K mg base)(e:QW P w K mg base)(F:Fd K mg "must_net" (top 62) ["net"] f fd):QX P w K mg base:=F.go 6 1 ["net","speech","rule","tie"] _ V4 λb g A outer s H E a=>(ah (ba (i:=1) b rfl (aS rfl) (ao (v_ 0) ag)) (ah (cq (bf zc (br de rfl z.len ⋯ (bu (v_ 1) ab)) ag) (ai qu) cg) (ah (cq (bf (ug a.units) (br de rfl z.len ⋯ (bu (ao (v_ 0) ag) ab)) (ao (ao (v_ 1) ag) ag)) (ai qu) cg) (ah (cz (L:=[2]) bF rfl (lu (ao (v_ 0) ag)) (c7 (i:=2) b rfl (aS rfl)) (ah (d8 (vc c a (ae (v_ 1) (ae (v_ 2) ab)))) (ai (d8 (vc d a (ae (v_ 2) ab)))))) (ai (cz (L:=[3]) bF rfl (lu (ao (v_ 0) ag)) (c7 (i:=3) b rfl (aS rfl)) (ai (d8 (vc e a (ae (v_ 1) (ae (v_ 3) ab)))))))))))
def Oy (z:Bl mg)(b:(QX P w K mg base))(c:(QV P w K mg base))(F:Fd K mg "tables_of" (top 64) ["net"] f fd):(QY P w K mg base):=
 .of F (amd (nc:=1) (N:=["net"]) (kk:=1) (t:=.one 0) F.fn fsN rfl (show 0 < 1 from cE) (λd A outer s H E a=>⟨d8 (vc b a (ae (v_ 0) ab)),vd (R7 (ns:=["rule"]) (ys:=["net"]) (fr:=[0]) (cl:=[("net",‹s›+1)]) (g:=gOf K (.one 0)) (tt:=lfT #v[P,w,K] cu) (te:=lf #v[P,w,K] N74.tbF) (csN [(".0",.local),("rule",.local),("table_of",.globalImplicit),("net",.cell)]) rfl (N74.pi_of (lu (ao (v_ 0) ag))) (λ_ _ _ _=>N74.pg_of ic) (λ_ _ _ _=>cp) (λ_ _ _ _=>N74.pe_of (vcn c a (ae (ao (v_ 1) ag) (ae (v_ 0) ab)))))⟩) N74.f_tables_of)
def Oz (z:Bl mg)(F:Fd K mg "_law_cell" (top 66) ZG f fd):QZ P w K mg base:=F.go 0 1 ZG _ P2 λa b A outer s H E c=>(ah (cq (bf zc (v_ 1) (br de rfl z.len ⋯ (bu (v_ 0) ab))) (ai (aw (ao (v_ 0) (v_ 1)))) cg) (ai (aw ag)))
def Kp (z:Bl mg)(F:Fd K mg "_law_purse" (top 67) YC f fd):Q0 P w K mg base:=F.go 0 1 ["_law_cell_here","_law_number","_law_found","_law_k"] _ Nt λa c A outer s H E b=>(ah (ba (i:=1) a rfl (aS rfl) (aj js (v_ 0) ag)) (ah (ba (i:=2) a rfl (aS rfl) ag) (ah (cz (L:=[3]) bF rfl (gh rfl z.range (ae ag ab)) (c7 (i:=3) a rfl (aS rfl)) (ah (ba (i:=1) a rfl (aS rfl) (aj js (aj az (aj az (aj az (aj lq (v_ 1) (v_ 1)) (aj lq (aj lq ag (v_ 3)) (v_ 3))) (v_ 3)) ag) ag)) (ai (ba (i:=2) a rfl (aS rfl) (aj az (aj lq (v_ 2) ag) (aj js (aj lq (v_ 1) (v_ 1)) ag)))))) (ah (cq (bf (ef b.units) (aj js (v_ 0) ag) ag) (ai (aw (bc (ae (aj Gw (br aks rfl z.abs ⋯ (bu (v_ 0) ab)) ag) (ae (v_ 2) ab))))) cg) (ai (aw (bc (ae ag (ae (v_ 2) ab)))))))))
def O1 (z:Bl mg)(F:Fd K mg "_law_take" (top 68) ZE f fd):Q1 P w K mg base:=F.goR 0 0 0 ["_law_purse_here","_law_many","_law_at","_law_found"] _ P4 λa c A outer s H E b=>(ah (ba (i:=2) a rfl (aS rfl) (ib Ye rfl z.int ⋯ (bu (yb (ef b.units) (ao (v_ 0) ag) ag) ab))) (ah (ba (i:=3) a rfl (aS rfl) (aj js (ao (v_ 0) (v_ 2)) (v_ 1))) (ah (ki (i:=0) rfl (aS rfl) b.units (aj Gw (ao (v_ 0) (v_ 2)) (v_ 1)) (v_ 2)) (ai (aw (v_ 3))))))
def H0 (z:Bl mg)(d:Q0 P w K mg base)(c:Q1 P w K mg base)(F:Fd K mg "_law_speech" (top 69) ZM f fd):Q2 P w K mg base:=F.go 1 3 ["_law_cell_here","_law_least_here","_law_purse_here","_law_first","_law_letters_here","_law_left","_law_many","_law_tail","_law_speech_here","_law_k","_law_count","_law_word"] _ J7 λa e A outer s H E b=>(ah (ij (i:=2) (j:=1) a rfl (aS rfl) (vc d b (ae (v_ 0) ab))) (ah (ba (i:=3) a rfl (aS rfl) (vcr c b (bu (v_ 2) (ae ag ab)))) (ah (ba (i:=4) a rfl (aS rfl) b9) (ah (ba (i:=5) a rfl (aS rfl) (ao (bc (ae ag (ae ag (ae ag (ae ag (ae ag (ae ag (ae ag (ae ag ab))))))))) (vcr c b (bu (v_ 2) (ae ag ab))))) (ah (ba (i:=6) a rfl (aS rfl) (br (Yf rfl) rfl z.max ⋯ (bu (v_ 1) (bu (aj az ag (vcr c b (bu (v_ 2) (ae ag ab)))) ab)))) (ah (ba (i:=7) a rfl (aS rfl) (cv b9 bx (bt (vcr c b (bu (v_ 2) (ae ag ab)))))) (ah (ij (i:=8) (j:=0) a rfl (aS rfl) (bc ab)) (ah (cz (L:=[9,10]) bF rfl (gh rfl z.range (ae (v_ 6) ab)) (c7 (i:=9) a rfl (aS rfl)) (ah (ba (i:=10) a rfl (aS rfl) (br (akt rfl) rfl z.min ⋯ (bu (ao (bc (ae ag (ae ag (ae ag (ae ag (ae ag (ae ag ab))))))) (vcr c b (bu (v_ 2) (ae ag ab)))) (bu (v_ 5) ab)))) (ah (ba (i:=5) a rfl (aS rfl) (aj Gw (v_ 5) (v_ 10))) (ai (d8 (vo (i:=8) rfl (aS rfl) (d7 (ae (aj az (ao (v_ 4) (aj js (aj az (v_ 3) (aj lq ag (v_ 9))) ag)) (v_ 7)) (ae (v_ 10) ab))))))))) (ah (ba (i:=11) a rfl (aS rfl) (ao (bc (ae b9 (ae b9 (ae b9 (ae b9 (ae b9 (ae b9 (ae b9 (ae b9 ab))))))))) (vcr c b (bu (v_ 2) (ae ag ab))))) (ah (cq (bf (ef b.units) (vcr c b (bu (v_ 2) (ae ag ab))) ag) (ai (ki (i:=8) rfl (aS rfl) b.units (d7 (ae (v_ 11) (ae (ao (ao (v_ 8) ag) ag) ab))) ag)) cg) (ai (aw (ib lr rfl z.tuple ⋯ (bu (v_ 8) ab))))))))))))))
def Ge (z:Bl mg)(F:Fd K mg "_law_letters" (top 70) YJ f fd):Q3 P w K mg base:=F.go 0 1 ["_law_speech_here","_law_found","_law_field","_law_count","_law_longer","_law_letter"] _ Ho λa b A outer s H E c=>(ah (ba (i:=1) a rfl (aS rfl) (bc (ae (d7 ab) ab))) (ah (cz (L:=[2,3,4,5]) bF rfl (lu (v_ 0)) (vg2 (i:=2) (j:=3) rfl a rfl rfl (aS rfl) (aS rfl)) (ah (ba (i:=4) a rfl (aS rfl) (bc ab)) (ah (cz (L:=[5]) bF rfl (dj (v_ 1)) (c7 (i:=5) a rfl (fA rfl)) (ai (ba (i:=4) a rfl (aS rfl) (aj az (v_ 4) (dh (ns:=["_law_value"]) (ys:=["_law_letter"]) (fr:=[5]) (cl:=[("_law_letter",‹s›+1)]) (csN [(".0",.local),("_law_value",.local),("_law_letter",.cell)]) rfl (gh rfl z.range (ae (v_ 3) ab)) (λ_ _ _ _=>ic) (λ_ _ _ _=>cp) (λ_ _ _ _=>(aj az (v_ 1) (d7 (ae (v_ 0) ab)))) (by show cE)))))) (ai (ba (i:=1) a rfl (aS rfl) (v_ 4)))))) (ai (aw (v_ 1)))))
def O2 (z:Bl mg)(a:Q1 P w K mg base)(F:Fd K mg "_law_lone" (top 71) ZR f fd):Q4 P w K mg base:=F.goR 1 1 0 ["_law_sort","_law_purse_here","_law_speech_here","_law_field","_law_count"] _ P6 λc d A outer s H E b=>(ah (Mj (ao (v_ 2) (vcr a b (bu (v_ 1) (ae (br de rfl z.len ⋯ (bu (v_ 2) ab)) ab)))) (vg2 (i:=3) (j:=4) rfl c rfl rfl (aS rfl) (aS rfl))) (ai (aw (ao (bc (ae (d7 (ae b9 (ae (v_ 3) (ae (vcr a b (bu (v_ 1) (ae (v_ 4) ab))) ab)))) (ae (d7 (ae b9 (ae (v_ 3) (ae (vcr a b (bu (v_ 1) (ae (v_ 4) ab))) ab)))) (ae (d7 (ae b9 ab)) (ae (d7 (ae b9 ab)) ab))))) (v_ 0)))))
def Ia (z:Bl mg)(F:Fd K mg "_law_joined" (top 73) YQ f fd):Q5 P w K mg base:=F.go 0 1 ["_law_row","_law_word","_law_one","_law_other","_law_made"] _ J9 λa b A outer s H E c=>(ah (Mj (cv (v_ 0) (bt (p7 ag)) bx) (vg2l (i:=2) (j:=3) rfl a rfl rfl (aS rfl) (aS rfl))) (ah (ba (i:=4) a rfl (aS rfl) (d7 (ae (v_ 1) (ae (ao (v_ 2) ag) (ae (ao (v_ 3) ag) ab))))) (ai (aw (aj az (cv (v_ 0) bx (bt (p7 ag))) (bc (ae (bc (ae (v_ 4) (ae (akr (ao (v_ 2) ag) (akq (ao (v_ 3) ag))) (ae (aj az (ao (v_ 2) ag) (ao (v_ 3) ag)) (ae (br (Yf rfl) rfl z.max ⋯ (bu (ao (v_ 2) ag) (bu (ao (v_ 3) ag) ab))) ab))))) ab)))))))
def Kq (z:Bl mg)(c:Q0 P w K mg base)(d:Q1 P w K mg base)(e:Q5 P w K mg base)(g:Q4 P w K mg base)(F:Fd K mg "_law_grown" (top 72) ZU f fd):Q6 P w K mg base:=F.go 2 2 ["_law_row","_law_cell_here","_law_speech_here","_law_most","_law_purse_here","_law_sort","_law_last"] _ Nv λb h A outer s H E a=>(ah (ij (i:=4) (j:=0) b rfl (aS rfl) (vc c a (ae (v_ 1) ab))) (ah (ba (i:=5) b rfl (aS rfl) (vcr d a (bu (v_ 4) (ae ag ab)))) (ah (ba (i:=6) b rfl (aS rfl) (ao (v_ 0) (p7 ag))) (ah (cq (tw (sy (bf (ef a.units) (v_ 5) ag) (kh (bf zc (br (aku rfl) rfl z.sum ⋯ (bu (dh (ns:=["_law_one"]) (ys:=[]) (fr:=[]) (cl:=[]) (csN [(".0",.local),("_law_one",.local)]) rfl (dj (v_ 0)) (λ_ _ _ _=>ic) (λ_ _ _ _=>cp) (λ_ _ _ _=>(ao (v_ 0) ag)) (by show cE)) ab)) (v_ 3))))) (ai (aw (aj az (v_ 0) (bc (ae (bc (ae (d7 (ae b9 ab)) (ae pz (ae ag (ae ag ab))))) ab))))) cg) (ah (cq (tw (sy (bf (ef a.units) (v_ 5) ag) (kh (ia (ao (v_ 6) ag))))) (ai (aw (aj az (cv (v_ 0) bx (bt (p7 ag))) (bc (ae (bc (ae (d7 (ae b9 (ae (ao (v_ 6) ag) ab))) (ae pz (ae ag (ae ag ab))))) ab))))) cg) (ah (cq (tw (sy (bf (ef a.units) (v_ 5) ag) (kh (bf zc (ao (v_ 6) ag) ag)))) (ai (aw (aj az (cv (v_ 0) bx (bt (p7 ag))) (bc (ae (bc (ae (d7 (ae b9 (ae (ao (v_ 6) ag) ab))) (ae pz (ae (ao (v_ 6) ag) (ae (aj az (ao (v_ 6) ag) ag) ab))))) ab))))) cg) (ah (cq (tw (sy (bf Fe (v_ 5) ag) (sy (bf zc (v_ 5) ag) (kh (bf Fe (br de rfl z.len ⋯ (bu (v_ 0) ab)) ag))))) (ai (aw (vc e a (ae (v_ 0) (ae (ao (bc (ae b9 (ae b9 ab))) (aj js (v_ 5) ag)) ab))))) cg) (ah (ba (i:=5) b rfl (aS rfl) (ao (bc (ae ag (ae ag (ae ag (ae ag (ae ag (ae ag (ae ag (ae ag (ae ag (ae ag (ae ag (ae ag (ae ag (ae ag ab))))))))))))))) (v_ 5))) (ai (aw (aj az (v_ 0) (bc (ae (bc (ae (vcr g a (ae (v_ 5) (bu (v_ 4) (ae (v_ 2) ab)))) (ae (yb (ug a.units) (v_ 5) ag) (ae ag (ae ag ab))))) ab)))))))))))))
def Ib (z:Bl mg)(c:Q6 P w K mg base)(d:Q5 P w K mg base)(F:Fd K mg "_law_saying" (top 74) ZO f fd):Q7 P w K mg base:=F.go 3 1 ["_law_cells","_law_speech_here","_law_most","_law_row","_law_cell_here"] _ Kg λa e A outer s H E b=>(ah (ba (i:=3) a rfl (aS rfl) (bc (ae (bc (ae (d7 (ae b9 ab)) (ae pz (ae ag (ae ag ab))))) ab))) (ah (cz (L:=[4]) bF rfl (dj (v_ 0)) (c7 (i:=4) a rfl (aS rfl)) (ai (ba (i:=3) a rfl (aS rfl) (vc c b (ae (v_ 3) (ae (v_ 4) (ae (v_ 1) (ae (v_ 2) ab)))))))) (ah (vq (L:=[]) bF (bf Fe (br de rfl z.len ⋯ (bu (v_ 3) ab)) ag) (ai (ba (i:=3) a rfl (aS rfl) (vc d b (ae (v_ 3) (ae (ao (bc (ae b9 (ae b9 ab))) (aj js (aj js (br de rfl z.len ⋯ (bu (v_ 3) ab)) ag) ag)) ab)))))) (ai (aw (ao (ao (v_ 3) ag) ag))))))
def Rz (z:Bl mg)(d:Q2 P w K mg base)(c:QZ P w K mg base)(e:Q7 P w K mg base)(g:Q0 P w K mg base)(h:Q1 P w K mg base)(F:Fd K mg "_law_net" (top 78) YS f fd):Q8 P w K mg base:=F.go 4 4 ["_law_script","_law_at","_law_speech_here","_law_many","_law_rules","_law_k","_law_ties","_law_purse_here"] _ V6 λb l A outer s H E a=>(ah (ba (i:=2) b rfl (fA rfl) (vc d a (ae (vc c a (ae (v_ 0) (ae (v_ 1) ab))) (ae ag ab)))) (ah (ba (i:=3) b rfl (aS rfl) (ao (ao (v_ 2) ag) ag)) (ah (ij (i:=4) (j:=0) b rfl (aS rfl) (bc ab)) (ah (cz (L:=[5]) bF rfl (gh rfl z.range (ae (v_ 3) ab)) (c7 (i:=5) b rfl (aS rfl)) (ai (d8 (vo (i:=4) rfl (aS rfl) (vc e a (ae (cv (v_ 0) (bt (aj az (aj az (v_ 1) ag) (aj lq ag (v_ 5)))) (bt (aj az (aj az (v_ 1) ag) (aj lq ag (v_ 5))))) (ae (v_ 2) (ae ag ab)))))))) (ah (cq (tw (sy (bf Fe (v_ 3) ag) (kh (bf (ef a.units) (aj js (vc c a (ae (v_ 0) (ae (aj az (v_ 1) ag) ab))) ag) ag)))) (ai (ki (i:=4) rfl (aS rfl) a.units (ao (v_ 4) ag) ag)) cg) (ah (ij (i:=6) (j:=1) b rfl (aS rfl) (bc ab)) (ah (cz (L:=[5,7]) bF rfl (gh rfl z.range (ae (aj js (vc c a (ae (v_ 0) (ae (aj az (v_ 1) ag) ab))) ag) ab)) (c7 (i:=5) b rfl (aS rfl)) (ah (ij (i:=7) (j:=2) b rfl (fA rfl) (vc g a (ae (vc c a (ae (v_ 0) (ae (aj az (aj az (v_ 1) ag) (v_ 5)) ab))) ab))) (ai (d8 (vo (i:=6) rfl (aS rfl) (ib lr rfl z.tuple ⋯ (bu (dh (ns:=["_law_place"]) (ys:=["_law_purse_here","_law_speech_here"]) (fr:=[7,2]) (cl:=[("_law_speech_here",‹s›+1),("_law_purse_here",‹s›+2)]) (csN [(".0",.local),("_law_place",.local),("_law_take",.globalImplicit),("_law_purse_here",.cell),("_law_speech_here",.cell)]) rfl (gh rfl z.range (ae ag ab)) (λ_ _ _ _=>ic) (λ_ _ _ _=>cp) (λ_ _ _ _=>(vcr h a (bu (v_ 1) (ae (ao (ao (v_ 2) (aj js (v_ 0) ag)) ag) ab)))) (by show cE)) ab))))))) (ai (aw (d7 (ae (v_ 2) (ae (ib lr rfl z.tuple ⋯ (bu (v_ 4) ab)) (ae (ib lr rfl z.tuple ⋯ (bu (v_ 6) ab)) ab)))))))))))))
def Kr (z:Bl mg)(F:Fd K mg "_law_union" (top 76) ZC f fd):Q9 P w K mg base:=F.go 0 1 ["_law_step_here","_law_row","_law_found","_law_one"] _ N0 λa c A outer s H E b=>(ah (ba (i:=2) a rfl (fA rfl) (bc ab)) (ah (cz (L:=[3]) bF rfl (dj (v_ 1)) (c7 (i:=3) a rfl (aS rfl)) (ai (ba (i:=2) a rfl (fA rfl) (aj az (v_ 2) (dh (ns:=["_law_other"]) (ys:=["_law_found"]) (fr:=[2]) (cl:=[("_law_found",‹s›+1)]) (csN [(".0",.local),("_law_other",.local),("_law_found",.cell)]) rfl (dj (gj b.units (v_ 0) (v_ 3))) (λ_ _ _ _=>ic) (λ_ _ _ _=>(yf (bf (Bk b.units) (v_ 0) (v_ 1)))) (λ_ _ _ _=>(v_ 0)) (by show cE)))))) (ai (aw (Sk rfl z.sorted ⋯ (v_ 2))))))
def R0 (z:Bl mg)(F:Fd K mg "_law_led" (top 77) ZF f fd):Ja P w K mg base:=F.go 0 1 ["_law_step_here","_law_letter","_law_found","_law_at"] _ V0 λa c A outer s H E b=>(ah (ba (i:=2) a rfl (fA rfl) (bc (ae (v_ 1) ab))) (ah (ba (i:=3) a rfl (aS rfl) ag) (ah (vq (L:=[]) bF (bf zc (v_ 3) (br de rfl z.len ⋯ (bu (v_ 2) ab))) (ah (ba (i:=2) a rfl (fA rfl) (aj az (v_ 2) (dh (ns:=["_law_other"]) (ys:=["_law_found"]) (fr:=[2]) (cl:=[("_law_found",‹s›+1)]) (csN [(".0",.local),("_law_other",.local),("_law_found",.cell)]) rfl (dj (gj b.units (v_ 0) (gj b.units (v_ 2) (v_ 3)))) (λ_ _ _ _=>ic) (λ_ _ _ _=>(yf (bf (Bk b.units) (v_ 0) (v_ 1)))) (λ_ _ _ _=>(v_ 0)) (by show cE)))) (ai (ba (i:=3) a rfl (aS rfl) (aj az (v_ 3) ag))))) (ai (aw (Sk rfl z.sorted ⋯ (v_ 2)))))))
theorem B0 (z:Bl mg)(c:Q9 P w K mg base)(d:Ja P w K mg base)(F:Fd K mg "_law_step" (top 75) ZY f fd):∀n,Fo P w K mg base (n+2) "_law_step" ZY (spP #v[P,w,K] 3 (Ab n))
 |0=>Fo.void F Hv
 |n+1=>(λe=>F.go (n+2) 2 ["_law_speech_here","_law_letters_here","_law_saying_here","_law_sort","_law_found","_law_at","_law_letter","_law_inner"] _ (P8 n) λb g A outer s H E a=>(ah (ba (i:=3) b rfl (aS rfl) (gj a.units (v_ 2) ag)) (ah (ij (i:=4) (j:=0) b rfl (aS rfl) ahn) (ah (cq (tw (E8 (bf (ef a.units) (v_ 3) b9) (kh (bf (ef a.units) (v_ 3) b9)))) (ah (ba (i:=5) b rfl (aS rfl) (U0 dM iN mU (D2 a.units) (dh (ns:=["_law_field","_law_count"]) (ys:=[]) (fr:=[]) (cl:=[]) (csN [(".0",.local),("_law_field",.local),("_law_count",.local)]) rfl (lu (v_ 0)) (λ_ _ _ _=>(xl rfl)) (λ_ _ _ _=>cp) (λ_ _ _ _=>(v_ 0)) xm) (bu (gj a.units (v_ 2) ag) ab))) (ah (cz (L:=[6]) bF rfl (dj (v_ 1)) (c7 (i:=6) b rfl (aS rfl)) (ah (ki (i:=4) rfl (aS rfl) a.units (bc (ae (aj az (aj az (cv (v_ 6) bx (bt (v_ 5))) (d7 (ae (gj a.units (v_ 2) ag) ab))) (cv (v_ 6) (bt (aj az (v_ 5) ag)) bx)) ab)) (v_ 6)) (ai (cq (tw (sy (bf (ef a.units) (v_ 3) b9) (kh (bf (ug a.units) (gj a.units (v_ 6) (v_ 5)) (gj a.units (v_ 2) ag))))) (ai (ki (i:=4) rfl (aS rfl) a.units (bc ab) (v_ 6))) cg)))) (ai (aw (v_ 4))))) cg) (ah (jd (i0:=7) b rfl rfl (ns:=["_law_one"]) (ys:=["_law_letters_here","_law_speech_here"]) (fr:=[1,0]) (cl:=[("_law_speech_here",‹s›+1),("_law_letters_here",‹s›+2)]) (csN [(".0",.local),("_law_one",.local),("_law_step",.globalImplicit),("_law_letters_here",.cell),("_law_speech_here",.cell)]) rfl (lu (cv (v_ 2) (bt ag) bx)) (λ_ _ _ _=>ic) (λ_ _ _ _=>cp) (λ_ _ _ _=>(vc e a (ae (v_ 2) (ae (v_ 1) (ae (v_ 0) ab))) (hk:=by lia))) (by show cE)) (ah (cz (L:=[6]) bF rfl (dj (v_ 1)) (c7 (i:=6) b rfl (aS rfl)) (ai (cq (bf (ef a.units) (v_ 3) b9) (ai (ki (i:=4) rfl (aS rfl) a.units (bc (ae (v_ 6) ab)) (v_ 6))) (ai (cq (bf (ef a.units) (v_ 3) b9) (ai (ki (i:=4) rfl (aS rfl) a.units (cv (cv (bc (ae (v_ 6) ab)) (bt (br de rfl z.len ⋯ (bu (gj a.units (gj a.units (v_ 7) ag) (v_ 6)) ab))) bx) bx (bt ag)) (v_ 6))) (ai (cq (bf (ef a.units) (v_ 3) b9) (ai (ki (i:=4) rfl (aS rfl) a.units (Gx rfl a.units rfl z.sorted ⋯ rfl z.set ⋯ (aj az (gj a.units (gj a.units (v_ 7) ag) (v_ 6)) (gj a.units (gj a.units (v_ 7) ag) (v_ 6)))) (v_ 6))) (ai (cq (bf (ef a.units) (v_ 3) b9) (ai (ki (i:=4) rfl (aS rfl) a.units (vc c a (ae (gj a.units (v_ 7) ag) (ae (gj a.units (gj a.units (v_ 7) ag) (v_ 6)) ab)) (hk:=by lia)) (v_ 6))) (ai (cq (bf (ef a.units) (v_ 3) b9) (ai (ki (i:=4) rfl (aS rfl) a.units (vc d a (ae (gj a.units (v_ 7) ag) (ae (v_ 6) ab)) (hk:=by lia)) (v_ 6))) (ai (ki (i:=4) rfl (aS rfl) a.units (bc ab) (v_ 6)))))))))))))) (ai (aw (v_ 4))))))))) (B0 z c d F n)
def Wf (z:Bl mg)(F:Fd K mg "_law_by" (top 79) Z' f fd):Jc P w K mg base:=F.go 0 2 ["_law_table","_law_letter","_law_match","_law_deeds","_law_found","_law_deed"] _ N74.f__law_by λa c A outer s H E b=>(ah (cz (L:=[2,3,4,5]) bF rfl (dj (v_ 0)) (vg2 (i:=2) (j:=3) rfl a rfl rfl (fA rfl) (aS rfl)) (ai (cq (bf (ef b.units) (br de rfl z.len ⋯ (bu (dh (ns:=["_law_k"]) (ys:=["_law_letter","_law_match"]) (fr:=[1,2]) (cl:=[("_law_match",‹s›+2),("_law_letter",‹s›+1)]) (csN [(".0",.local),("_law_k",.local),("_law_letter",.cell),("_law_match",.cell)]) rfl (gh rfl z.range (ae (br de rfl z.len ⋯ (bu (v_ 1) ab)) ab)) (λ_ _ _ _=>ic) (λ_ _ _ _=>(yf (tw (sy (bf L9 (ao (v_ 2) (v_ 0)) vm) (kh (bf (ug b.units) (ao (v_ 2) (v_ 0)) (ao (v_ 1) (v_ 0)))))))) (λ_ _ _ _=>(v_ 0)) (by show cE)) ab)) ag) (ah (ij (i:=4) (j:=0) a rfl (aS rfl) (bc ab)) (ah (cz (L:=[5]) bF rfl (lu (v_ 3)) (c7 (i:=5) a rfl (fA rfl)) (ai (d8 (vo (i:=4) rfl (aS rfl) (ib lr rfl z.tuple ⋯ (bu (dh (ns:=["_law_k"]) (ys:=["_law_deed","_law_letter"]) (fr:=[5,1]) (cl:=[("_law_letter",‹s›+1),("_law_deed",‹s›+3)]) (csN [(".0",.local),("_law_k",.local),("int",.globalImplicit),("_law_deed",.cell),("_law_letter",.cell)]) rfl (gh rfl z.range (ae (br de rfl z.len ⋯ (bu (v_ 1) ab)) ab)) (λ_ _ _ _=>ic) (λ_ _ _ _=>cp) (λ_ _ _ _=>(ao (bc (ae (ao (v_ 1) (v_ 0)) (ae (ao (v_ 2) (v_ 0)) ab))) (ib Ye rfl z.int ⋯ (bu (yb aeo (ao (v_ 1) (v_ 0)) vm) ab)))) (by show cE)) ab)))))) (ai (aw (Gx rfl b.units rfl z.sorted ⋯ rfl z.set ⋯ (v_ 4)))))) cg))) (ai (aw (bc ab))))
def O3 (z:Bl mg)(b:Jc P w K mg base)(F:Fd K mg "_law_same" (top 80) ZQ f fd):Jd P w K mg base:=F.go 1 1 ["_law_table","_law_due","_law_letter"] _ Re λc d A outer s H E a=>(ah (cz (L:=[2]) bF rfl (aik (v_ 1)) (c7 (i:=2) c rfl (aS rfl)) (ai (cq (bf (ug a.units) (vc b a (ae (v_ 0) (ae (v_ 2) ab))) (gj a.units (v_ 1) (v_ 2))) (ai (aw pz)) cg))) (ai (aw pz)))
def Ks (z:Bl mg)(b:Jd P w K mg base)(F:Fd K mg "_law_least" (top 81) ZQ f fd):Je P w K mg base:=F.go 2 1 ["_law_table","_law_due","_law_k","_law_match","_law_deeds","_law_at","_law_other"] _ Og λa d A outer s H E c=>(ah (cz (L:=[2,3,4,5,6]) bF rfl (gh rfl z.range (ae (br de rfl z.len ⋯ (bu (v_ 0) ab)) ab)) (c7 (i:=2) a rfl (aS rfl)) (ah (cq (ia (vc b c (ae (aj az (cv (v_ 0) bx (bt (v_ 2))) (cv (v_ 0) (bt (aj az (v_ 2) ag)) bx)) (ae (v_ 1) ab)))) (ai (aw pz)) cg) (ah (Mj (ao (v_ 0) (v_ 2)) (vg2 (i:=3) (j:=4) rfl a rfl rfl (aS rfl) (aS rfl))) (ai (cz (L:=[5,6]) bF rfl (gh rfl z.range (ae (br de rfl z.len ⋯ (bu (v_ 3) ab)) ab)) (c7 (i:=5) a rfl (aS rfl)) (ai (cq (bf L9 (ao (v_ 3) (v_ 5)) vm) (ah (ba (i:=6) a rfl (aS rfl) (d7 (ae (aj az (aj az (cv (v_ 3) bx (bt (v_ 5))) (d7 (ae vm ab))) (cv (v_ 3) (bt (aj az (v_ 5) ag)) bx)) (ae (v_ 4) ab)))) (ai (cq (ia (vc b c (ae (aj az (aj az (cv (v_ 0) bx (bt (v_ 2))) (bc (ae (v_ 6) ab))) (cv (v_ 0) (bt (aj az (v_ 2) ag)) bx)) (ae (v_ 1) ab)))) (ai (aw pz)) cg))) cg))))))) (ai (aw pz)))
def ami (z:Bl mg)(d:Kit K "list")(h:(Q8 P w K mg base))(l:(Q3 P w K mg base))(e:(QY P w K mg base))(m:(Jb P w K mg base))(n:(Jd P w K mg base))(o:(Je P w K mg base))(F:Fd K mg "law" (top 82) YH f fd):FnOk P w K mg base CX0 103 f fd YH (N74.spL K):=by
 have a:=e.plain;obtain⟨x,p,q,r,tb,u⟩:=e;have S:fq ["_law_script","_law_net_here","_law_letters_here","_law_found","_law_table","_law_rule","_law_due","_law_other","_law_k"] YH (bq (top 82)):=fsN;have c:=S.nd;show N74.fn_law (k:=102) (Ex:=λ_ _ _=>False) F.fn S rfl rfl λy A outer s H E b=>⟨_,gg (N74.ps_of (ba (i:=1) c rfl (aS rfl) (vc h b (ae (v_ 0) (ae ag ab)))) N74.O0) ( gg (N74.ps_of (ba (i:=2) c rfl (aS rfl) (vc l b (ae (ao (v_ 1) ag) ab))) N74.O0) ( gg (Eo (i:=3) c rfl (aS rfl) (B5 q (b.mono (by decide)) rfl r tb u .nil yz (o3 (kf (i:=1) rfl (aS rfl)) x5))) ( gg (En (N74.pt_of (tw (E8 (Bc (ia (Yg d rfl z.isinstance ⋯ rfl z.list ⋯ (v_ 3)))) (kh (bf (ug b.units) (br de rfl z.len ⋯ (bu (v_ 3) ab)) (br de rfl z.len ⋯ (bu (ao (v_ 1) ag) ab))))))) (mi (vd Em)) xy) ( gg (Lb bF rfl (N74.pi_of (ahh rfl z.zip (ae (v_ 3) (ae (ao (v_ 1) ag) ab)))) (N74.pg_of (vg2 (i:=4) (j:=5) rfl c rfl rfl (aS rfl) (aS rfl))) (gg (Eo (i:=6) c rfl (aS rfl) (N74.pe_of (vc m b (ae (ao (v_ 1) ag) (ae (v_ 2) (ae (v_ 5) ab)))))) (gg (En (N74.pt_of (tw (E8 (Bc (ia (Yg d rfl z.isinstance ⋯ rfl z.list ⋯ (v_ 4)))) (kh (bf Fe (br de rfl z.len ⋯ (bu (v_ 4) ab)) (br de rfl z.len ⋯ (bu (v_ 2) ab))))))) (mi (vd Em)) xy) (mi (En (N74.pt_of (tw (E8 (Bc (ia (vc n b (ae (v_ 4) (ae (v_ 6) ab))))) (kh (Bc (ia (vc o b (ae (v_ 4) (ae (v_ 6) ab))))))))) (mi (vd Em)) xy))))) ( gg (G4 (i0:=7) (g:=gOf K (.one 0)) (tt:=lfT #v[P,w,K] cu) (te:=lf #v[P,w,K] N74.lsF) (ns:=["_law_table"]) (ys:=[]) (fr:=[]) (cl:=[]) c rfl rfl (csN [(".0",.local),("_law_table",.local),("list",.globalImplicit)]) rfl (N74.pi_of (dj (v_ 3))) (λ_ _ _ _=>N74.pg_of ic) (λ_ _ _ _=>cp) (λ_ _ _ _=>N74.pe_of (ib agx rfl z.list ⋯ (bu (v_ 0) ab)))) ( gg (Lb bF rfl (Ie rfl z.range (o3 (Dj pf rfl z.len ⋯ (o3 (kf (i:=3) rfl (aS rfl)) x5)) x5)) (mj (i:=8) c rfl (aS rfl)) (gg (Gf (Es dM PySem.F.slot_list_clear PySem.F.type_list_clear Lm (Kw B6 (kf (i:=3) rfl (aS rfl)) (kf (i:=8) rfl (aS rfl)) (λ_ _=>rfl)))) (mi (En (N74.pt_of (bf (ug b.units) (cv (v_ 3) (bt (aj az (v_ 8) ag)) bx) (cv (v_ 7) (bt (aj az (v_ 8) ag)) bx))) (mi (vd Em)) xy)))) ( gg (Gf (Es dM PySem.F.slot_list_clear PySem.F.type_list_clear Lm (kf (i:=3) rfl (aS rfl)))) ( mi (vd (N74.pe_of (yb (ef b.units) (vc a b (ae (v_ 1) ab)) (v_ 7))))))))))))⟩
end
def all_mk {l:nE}{K:aF}(X:K.In h)(G:h.Ns bI mg)(JP:mg "law"=KE (.ref fa))
  (zrange:cJ K bI "range"=KE LX)
  (zabs:cJ K bI "abs"=KE LX)
  (zint:cJ K bI "int"=KE LX)
  (zmax:cJ K bI "max"=KE LX)
  (zmin:cJ K bI "min"=KE LX)
  (ztuple:cJ K bI "tuple"=KE LX)
  (zlist:cJ K bI "list"=KE LX)
  (zlen:cJ K bI "len"=KE LX)
  (zisinstance:cJ K bI "isinstance"=KE LX)
  (zenumerate:cJ K bI "enumerate"=KE LX)
  (zsum:cJ K bI "sum"=KE LX)
  (zall:cJ K bI "all"=KE LX)
  (zany:cJ K bI "any"=KE LX)
  (zzip:cJ K bI "zip"=KE LX)
  (zreversed:cJ K bI "reversed"=KE LX)
  (zset:cJ K bI "set"=KE LX)
  (zsorted:cJ K bI "sorted"=KE LX)
  (zdict:cJ K bI "dict"=KE LX)
  (zbool:cJ K bI "bool"=KE LX)
  (mC:cJ K bI "Machine"=KE (KE (.ref e)))
  (pgC:kZ K e Str.empty=LY)
  (hdC:mV K e=LY)
  (poC:pX K e=LY)
  (saC:dE K (.ref e) "__setattr__"=KE (KE (.builtin "object.__setattr__")))
  (mkC:oA K e=LY)
  (kpC:fM K (.ref e)=LY)
  (vK:dE K (.ref e) "letters"=KE LX)
  (xM:dE K (.ref e) "ways"=KE LX)
  (klistnon:eI K (.type "NoneType") (.type "list")=KE LZ)
  (klistbl:eI K (.type "bool") (.type "list")=KE LZ)
  (klistint:eI K (.type "int") (.type "list")=KE LZ)
  (kliststr:eI K (.type "str") (.type "list")=KE LZ)
  (klisttup:eI K (.type "tuple") (.type "list")=KE LZ)
  (klistlst:eI K (.type "list") (.type "list")=KE LY)
  (aaHOLDING_SORTS:cJ K bI "HOLDING_SORTS"=KE (KE (.ref b)))
  (llHOLDING_SORTS:K.lookup b=KE {.type "tuple",f,.seq #[.str "not" g,.str "either" i,.str "then" j,.str "again" m] o,n})
  (aaTEST_SORTS:cJ K bI "TEST_SORTS"=KE (KE (.ref d)))
  (llTEST_SORTS:K.lookup d=KE {.type "tuple",D,.seq #[.str "none" E,.str "all" H,.str "is" I,.str "not" J,.str "either" L,.str "then" N] T,O})
  (aaFIELD_SORTS:cJ K bI "FIELD_SORTS"=KE (KE (.ref c)))
  (llFIELD_SORTS:K.lookup c=KE {.type "tuple",q,.seq #[.str "is" r,.str "put" u] Q,A})
  (l1:Af K f1 "nothing" (top 14))
  (l2:Af K f2 "the_same" (top 15))
  (l3:Af K f3 "either_of" (top 16))
  (l4:Af K f4 "where_nothing" (top 20))
  (l5:Af K f5 "letters_in" (top 21))
  (l6:Af K f6 "reached_from" (top 18))
  (l7:Af K f7 "one_then_other" (top 17))
  (l8:Af K f8 "again_and_again" (top 19))
  (l9:Af K f9 "filling" (top 46))
  (DD:Af K f10 "note_ways" (top 42))
  (l11:Af K f11 "behind" (top 45))
  (l12:Af K f12 "either_ways" (top 43))
  (l13:Af K f13 "then_ways" (top 44))
  (l14:Af K f14 "must_value" (top 12))
  (l15:Af K f15 "place_of" (top 11))
  (l16:Af K f16 "is_relation" (top 40))
  (l17:Af K f17 "put_relation" (top 41))
  (l18:Af K f18 "held_in" (top 27))
  (l19:Af K f19 "parts_of" (top 26))
  (l20:Af K f20 "is_test" (top 30))
  (l21:Af K f21 "notes_in" (top 31))
  (l22:Af K f22 "must_test" (top 32))
  (l23:Af K f23 "must_plain" (top 33))
  (l24:Af K f24 "must_part" (top 29))
  (BI:Af K f25 "must_saying" (top 28))
  (BK:Af K f26 "plain_relation" (top 39))
  (BJ:Af K f27 "again_row" (top 48))
  (l28:Af K f28 "again_ways" (top 47))
  (l29:Af K f29 "ways_of_part" (top 38))
  (l30:Af K f30 "ways_of" (top 37))
  (l31:Af K f31 "each_longer" (top 10))
  (l32:Af K f32 "letters_of" (top 9))
  (l33:At K f33 "__init__" "Runs.__init__" (kn (top 35) 0))
  (m33:cJ K bI "Runs"=KE (KE (.ref U)))
  (g33:mW K (.ref U) "__getattribute__"=KE (KE (.builtin "type.__getattribute__")))
  (r33:qX K U (.type "type")=LY)
  (b33:qY K (.ref U) (.type "type") "__init__"=KE (.val (.ref f33)))
  (l34:At K f34 "masks_from" "Runs.masks_from" (kn (top 35) 6))
  (b34:dE K (.ref e) "masks_from"=KE (KE (.ref f34)))
  (i34:iV K (.ref f34)=LY)
  (l35:At K f35 "ends_from" "Runs.ends_from" (kn (top 35) 4))
  (b35:dE K (.ref e) "ends_from"=KE (KE (.ref f35)))
  (i35:iV K (.ref f35)=LY)
  (l36:At K JK "ends" "Runs.ends" (kn (top 35) 2))
  (b36:dE K (.ref e) "ends"=KE (KE (.ref JK)))
  (i36:iV K (.ref JK)=LY)
  (l37:At K f37 "__init__" "Machine.__init__" (kn (top 36) 0))
  (b37:dE K (.ref e) "__init__"=KE (KE (.ref f37)))
  (i37:iV K (.ref f37)=LY)
  (l38:Af K f38 "with_put" (top 52))
  (l39:Af K f39 "matches" (top 51))
  (l40:Af K f40 "by_table" (top 50))
  (l41:Af K f41 "deed_for" (top 55))
  (l42:Af K f42 "row_for" (top 54))
  (l43:Af K f43 "wider_row" (top 59))
  (l44:Af K f44 "does_all" (top 60))
  (l45:Af K f45 "with_fewer_rows" (top 57))
  (l46:Af K f46 "with_wider_matches" (top 58))
  (l47:Af K f47 "made_small" (top 56))
  (l48:Af K f48 "table_of" (top 53))
  (l49:Af K f49 "must_tie" (top 63))
  (l50:Af K f50 "must_net" (top 62))
  (l51:Af K f51 "tables_of" (top 64))
  (l52:Af K f52 "_law_cell" (top 66))
  (l53:Af K f53 "_law_purse" (top 67))
  (l54:Af K f54 "_law_take" (top 68))
  (l55:Af K f55 "_law_speech" (top 69))
  (l56:Af K f56 "_law_letters" (top 70))
  (l57:Af K f57 "_law_lone" (top 71))
  (l58:Af K f58 "_law_joined" (top 73))
  (l59:Af K f59 "_law_grown" (top 72))
  (l60:Af K f60 "_law_saying" (top 74))
  (l61:Af K f61 "_law_net" (top 78))
  (l62:Af K f62 "_law_union" (top 76))
  (l63:Af K f63 "_law_led" (top 77))
  (l64:Af K f64 "_law_step" (top 75))
  (l65:Af K f65 "_law_by" (top 79))
  (l66:Af K f66 "_law_same" (top 80))
  (l67:Af K f67 "_law_least" (top 81))
  (l68:Af K f68 "law" (top 82)) :
  ∃fd:gB,(∀(s:aK)(v:aE),qJ s fd {[v],[]} [("_law_script",v)])/\∀base:MB,K.In base->base.Ns bI mg->FnOk l.prog w K mg base CX0 103 fa fd YH (N74.spL K):=by
 have z:=bl_mk X G (by simp only[List.forall_mem_cons,dH,false_implies,implies_true,and_true];show#v[zrange,zabs,zint,zmax,zmin,ztuple,zlist,zlen,zisinstance,zenumerate,zsum,zall,zany,zzip,zreversed,zset,zsorted,zdict,zbool]);have Y:Cls K e:=#v[pgC,hdC,poC,saC];have zD:Kit K "list":=#v[klistnon,klistbl,klistint,kliststr,klisttup,klistlst];obtain⟨_,F1⟩:_:=l1.fd (ps:=ZJ) X G;obtain⟨_,F2⟩:_:=l2.fd (ps:=ZJ) X G;obtain⟨_,F3⟩:_:=l3.fd (ps:=ZL) X G;obtain⟨_,F4⟩:_:=l4.fd (ps:=ZI) X G;obtain⟨_,F5⟩:_:=l5.fd (ps:=YR) X G;obtain⟨_,F6⟩:_:=l6.fd (ps:=YV) X G;obtain⟨_,F7⟩:_:=l7.fd (ps:=ZS) X G;obtain⟨_,F8⟩:_:=l8.fd (ps:=ZI) X G;obtain⟨_,F9⟩:_:=l9.fd (ps:=YF) X G;obtain⟨_,F10⟩:_:=DD.fd (ps:=ZJ) X G;obtain⟨_,F11⟩:_:=l11.fd (ps:=ZS) X G;obtain⟨_,F12⟩:_:=l12.fd (ps:=ZL) X G;obtain⟨_,F13⟩:_:=l13.fd (ps:=ZS) X G;obtain⟨_,F14⟩:_:=l14.fd (ps:=YO) X G;obtain⟨_,F15⟩:_:=l15.fd (ps:=YX) X G;obtain⟨_,F16⟩:_:=l16.fd (ps:=ZV) X G;obtain⟨_,F17⟩:_:=l17.fd (ps:=ZV) X G;obtain⟨_,F18⟩:_:=l18.fd (ps:=ZX) X G;obtain⟨_,F19⟩:_:=l19.fd (ps:=ZX) X G;obtain⟨_,F20⟩:_:=l20.fd (ps:=ZX) X G;obtain⟨_,F21⟩:_:=l21.fd (ps:=ZX) X G;obtain⟨_,F22⟩:_:=l22.fd (ps:=ZX) X G;obtain⟨_,F23⟩:_:=l23.fd (ps:=ZX) X G;obtain⟨_,F24⟩:_:=l24.fd (ps:=YN) X G;obtain⟨_,F25⟩:_:=BI.fd (ps:=ZN) X G;obtain⟨_,F26⟩:_:=BK.fd (ps:=YY) X G;obtain⟨_,F27⟩:_:=BJ.fd (ps:=YM) X G;obtain⟨_,F28⟩:_:=l28.fd (ps:=YF) X G;obtain⟨_,F29⟩:_:=l29.fd (ps:=ZP) X G;obtain⟨_,F30⟩:_:=l30.fd (ps:=ZD) X G;obtain⟨_,F31⟩:_:=l31.fd (ps:=YG) X G;obtain⟨_,F32⟩:_:=l32.fd (ps:=["speech"]) X G;obtain⟨_,F33⟩:_:=l33.cd (ps:=ZK) X G m33 g33 r33 b33;obtain⟨_,F34⟩:_:=l34.md (ps:=ZT) Y b34 i34;obtain⟨_,F35⟩:_:=l35.md (ps:=ZT) Y b35 i35;obtain⟨_,F36⟩:_:=l36.md (ps:=ZH) Y b36 i36;obtain⟨_,F37⟩:_:=l37.kd (ps:=YW) X G mC mkC b37 i37 kpC;obtain⟨_,F38⟩:_:=l38.fd (ps:=YU) X G;obtain⟨_,F39⟩:_:=l39.fd (ps:=YT) X G;obtain⟨_,F40⟩:_:=l40.fd (ps:=YD) X G;obtain⟨_,F41⟩:_:=l41.fd (ps:=YL) X G;obtain⟨_,F42⟩:_:=l42.fd (ps:=ZA) X G;obtain⟨_,F43⟩:_:=l43.fd (ps:=YK) X G;obtain⟨_,F44⟩:_:=l44.fd (ps:=ZW) X G;obtain⟨_,F45⟩:_:=l45.fd (ps:=ZW) X G;obtain⟨_,F46⟩:_:=l46.fd (ps:=ZW) X G;obtain⟨_,F47⟩:_:=l47.fd (ps:=ZW) X G;obtain⟨_,F48⟩:_:=l48.fd (ps:=ZN) X G;obtain⟨_,F49⟩:_:=l49.fd (ps:=["speech","tie"]) X G;obtain⟨_,F50⟩:_:=l50.fd (ps:=["net"]) X G;obtain⟨_,F51⟩:_:=l51.fd (ps:=["net"]) X G;obtain⟨_,F52⟩:_:=l52.fd (ps:=ZG) X G;obtain⟨_,F53⟩:_:=l53.fd (ps:=YC) X G;obtain⟨_,F54⟩:_:=l54.fd (ps:=ZE) X G;obtain⟨_,F55⟩:_:=l55.fd (ps:=ZM) X G;obtain⟨_,F56⟩:_:=l56.fd (ps:=YJ) X G;obtain⟨_,F57⟩:_:=l57.fd (ps:=ZR) X G;obtain⟨_,F58⟩:_:=l58.fd (ps:=YQ) X G;obtain⟨_,F59⟩:_:=l59.fd (ps:=ZU) X G;obtain⟨_,F60⟩:_:=l60.fd (ps:=ZO) X G;obtain⟨_,F61⟩:_:=l61.fd (ps:=YS) X G;obtain⟨_,F62⟩:_:=l62.fd (ps:=ZC) X G;obtain⟨_,F63⟩:_:=l63.fd (ps:=ZF) X G;obtain⟨_,F64⟩:_:=l64.fd (ps:=ZY) X G;obtain⟨_,F65⟩:_:=l65.fd (ps:=Z') X G;obtain⟨_,F66⟩:_:=l66.fd (ps:=ZQ) X G;obtain⟨_,F67⟩:_:=l67.fd (ps:=ZQ) X G;obtain⟨fd,F68,bl⟩:_:=l68.law (p:="_law_script") X G JP;show{fd,bl,λbase _ _=>?_};have a:∀{k:Nat}{x:Str}{ps:List Str}{sp:Sp},Fo l.prog w K mg base k x ps sp->Fo l.prog w K mg base k x ps sp:=id;have JQ:∀{k:Nat}{C:MA}{x:Str}{ps:List Str}{sp:Sp},Mo l.prog w K mg base k C x ps sp->Mo l.prog w K mg base k C x ps sp:=id;have SKo:∀{k:Nat}{x:Str}{C:MA}{ps:List Str}{sp:Sp},Ko l.prog w K mg base k x C ps sp->Ko l.prog w K mg base k x C ps sp:=id;have SCo:∀{k:Nat}{y x:Str}{ps:List Str}{sp:Sp},Co l.prog w K mg base k y x ps sp->Co l.prog w K mg base k y x ps sp:=id;have wK:Gc ⟨l.prog,w,K⟩ mg "HOLDING_SORTS" qg:=Ek (ss:=["not","either","then","again"]) X G aaHOLDING_SORTS llHOLDING_SORTS (by change 4<=1000;decide) (.cons {_,rfl} (.cons {_,rfl} (.cons {_,rfl} (.cons {_,rfl} .nil))));have xJ:Gc ⟨l.prog,w,K⟩ mg "TEST_SORTS" vy:=Ek (ss:=YZ) X G aaTEST_SORTS llTEST_SORTS (by change 6<=1000;decide) (.cons {_,rfl} (.cons {_,rfl} (.cons {_,rfl} (.cons {_,rfl} (.cons {_,rfl} (.cons {_,rfl} .nil))))));have wZ:Gc ⟨l.prog,w,K⟩ mg "FIELD_SORTS" t8:=Ek (ss:=["is","put"]) X G aaFIELD_SORTS llFIELD_SORTS (by change 2<=1000;decide) (.cons {_,rfl} (.cons {_,rfl} .nil));have vL:=a (V7 z F1);have vJ:=a (Rm z F2);have vH:=a (On z F3);have wL:=a (El z F4);have xN:=a (Ki z F5);have wR:=a (Fy z F6);have vD:=a (C1 z wR F7);have vY:=a (Bx z vH vJ F8);have wN:=a (V8 z vL F9);have xY:=a (Oo z vL vJ F10);have xH:=a (Zu z wN F11);have xB:=a (Hw z vH wN xH F12);have xX:=a (Oq z vD xH F13);have vR:=a (Kj z F14);have wC:=a (Rn z vR F15);have xA:=a (Hx z F16);have wU:=a (Fz z F17);have wO:=a (V9 z wK F18);have vF:=a (Ro z wO F19);have yR:=a (Wa z xJ vF F20);have yD:=a (Rq z vF F21);have xU:=a (Os z yR F22);have vT:=a (Kk z yD F23);have xV:=a (Ot z wZ wC xU F24);have vE:=a (Hy z vF xV F25);have wD:=a (C2 z vL vJ wC xA wU F26);have xW:=a (Ou z vD vH F27);have xK:=a (Kl z vY xW F28);have wV:=a (Ga z xB xX xK wL xY wD F29);have yS:=a (Wb z vF wO wV F30);have xC:=a (Hz z F31);have vS:=a (Km z xC F32);have AY:=SCo (Ov z Y vK xM F33);have vZ:=JQ (By z Y vK xM F34);have wF:=JQ (C3 z Y vK xN vZ F35);have yA:=JQ (Ow z wF F36);have yU:=SKo (Gb z vE vS AY yS F37);have wG:=a (Rr z F38);have yT:=a (Wc z wG F39);have yF:=a (Rt z yT wG F40);have yE:=a (Ru z F41);have yV:=a (We z yE F42);have xZ:=a (Ox z F43);have wH:=a (Rv z yF F44);have wA:=a (Bz z wH F45);have vP:=a (yt z xZ wH F46);have xO:=a (Kn z vP wA F47);have yI:=a (Rw z vE vT yU vS yA xO yV F48);have yG:=a (Rx z vR F49);have yH:=a (Ry z vE vT yG F50);have wY:=a (Oy z yH yI F51);have vV:=a (Oz z F52);have vG:=a (Kp z F53);have uV:=a (O1 z F54);have xD:=a (H0 z vG uV F55);have wW:=a (Ge z F56);have yB:=a (O2 z uV F57);have vM:=a (Ia z F58);have xP:=a (Kq z vG uV vM yB F59);have xE:=a (Ib z xP vM F60);have yJ:=a (Rz z xD vV xE vG uV F61);have wM:=a (Kr z F62);have xQ:=a (R0 z F63);have wJ:=B0 (P:=l.prog) (w:=w) (base:=base) z wM xQ F64 100;have yW:=a (Wf z F65);have vQ:=a (O3 z yW F66);have xR:=a (Ks z vQ F67);show ami z zD yJ wW wY wJ vQ xR F68
end O74
namespace PySem.W.Fast
def tw7818767732078649987:=0
def tw8153069547255834479:=0
def tw10561227452114487147:=0
def tw13432155889703948620:=0
def tw14878943844516882154:=0
def tw11071216279938167917:=0
def tw11820435860522137168:=0
def tw9815554619845087801:=0
def tw13233264122317492824:=0
def tw18013943768486333910:=0
def tw15378277278005903549:=0
def tw5975477981754405656:=0
def tw1843583093268285929:=0
def tw11299676525913178784:=0
def tw1085625592578488104:=0
def tw9112091927977354147:=0
def tw7526555371408043307:=0
def tw8307192045215724619:=0
def tw4610756137941685705:=0
def tw4840232896430391218:=0
def tw12445658332394540171:=0
def tw7758840293778995702:=0
def tw12546351667421320452:=0
def tw14691386046300686037:=0
def tw6910439751035143896:=0
def tw11033006161230478381:=0
def tw16077314687187459575:=0
def tw2367328699449466606:=0
def tw7887567533764246956:=0
def tw16508674419127374855:=0
def tw10311914922290327918:=0
def tw13214051089387103951:=0
def tw8752159630882429315:=0
def tw6473418288425104245:=0
def tw15780122434232428665:=0
def tw17998161362162979575:=0
def tw2006276385097554622:=0
def tw5745112827917422190:=0
def tw15154821537162506714:=0
def tw6528092144025474719:=0
def tw9083564398059691794:=0
def tw6297181253897539603:=0
def tw17128205362810961588:=0
def tw15516956175797322204:=0
def tw7583940041009971898:=0
def tw13007186275948720937:=0
def tw15539989037361587638:=0
def tw7471243945210759402:=0
def tw2714594860140108020:=0
def tw17553188540327115866:=0
def tw643234575260397646:=0
def tw16987400548696199693:=0
def tw11843512322086878196:=0
def tw14215526322070701522:=0
def tw14541473723853092749:=0
def tw1129409693132011186:=0
def tw13562353620974477481:=0
def tw12214659289488682402:=0
def tw12496828985295264906:=0
def tw7529486333860555700:=0
def tw9429228116107931119:=0
def tw1611965532353449984:=0
def tw17423927500721215982:=0
def tw16870643635396061446:=0
def tw6619934486496082367:=0
def tw12162151165870407382:=0
def tw6945070177250267106:=0
def tw1884900807756405824:=0
def tw610235107674843821:=0
def tw17028985617291432951:=0
def tw12234153358895446070:=0
def tw11417488922024474784:=0
def tw10911678766522207032:=0
def tw6173194346208545351:=0
def tw14802035502040674225:=0
def tw14855547101977339953:=0
def tw13008433879738246070:=0
def tw14344144773069210398:=0
def tw2420582350256860305:=0
def tw3911010054757591322:=0
def tw10265179404281452668:=0
def tw11420438915462556795:=0
def tw2702805309345353444:=0
def tw9344250500561822041:=0
def tw5220045438860702492:=0
def tw11896970097508750898:=0
def tw10126107952826944537:=0
def tw9768350772565806297:=0
def tw6316632727795055593:=0
def tw11682783120387447378:=0
def tw12539063456681607914:=0
def tw5906367922886292725:=0
def tw8866109329594483967:=0
def tw6729640900824482106:=0
def tw4242680306283383358:=0
def tw1345510692849399810:=0
def tw18072617983523996650:=0
def tw14980252923924216336:=0
def tw10561989443087742003:=0
def tw16006640895370851299:=0
def tw16324750567079200102:=0
def tw17709601036446833946:=0
def tw16091265733923378634:=0
def tw11440004487368581808:=0
def tw10221741051283919573:=0
def tw4463274302308917968:=0
def tw12277235901064363510:=0
def tw7777178230644110555:=0
def tw3072402185246768649:=0
def tw7634380717166340359:=0
def tw13457130126785920021:=0
def tw17939712979558515929:=0
def tw5113051830022946010:=0
def tw5144130460218334840:=0
def tw14147706466427582762:=0
def tw10958846400252688755:=0
def tw9872319232121632671:=0
def tw773925212986223030:=0
def tw14956639971405828547:=0
def tw8191864948057566003:=0
def tw16861004539163777267:=0
def tw2877496681902510417:=0
def tw17008264632341104895:=0
def tw15797922554861685910:=0
def tw4127883722998914893:=0
def tw12465771623352547288:=0
def tw5755952906490069237:=0
def tw3265101608082249725:=0
def tw15881558577373990581:=0
def tw17116960942203408891:=0
def tw10432930656782078728:=0
def tw6620759480219663176:=0
def tw16116757459208681093:=0
def tw11071706436856263203:=0
def tw12465276415962979540:=0
def tw11817447090210745944:=0
def tw16773715820542178229:=0
def tw15179377653499723026:=0
def tw6289647517343402676:=0
def tw2466460030417545838:=0
def tw9454346971979781321:=0
def tw3223535864088725448:=0
def tw12426835628962809341:=0
def tw15594167649962332831:=0
def tw13476742109883930744:=0
def tw12547822090741448538:=0
def tw17674747606901196738:=0
def tw10324656014383006275:=0
def tw18442574439410390574:=0
def tw18317028798419061243:=0
def tw1940406245364929606:=0
def tw8813543156116438107:=0
def tw5371915306717206406:=0
def tw1540677430943248824:=0
def tw12923180603256858429:=0
def tw4473585322758379822:=0
def tw3885388846081275028:=0
def tw16840271411540986456:=0
def tw10859480768748728701:=0
def tw10751358588912120828:=0
def tw16406969199293570270:=0
def tw10627477702743155417:=0
def tw18350833932692505322:=0
def tw17627346298913272435:=0
def tw15812042909424769847:=0
def tw11054342000813737335:=0
def tw5081007946704034880:=0
def tw16630278955981573135:=0
def tw17451343648814315831:=0
def tw272944892767498479:=0
def tw11339482570715011321:=0
def tw16045739274405329103:=0
def tw16374835159401670184:=0
def tw9496170488915048764:=0
def tw13059421101412660191:=0
def tw6949946052691943071:=0
def tw1911117409016546096:=0
def tw5029466473660439231:=0
def tw6449431301492491025:=0
def tw6065960301215941602:=0
def tw10315568209315007120:=0
def tw11421150893562211677:=0
def tw1701436548334293492:=0
def tw16950322194420489705:=0
def tw5954115741668409318:=0
def tw17305655053105335111:=0
def tw14862329603187849955:=0
def tw2283783463629516766:=0
def tw14886204380851591099:=0
def tw6084964498192446743:=0
def tw14622415446985350827:=0
def tw3025730909285944524:=0
def tw17626809980647560782:=0
def tw5190729924443441966:=0
def tw10840078347835309708:=0
def tw9350354624524702858:=0
def tw5499214103093756100:=0
def tw4183158928747843303:=0
def tw12064127525056449401:=0
def tw5740948573083611444:=0
def tw11303878508021871681:=0
def tw6773817783005631257:=0
def tw887541981390163051:=0
def tw15991581662484443926:=0
def tw9149323928564406165:=0
def tw5990658520903514969:=0
def tw12063605589238744915:=0
def tw1858224280507156983:=0
def tw16995048458845652733:=0
def tw15082239312573165995:=0
def tw5609482639690370177:=0
def tw11705780347655620877:=0
def tw9007121832486615009:=0
def tw1835633199950587828:=0
def tw8157671216754749101:=0
def tw9279047204329465443:=0
def tw6707933506487900651:=0
def tw9710896259224237804:=0
def tw1717183890660034194:=0
def tw18379679193024109314:=0
def tw11604304420116365956:=0
def tw14911054343115225381:=0
def tw7183183123884480318:=0
def tw3681229961985045722:=0
def tw4045471413454079461:=0
def tw9416928566433306994:=0
def tw8816185674070601731:=0
def tw3640068116149991290:=0
def tw7778161357846870891:=0
def tw17071749386800593441:=0
def tw9535387500840990394:=0
def tw7050912235225504203:=0
def tw11734957602899907731:=0
def tw12806877389407977479:=0
def tw2084574850714616176:=0
def tw14288132252558928939:=0
def tw17529286224892226472:=0
def tw6364418598658810676:=0
def tw13785936982178625649:=0
def tw2027601058256874287:=0
def tw5048741600559069103:=0
def tw3363611066523730926:=0
def tw14823023894846836489:=0
def tw4328250819407462697:=0
def tw891849612135537375:=0
def tw3064696086619656261:=0
def tw10713675468988590550:=0
def tw9843856769355881978:=0
def tw12413551492529318030:=0
def tw15171798892888447178:=0
def tw9179476616148554482:=0
def tw3692653130031305425:=0
def tw8107515687056433860:=0
def tw10646999965947586850:=0
def tw3944141978669896091:=0
def tw14863659474738420718:=0
def tw8146032317421881262:=0
def tw17081088451021817461:=0
def tw12542791537837079921:=0
def tw6965243176534477437:=0
def tw14464127589702083763:=0
def tw2203365022528497527:=0
def tw5109101108587417692:=0
def tw8620691735240984009:=0
def tw8379284636408191364:=0
def tw15188542028847483066:=0
def tw16468570088893953019:=0
def tw6659216779010090081:=0
def tw15164574494525991764:=0
def tw2462497838394756720:=0
def tw3929257881098322511:=0
def tw17587653499711890133:=0
def tw8963067982279781368:=0
def tw16839058886075962752:=0
def tw6356902531659433913:=0
def tw15588710138911814061:=0
def tw3417053721624644771:=0
def tw9698225039160846257:=0
def tw6002947612702619642:=0
def tw1067049647107107756:=0
def tw10607391115055168587:=0
def tw1822378780377171108:=0
def tw17202531943584904461:=0
def tw3664969449826736291:=0
def tw11780375606365616987:=0
def tw85293106932002840:=0
def tw17074087659153860469:=0
def tw2676314360636147731:=0
def tw2604075440157886704:=0
def tw8866585889323699289:=0
def tw798084420513115772:=0
def tw10751474818374845026:=0
def tw2987311056720183824:=0
def tw9848363797067453135:=0
def tw10298494004810662702:=0
def tw13377055910119901567:=0
def tw13510329918992482653:=0
def tw13941220408589830406:=0
def tw3155864424392911706:=0
def tw10776500050359866607:=0
def tw5999313863014331758:=0
def tw1196620217471560079:=0
def tw9921771650638969319:=0
def tw6243347368671096220:=0
def tw3089980559542177959:=0
def tw2985453013574005440:=0
def tw16919814667374601525:=0
def tw2829486838702236907:=0
def tw15931158792172301605:=0
def tw12618870112592285927:=0
def tw15460744618680115432:=0
def tw16265735608438283725:=0
def tw3966528552023076859:=0
def tw18182271764469702098:=0
def tw13173205205117852904:=0
def tw10665705259137249112:=0
def tw6805931838164872189:=0
def tw14987043221369311348:=0
def tw14290483868274512874:=0
def tw14250365616625968676:=0
def tw16129214782677798667:=0
def tw251717833788699903:=0
def tw18009025580218258909:=0
def tw620249565259835203:=0
def tw1208196489370380289:=0
def tw16592414621687773548:=0
def tw5442869463557566426:=0
def tw10028050773521664825:=0
def tw14245721270422949773:=0
def tw16811498116968172638:=0
def tw6141959771432714711:=0
def tw1895294410718505818:=0
def tw10838620831062362643:=0
def tw1885920149796908702:=0
def tw10897709546725188602:=0
def tw13759738141188865203:=0
def tw4337341012840528552:=0
def tw72471316853242350:=0
def tw16829382859551332498:=0
def tw13316993601606846343:=0
def tw11275713721447630754:=0
def tw3969038112152803100:=0
def tw13896631316189042976:=0
def tw17102103027312944885:=0
def tw3104538182790400756:=0
def tw2769484414788791211:=0
def tw2629245227673771570:=0
def tw11221703739175066955:=0
def tw4767924976019563398:=0
def tw18008241480109366647:=0
def tw16126643842563251266:=0
def tw1564140111224807232:=0
def tw9854747286747965092:=0
def tw5488055119138129415:=0
def tw14045048227159701937:=0
def tw1861620578518438405:=0
def tw7451942772432072300:=0
def tw1328888536776628788:=0
def tw6363921325336352355:=0
def tw18367466842800466113:=0
def tw5417476820593029097:=0
def tw16105174333991288125:=0
def tw15145151445338741103:=0
def tw13426011736842180069:=0
def tw10042803666443161973:=0
end PySem.W.Fast
open PySem PySem.W PyProof.Rows
set_option maxRecDepth 100000 in
set_option maxHeartbeats 0 in
theorem PySem.Challenge.cw_switchsay_k74_tables_of_nets_holds : PySem.Challenge.rw_switchsay_k74_tables_of_nets.Holds := by
  w_on;o_law;k_head;(case hw=>w_witness2)
  k_fill
  refine PB.N74.law_walkL (l:=PySem.Challenge.rw_switchsay_k74_tables_of_nets) (n:=63) (k:=103) (x:="_law_script") rfl rfl (fun w h Y=>PySem.W.kIn_of Y) (by decide) ⟨rfl,by decide,by decide⟩ ?F
  case F=>
    intro w mg fa h KX G hmg;refine' O74.all_mk KX G hmg ?zrange ?zabs ?zint ?zmax ?zmin ?ztuple ?zlist ?zlen ?zisinstance ?zenumerate ?zsum ?zall ?zany ?zzip ?zreversed ?zset ?zsorted ?zdict ?zbool ?mC ?pgC ?hdC ?poC ?saC ?mkC ?kpC ?na_letters ?na_ways ?klistnon ?klistbl ?klistint ?kliststr ?klisttup ?klistlst ?aaHOLDING_SORTS ?llHOLDING_SORTS ?aaTEST_SORTS ?llTEST_SORTS ?aaFIELD_SORTS ?llFIELD_SORTS ?l1 ?l2 ?l3 ?l4 ?l5 ?l6 ?l7 ?l8 ?l9 ?l10 ?l11 ?l12 ?l13 ?l14 ?l15 ?l16 ?l17 ?l18 ?l19 ?l20 ?l21 ?l22 ?l23 ?l24 ?l25 ?l26 ?l27 ?l28 ?l29 ?l30 ?l31 ?l32 ?l33 ?m33 ?g33 ?r33 ?b33 ?l34 ?b34 ?i34 ?l35 ?b35 ?i35 ?l36 ?b36 ?i36 ?l37 ?b37 ?i37 ?l38 ?l39 ?l40 ?l41 ?l42 ?l43 ?l44 ?l45 ?l46 ?l47 ?l48 ?l49 ?l50 ?l51 ?l52 ?l53 ?l54 ?l55 ?l56 ?l57 ?l58 ?l59 ?l60 ?l61 ?l62 ?l63 ?l64 ?l65 ?l66 ?l67 ?l68
    case zrange|zabs|zint|zmax|zmin|ztuple|zlist|zlen|zisinstance|zenumerate|zsum|zall|zany|zzip|zreversed|zset|zsorted|zdict|zbool|mC|pgC|hdC|poC|saC|mkC|kpC|na_letters|na_ways|aaHOLDING_SORTS|llHOLDING_SORTS|aaTEST_SORTS|llTEST_SORTS|aaFIELD_SORTS|llFIELD_SORTS|m33|g33|r33|b33|b34|i34|b35|i35|b36|i36|b37|i37=>k_is
    case klistnon|klistbl|klistint|kliststr|klisttup|klistlst=>kit_is
    case l1|l2|l3|l4|l5|l6|l7|l8|l9|l10|l11|l12|l13|l14|l15|l16|l17|l18|l19|l20|l21|l22|l23|l24|l25|l26|l27|l28|l29|l30|l31|l32|l38|l39|l40|l41|l42|l43|l44|l45|l46|l47|l48|l49|l50|l51|l52|l53|l54|l55|l56|l57|l58|l59|l60|l61|l62|l63|l64|l65|l66|l67|l68=>refine' VL.af_mk ?a ?l ?c ?k;(case a=>k_is);(case l=>k_is);(case c=>k_is);(case k=>k_is)
    case l33|l34|l35|l36|l37=>refine' VL.at_mk ?l ?c ?k;(case l=>k_is);(case c=>k_is);(case k=>k_is)
