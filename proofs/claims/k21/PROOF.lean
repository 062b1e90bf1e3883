import PyProof.Rows.All
import Wide.All
import OpenK.AllK
import Wide.FinOn
import PySem.Challenge.RW_switchsay_k21_trails
set_option bootstrap.genMatcherCode false
set_option genSizeOf false
set_option compiler.extract_closed false
theorem XZ(h:0=0:=by rfl):0=0:=h
theorem XX(h:0=0:=by decide):0=0:=h
local macro_rules
 | `(⇑$x)=>`(by simpa using $x)
local macro_rules
 | `(↥$x)=>`(autoParam $x XZ._auto_1)
local macro_rules
 | `(↑$x)=>`(autoParam $x XX._auto_1)
local macro_rules
 | `(‹$x›)=>`($(x).heap.objs.size)
local macro_rules
 | `(tactic|show $x)=>`(tactic|refine $x)
local macro_rules
 | `({$x:term,$y,*})=>`(⟨$x,$y,*⟩)
local macro_rules
 | `(#v[])=>`(by decide)
 | `(#v[$x,*])=>`(⟨$x,*⟩)
local macro_rules
 | `(())=>`(by lia)
local macro_rules
 | `(∅)=>`(by simp)
local macro_rules
 | `(⋯)=>`(by decide +kernel)
set_option hygiene false in
local macro_rules
 | `(tactic|exists $h)=>`(tactic|(refine ⟨rfl,?_⟩;refine sfN (($h _).trans rfl) ?_))
set_option hygiene false in
local macro_rules
 | `(tactic|exists $h,rfl)=>`(tactic|(refine ⟨rfl,?_⟩;refine sfY (($h _).trans rfl) ?_))
abbrev XQ:=List PySem.Str
open Option renaming some->KE,none->MN
open Bool renaming true->MO,false->MP
open PySem renaming Addr->MQ,Heap->MR,Expr->MS,Stmt->MT
abbrev MU:=@if_pos
abbrev MV:=@if_neg
abbrev MW:=@decide_eq_false
abbrev MX:=@decide_eq_true
abbrev MY:=@absurd
abbrev NA:=@congrArg
noncomputable abbrev ZZ:XQ:=["letters","ways"]
noncomputable abbrev ZY:XQ:=["range","abs","int","max","min","tuple","list","len","isinstance","enumerate","sum","all","any","zip","reversed","set","sorted","dict","bool"]
noncomputable abbrev ZX:XQ:=["_law_speech_here","_law_saying_here","_law_trail","_law_spots"]
noncomputable abbrev ZW:XQ:=["self","rooms","letter"]
noncomputable abbrev ZV:XQ:=["_law_speech_here","_law_saying_here","_law_trail"]
noncomputable abbrev ZU:XQ:=["letters","place","value"]
noncomputable abbrev ZT:XQ:=["_law_row","_law_cell_here","_law_speech_here","_law_most"]
noncomputable abbrev ZS:XQ:=["self","room","letter"]
noncomputable abbrev ZR:XQ:=["first","second"]
noncomputable abbrev ZQ:XQ:=["_law_speech_here","_law_saying_here","_law_pick"]
noncomputable abbrev ZP:XQ:=["saying"]
noncomputable abbrev ZO:XQ:=["_law_sort","_law_purse_here","_law_speech_here"]
noncomputable abbrev ZN:XQ:=["speech","saying","letter","count"]
noncomputable abbrev ZM:XQ:=["_law_letters_here","_law_letter","_law_many"]
noncomputable abbrev ZL:XQ:=["speech","letters","part","inner"]
noncomputable abbrev ZK:XQ:=["_law_cells","_law_speech_here","_law_most"]
noncomputable abbrev ZJ:XQ:=["_law_speech_here"]
noncomputable abbrev ZI:XQ:=["_law_cell_here"]
noncomputable abbrev ZH:XQ:=["one","other"]
noncomputable abbrev ZG:XQ:=["self","letters","ways"]
noncomputable abbrev ZF:XQ:=["machine","beginnings","ending"]
noncomputable abbrev ZE:XQ:=["size"]
noncomputable abbrev ZD:XQ:=["relation"]
noncomputable abbrev ZC:XQ:=["_law_script","_law_k"]
noncomputable abbrev ZA:XQ:=["_law_purse_here","_law_many"]
noncomputable abbrev Z':XQ:=["speech","letters","saying"]
noncomputable abbrev YZ:XQ:=["machine","letter","count"]
noncomputable abbrev YY:XQ:=["none","all","is","not","either","then"]
noncomputable abbrev YX:XQ:=["speech","letters","part"]
noncomputable abbrev YW:XQ:=["machine","pairs","layer"]
noncomputable abbrev YV:XQ:=["speech","field","value"]
noncomputable abbrev YU:XQ:=["self","speech","saying"]
noncomputable abbrev YT:XQ:=["mask","relation"]
noncomputable abbrev YS:XQ:=["letters","mask"]
noncomputable abbrev YR:XQ:=["machine","beginnings"]
noncomputable abbrev YQ:XQ:=["_law_row","_law_word"]
noncomputable abbrev YO:XQ:=["_law_one","_law_many"]
noncomputable abbrev YN:XQ:=["count","value"]
noncomputable abbrev YM:XQ:=["speech","part"]
noncomputable abbrev YL:XQ:=["row","anew","start"]
noncomputable abbrev YK:XQ:=["speech","saying"]
noncomputable abbrev YJ:XQ:=["letters","count"]
noncomputable abbrev YI:XQ:=["machine","count"]
noncomputable abbrev YH:XQ:=["ways"]
noncomputable abbrev YG:XQ:=["_law_spot"]
local macro_rules
  | `(tactic| obtain $p:rcasesPatMed := $t) => `(tactic| (refine Classical.byContradiction fun hG_ => ?_; obtain $p:rcasesPatMed : _ := $t; all_goals refine hG_ ?_))
open PySem renaming wpAny_bind->aA,Shared->aG,wpAny->aJ,Value->aK,starEach->aM,Program->aQ,model->aV,World->bB,mainGlobals->bJ,Around->bX,cLine->cK,wpAny_holding->dA,wpAny_call_entry->dD,wpAny_field->dF,wpAny_pyIter_list->dJ,wpAny_callSpecial?_slot->dO,backTo->dS,wpAny_newObj_type->dW,bootBuiltins->dY,binaryOp->eC,compareOp->eE,wpAny_seqItems->eI,SetTable->eS,wpAny_setField_rec->eT,wpAny_forIn_list->eY,intKind->eZ,wpAny_pyIter_tuple->fP,wpAny_setState_of->gA,sysModules->gD,wpAny_specialOf->gG,FuncData->gY,Builtin->hU,attributeBase->iA,wpAny_isInstance->iC,wpAny_Call_Name_kw->iD,sizeLine_eq->iI,pyNext->iM,wpAny_typeOf->iN,codeAny_builtin->iQ,holding->iV,foldedSetIterable->iW,wpAny_mono->jF,keywordEach->jG,call_meets->jH,IsTupleKey->jI,wpAny_passesOwn->jL,wpAny_truthy_bool->jU,ofAClassStatement->jV,assignEach->jW,mem_of_lookup->kI,wpAny_getItem_str_slice->kN,codeAny->kQ,swapsWith->kS,rawInt->kU,atKey->kY,backToKw->lM,wpAny_rule->lN,wpAny_askSetting->lP,wpAny_attempt->lX,IsPair->lY,sliceBounds->lZ,relabel->mB,assign->mH,getMethod->mJ,codeAny_mono->mL,tupleKind_room_in1->mQ,entryOfKey->mV,Scope->mW,standAt->mX,getItem->mZ,wpAny_setField->nA,storedH->nB,wpAny_dictEntries->nO,wpAny_pyNext_list_item->nS,IsEnum->nX,hashByValue->oA,wpAny_pyNext_list_end->oI,Keyword->oK,isSubtype_tuple_tuple->oN,builtinLookup_eq_fast->oO,wpAny_execs_nil->oS,letOwnedTupleGo->oT,IsPart->oW,PlainAttrs->oX,post_val_or_str->pA,field->pB,wpAny_updateSeq_pair->pG,wpAny_setEntries_of->pL,GenState->pM,bindArgs->pO,callerA->pQ,firstArgMember->pR,IsZip->pW,wpAny_tupleItemsOf->qD,wpAny_standAt->qG,behindInMarks->qH,plainId_quiet->qL,wpAny_newList->qM,wpAny_onRaise->qN,wpAny_sequenceKey->qR,BindsTo->rA,valueAt->rB,callWith->rC,NameKind->rD,noFill_tuple_add->rE,preSum->rK,tupleKind->rS,eqIsQuiet->rZ,typeLookup_type->sA,IsRangeIter->sG,wpAny_letGo->sI,isSubtype_type->sM,isSubtype_stop->sP,wpAny_newTuple->sQ,bindL->sW,bindC->sX,typeIs_int->tD,reduceHash->tG,ZipApart->tH,swapsWithSole->tK,swappedStores->tM,seq_tuple_add->tQ,evalPart_none->tR,Within->tY,isTrue->uA,PassesOwn->uB,concat_meets->uE,typeOf->uH,pickOrder->uK,IsEnumOut->uO,putSet_of->uQ,spliced->uR,seqIndex_of->uT,wpAny_of_eq->uU,entryFor->uW,builtinsNs->uY,wpAny_Name->uZ,pyIter->vA,Result->vC,wpAny_call->vD,typeIs_str->vE,call->vG,closureFor->vH,isInstance->vJ,setsByText->vL,setItem->vM
theorem XJ(h:0=0:=by first | show .inl rfl | show .inr rfl | assumption):0=0:=h
theorem XW(h:0=0:=by intro _;rfl):0=0:=h
theorem JQ(h:0=0:=by decide +kernel):0=0:=h
theorem JX(h:0=0:=by show fsN):0=0:=h
theorem JJ(h:0=0:=by show aU rfl):0=0:=h
theorem JK(h:0=0:=by intro _;intros;rfl):0=0:=h
theorem JV(h:0=0:=by first | show aU rfl | show dZ (aU rfl) | show dZ (dZ rfl)):0=0:=h
theorem KQ(h:0=0:=by with_unfolding_all rfl):0=0:=h
theorem KZ(h:0=0:=by repeat' first | show trivial | with_unfolding_all rfl | constructor):0=0:=h
theorem KJ(h:0=0:=by show λ_ _=>rfl):0=0:=h
open List renaming getElem?_eq_getElem->aB,length_map->aC,length_append->aH,size_toArray->aL,getElem?_map->aN,mem_cons_self->aP,mem_singleton->aR,mem_cons_of_mem->aT,length_cons->aW,mem_cons->aY,range->bA,replicate->bC,map_cons->bE,map_append->bF,mem_of_getElem?->bG,mem_map->bI,getElem?_eq_some_iff->bK,nil_append->bL,getD_eq_getElem?_getD->bN,length_range->bP,length_take->bR,mem_range->bW,mem_append_right->bY,getElem?_append_left->cA,append_nil->cE,length_singleton->cG,getElem?_append_right->cN,mem_filter->cO,getElem?_range->cP,getElem?_set_ne->cS,mem_append->cT,getElem?_eq_none->cU,map_map->cV,take_add_one->cX,length_replicate->cY,getElem?_set_self->cZ,take_length->dE,idxOf_lt_length_iff->dH,length_drop->dI,find?_cons->dM,getElem?_replicate->dN,mem_append_left->dR,not_mem_nil->dU,nodup_cons->eG,append_assoc->eO,length_nil->eW,mem_flatMap->fF,replicate_succ->fG,length_reverse->fH,toArray->fN,pairwise_cons->fQ,getElem_mem->fS,take_of_length_le->fY,filterMap_cons->gB,drop_eq_getElem_cons->gF,getElem?_of_mem->gR,mem_zipIdx_iff_getElem?->gW,flatMap_cons->gZ,length_set->hI,getElem_idxOf->iE,take_append_drop->iF,length_zipIdx->iH,map_nil->iO,range_succ->iP,length_filterMap_le->iU,reverse_cons->iX,flatten_cons->iY,ext_getElem?->iZ,length_eq_zero_iff->jB,mem_map_of_mem->jC,filterMap_append->jM,eq_nil_or_concat->jO,concat_eq_append->jP,length_filter_le->jQ,any_cons->jT,getElem_toArray->jX,reverse_nil->kF,filterMap_cons_some->kG,map_congr_left->kK,zip_cons_cons->kX,lookup->lB,cons_append->lO,mem_of_mem_take->lQ,getElem?_zipIdx->lT,getLast?_concat->lU,dropLast_concat->lV,length_flatMap->mE,flatMap_append->mF,mem_filterMap->mI,filterMap_map->mO,filterMap_cons_none->mS,nodup_nil->nH,mem_singleton_self->nJ,getElem?_inj->nP,filter_congr->nR,drop_eq_nil_of_le->nY,append_eq_nil_iff->nZ,any_eq_true->oE,any_toArray->oF,map_reverse->oG,mem_iff_getElem?->oP,pairwise_append->pD,getElem?_mapIdx->pI,length->pU,map_id->pZ,getElem?_drop->qF,all_cons->qI,foldl_append->qW,lookup_cons->rH,perm_middle->rM,of_mem_zip->rV,foldl_cons->rW,filter_map->sC,sum_append->sD,drop_zero->sJ,map_take->tU,map_drop->tV,zipWith->uP,map->uX,foldl->vF
open PySem.Heap renaming get?_push_of_some->aE,lt_size->aS,get?_push_size->aZ,SameBut->eN,size_push->eU,get?_update_self->gH,ExtBut->mD,IsTuple->pH,IsList->pX
open PySem.W renaming Frag->aF,nsIn->cF,findIn->cW,kitOne->eF,kia_one->eV,keepIn->fK,fnOf->fV,emptyDict->fZ,isFn->gJ,kas_rev->iG,instObj->iJ,kas_sort->kE,mg_of->kR,kas_desc->lC,kas_place->lJ,plainGet->lK,callWith_K->mM,codeIn->mY,kas_asc->nD,hasDictIn->nL,specialIn->nM,OpenLaw->nV,methodCall_KW->oJ,makesIn->oU,kas_descPart->pF,plainGet_of->pJ,lookIn->pN,methodObj->qO,plainOver->qP,kitx_list->qQ,takerIn->rT,readsIn->rX,findCls->rY,kas_bin->sO,kas_rev_size->uL,kas_tail3->uM,kas_count->uN
open Nat renaming le_refl->aI,le_trans->aX,ne_of_lt->bH,lt_of_lt_of_le->bU,zero_lt_one->bZ,zero_le->cH,zero_add->eP,ne_of_gt->eX,lt_irrefl->fU,lt_trans->fW,testBit_succ->gO,mul_le_mul_right->gU,le_of_lt->iK,testBit_and->iS,lt_succ_self->jD,not_lt_zero->jN,eq_of_testBit_eq->jY,pow_succ->kD,mod_lt->kZ,pow_le_pow_right->lS,mul_comm->mP,testBit_two_pow_self->mR,add_le_add->nE,le_succ_of_le->nQ,le_of_not_lt->oC,add_comm->oY,two_pow_pos->pC,le_succ->pS,add_sub_cancel->qE,add_assoc->qJ,lt_of_succ_lt->qV,lt_succ_of_lt->qX,min_le_right->rF,sub_zero->rL,min_self->rN,succ_ne_zero->rO,min_eq_left->sF,mul_le_mul->sS,mul_assoc->tT,succ_mul->uI
open Bool renaming false_ne_true->aO,false_eq_true->bM,and_eq_true->cI,not_true->fJ,eq_iff_iff->fO,and_false->lG,or_eq_true->mG,and_true->oB,and_self->tX
open Or renaming inl->aU,inr->dZ
open PySem.PassesOwn renaming never->bO
open PySem.Value renaming ref->bQ,isInt->fE,none->fR,int->jZ,bool->mT,type->mU,builtin->qK,str->rQ,float->uS
open Array renaming getElem?_toList->bS,getElem?_eq_getElem->bV,getD_eq_getD_getElem?->cJ,length_toList->cM,getElem?_eq_some_iff->fX,forIn_toList->gM,getElem?_eq_none_iff->lW,replicate->sE
open Int renaming toNat_natCast->bT,one_mul->pY,lt_trans->rP,ediv_one->uF
open Option.some renaming inj->cB
open PySem.F renaming plainAttrs_list->cQ,slot_list_extend->gP,type_list_extend->gQ,slot_list_index->jA,args_tuple_add_2->mN,entry_tuple_add->nI,type_list_index->nK,slot_tuple_add->nT,slot_list_pop->oQ,type_list_pop->oR
open Option renaming map_eq_some_iff->dB,isSome_map->eA,isSome_iff_exists->kC,map->pE
open PyProof.Rows renaming slot_tuple_getitem->dC,callWith_type1->eB,seqObj->fB,callWith_builtin1->kW,IntsAre->lF,subscriptTail_builtinR->nU,units_in1->nW,AllBare->oH,envOfC->oV,entry_tuple_getitem->pK,slicePart_none->pP,mirror_perm->pV,args_tuple_getitem->qB,IsTup->rR,subscriptTail->tS,listUpdate_at->tW,seqEpoch_at->uV,boot_range->vB,bubble->vK
open PySem.Str renaming ofString->dG
open PySem.Builtin renaming bitAnd->dP,bitOr->dX,bitXor->kB,bitNot->sR
open PySem.Builtin.SmallTypes renaming nextOf->dQ,ownedTupleIsFree->eJ,ownedTupleHandOut->gN
open PySem.Heap.SameBut renaming update->eM,refl->qU
open PySem.Builtin.Slice renaming slicePlaces->eQ,sliceAdjust->gE,sliceApplied->jR
open PySem.Builtin.Tuple renaming tupleHashOf->eR,tupleExact->fM,tupleItemsOf->jS
open PySem.Obj renaming mapSeq->fA,data_mapFields->gL,putSet->lR,isFreed_of_fields->oM,cls_mapFields->qT
open PySem.Builtin.List renaming listTooLong->gK
open False renaming elim->hV
open True renaming intro->hX
open List.cons renaming inj->iB
open PySem.Around renaming under_plainId->iR,under->uC
open PySem.Heap.IsList renaming push->jE
open PySem.Shared renaming heap->jJ
open PyProof.Rows.F renaming plain_set_update_loop->jK
open Iff renaming rfl->kA
open PySem.Builtin.Int renaming intBits->kJ
open PySem.Builtin.Range renaming rangeSize->kM
open PySem.Builtin.Dict renaming updateFrom->kO
open Classical renaming propDecidable->kP
open PySem.SetTable renaming sizeAbove->lA,grown->nG
open Prod.mk renaming inj->lE
open List.Perm renaming append_left->lH,refl->lI,swap->sU,cons->sV
open PySem.Calls renaming spliced_cons->mK,spliced_nil->nN
open ForInStep renaming yield->oZ
open PySem.Data renaming cell->qA,fields->sH,seq->vS
open PySem.Txt renaming slice->qC,slice_le->rJ
open List.Pairwise renaming nil->qS,imp->qY,map->qZ
open PySem.SeqAt renaming EqAt->sY
open Prod renaming ext->sZ,fst->tJ
open PySem.Walks renaming list->tF
open PySem.Code renaming isFrame->uD
open PyProof.Rows.IsTup renaming new->uG
open PySem.pickOrder renaming go->uJ
abbrev LJ:=List (List Int)
abbrev LK:=List (PySem.Str×Nat)
abbrev BK:=List (PySem.Addr×PySem.Obj)
abbrev LQ:=List Int
abbrev L1:=List Nat
abbrev AQ:=List PySem.Str
abbrev AX:=Option aK
abbrev AJ:=List aK
abbrev AK:=Option Int
abbrev AW:=Array aK
abbrev CQ:=Array Nat
abbrev BW:=List PySem.Expr
abbrev CZ:=List PySem.Addr
set_option Elab.async false
set_option autoImplicit true
set_option relaxedAutoImplicit true
set_option linter.all false
set_option maxRecDepth 100000
namespace L2
open PySem PySem.Spec PyProof.Rows
abbrev Key:=Sum Int Str
def Bq:Key->aK->Bool
 | .inl k,v=>fE k v
 | .inr x,v=>Value.isStrOf x v
def xb (w:bB):Key->Int
 | .inl k=>hashInt k
 | .inr x=>hashStr w x
theorem gw:∀{k v},Bq k v=MO->(∃i t,k=Sum.inl i/\v=jZ i t)\/(∃x t,k=Sum.inr x/\v=rQ x t)
 | .inl i,v,h=>by
  obtain⟨t,e⟩:=Value.isInt_shape (k:=i) (v:=v) h;show .inl #v[i,t,rfl,e]
 | .inr x,v,h=>by
  obtain⟨t,e⟩:=Value.isStrOf_shape (x:=x) (v:=v) h;show .inr #v[x,t,rfl,e]
def Vw (i:Int)(t:Tok):Bq (.inl i) (.int i t)=MO:=by simp[Bq,fE]
def Vx (x:Str)(t:Tok):Bq (.inr x) (.str x t)=MO:=by simp[Bq,Value.isStrOf]
def ahf (a b:Int):decide ((Sum.inl a:Key)=Sum.inl b)=(a == b):=by
 by_cases e:a=b;{subst e;simp};{have h:¬(Sum.inl a:Key)=Sum.inl b:=λq=>e (Sum.inl.inj q);rw[MW h];show(beq_eq_false_iff_ne.mpr e).symm}
def ahg (a b:Str):decide ((Sum.inr a:Key)=Sum.inr b)=decide (a=b):=by
 by_cases e:a=b;{subst e;simp};{have h:¬(Sum.inr a:Key)=Sum.inr b:=λq=>e (Sum.inr.inj q);rw[MW h,MW e]}
def ahh (a:Int)(b:Str):decide ((Sum.inl a:Key)=Sum.inr b)=MP:=MW (λq=>nomatch q)
def ahi (a:Str)(b:Int):decide ((Sum.inr a:Key)=Sum.inl b)=MP:=MW (λq=>nomatch q)
def g6 (prog:aQ)(w:bB):PySem.KeyKind prog w Key where
 is:=Bq
 hash:=xb w
 inj:=λv a b ha hb=>by
  rcases gw ha with⟨i,t,rfl,rfl⟩ | ⟨x,t,rfl,rfl⟩;{rcases gw hb with⟨j,u,rfl,e⟩ | ⟨y,u,rfl,e⟩;{injection e with e1 _;rw[e1]};{show nomatch e}};{rcases gw hb with⟨j,u,rfl,e⟩ | ⟨y,u,rfl,e⟩;{show nomatch e};{injection e with e1 _;rw[e1]}}
 byValue:=λk v h=>by
  rcases gw h with⟨i,t,rfl,rfl⟩ | ⟨x,t,rfl,rfl⟩<;>rfl
 pyHash:=λhv h=>by
  rcases gw hv with⟨i,t,rfl,rfl⟩ | ⟨x,t,rfl,rfl⟩;{show wpAny_pyHash_int h};{show wpAny_pyHash_str h}
 eqBool:=λhu hv h=>by
  rcases gw hu with⟨i,t,rfl,rfl⟩ | ⟨x,t,rfl,rfl⟩;{rcases gw hv with⟨j,u,rfl,rfl⟩ | ⟨y,u,rfl,rfl⟩;{rw[ahf]at h;show wpAny_eqBool_int h};{rw[ahh]at h;show SeqAt.EqAt.int_str i t y u _ _ _ _ h}};{rcases gw hv with⟨j,u,rfl,rfl⟩ | ⟨y,u,rfl,rfl⟩;{rw[ahi]at h;show SeqAt.EqAt.str_int x t j u _ _ _ _ h};{rw[ahg]at h;show wpAny_eqBool_str h}}
 «strs»:=λk x t v h=>by
  rcases gw h with⟨i,u,rfl,e⟩ | ⟨y,u,rfl,e⟩;{show nomatch e};{injection e with e1 _;subst e1;cases v<;>rfl}
def Pn (prog:aQ)(w:bB)(i:Int)(t:Tok):(g6 prog w).is (.inl i) (.int i t)=MO:=Vw i t
def Po (prog:aQ)(w:bB)(x:Str)(t:Tok):(g6 prog w).is (.inr x) (.str x t)=MO:=Vx x t
inductive V where
 |non | bl (b:Bool) | int (i:Int) | str (x:Str) | byt (b:Array UInt8) | flt (b:UInt64) | ref (a:MQ) | ty (n:String)
 deriving DecidableEq
abbrev _root_.DK:=List V
def RelV:V->aK->Prop
 | .non,u=>u=fR
 | .bl b,u=>u=mT b
 | .int i,u=>∃t,u=jZ i t
 | .str x,u=>∃t,u=rQ x t
 | .byt b,u=>∃t,u=Value.bytes b t
 | .flt b,u=>∃t,u=uS b t
 | .ref a,u=>u=bQ a
 | .ty n,u=>u=mU n
abbrev Vals:DK->AJ->Prop:=Paired RelV
theorem Vals.length {xs:DK}{us:AJ}(r:Vals xs us):xs.length=us.length:=Paired.length r
theorem Vals.get:∀{xs:DK}{us:AJ}{i:Nat}{x:V},Vals xs us->xs[i]?=KE x->∃u,us[i]?=KE u/\RelV x u
 |_,_,_,_,.nil,e=>by simp at e
 |_,_,0,_,.cons r _,e=>by simp at e;subst e;show{_,rfl,r}
 |_,_,i+1,x,.cons _ t,e=>by
  obtain⟨u,a,b⟩:=Vals.get (i:=i) (x:=x) t (⇑e);show{u,by simpa using a,b}
theorem Vals.set (r:RelV x u):∀{xs us} i,Vals xs us->Vals (xs.set i x) (us.set i u)
 |_,_,_,.nil=>.nil
 |_,_,0,.cons _ t=>.cons r t
 |_,_,i+1,.cons q t=>.cons q (Vals.set r i t)
theorem Vals.append:∀{xs ys:DK}{us ws:AJ},Vals xs us->Vals ys ws->Vals (xs++ys) (us++ws)
 |_,_,_,_,.nil,s=>s
 |_,_,_,_,.cons r t,s=>.cons r (Vals.append t s)
theorem Vals.take:∀{xs us} n,Vals xs us->Vals (xs.take n) (us.take n)
 |_,_,0,_=>.nil
 |_,_,_+1,.nil=>.nil
 |_,_,n+1,.cons r t=>.cons r (Vals.take n t)
theorem Vals.drop:∀{xs us} n,Vals xs us->Vals (xs.drop n) (us.drop n)
 |_,_,0,r=>r
 |_,_,_+1,.nil=>.nil
 |_,_,n+1,.cons _ t=>Vals.drop n t
def RelO:Option V->AX->Prop
 |some v,KE u=>RelV v u
 |none,MN=>True
 |_,_=>False
def KV {a:Type}:List (a×V)->List (a×aK)->Prop:=Paired λp q=>p.1=q.1/\RelV p.2 q.2
def kV:Key->V
 | .inl i=>.int i
 | .inr x=>.str x
inductive HO where
 |lst (xs:DK)
 |tup (xs:DK)
 |dK (kvs:List (Key×V)) | dT (kvs:List (List Key×V))
 |set (S:Int->Bool) (n:Nat)
 |ins (C dx:MQ) (fs:List (Str×V))
 |own (x:MQ)
 |xd (fs:List (Str×V))
 |met (f x:MQ)
 |rng (lo hi:Int)
 |frz (o:Obj) (u:HO)
 |tbl (ps:AW)
 |ext (φ:MR->Prop)
abbrev Hp:=MQ->Option HO
def upd (H:Hp)(a:MQ)(o:HO):Hp:=λb=>if b=a then KE o else H b
def bh {H:Hp}{a:MQ}{o:HO}:upd H a o a=KE o:=by unfold upd;rw[MU rfl]
def bc {H:Hp}{a b:MQ}{o:HO}(h:b≠a):upd H a o b=H b:=by unfold upd;rw[MV h]
def ne_of {H:Hp}{a b:MQ}{o u:HO}(h:H a=KE o)(h':H b=KE u)(d:o≠u):a≠b:=by
 intro e;subst e;rw[h]at h';show d (cB h')
def b7 {H:Hp}{a b:MQ}{o:HO}(h:H a=KE o)(h':H b=MN):a≠b:=by
 intro e;subst e;rw[h]at h';cases h'
section
variable (P:aQ)(w:bB)
def ObjOk (H:Hp)(h:MR)(a:MQ):HO->Prop
 | .lst xs=>xs.length<=sizeLine/\∃its n,Vals xs its/\h.get? a=KE { cls:=.type "list",data:=.seq its.toArray n }
 | .tup xs=>xs.length<=sizeLine/\∃its:AJ,Vals xs its/\rR h a its.toArray
 | .dK kvs=>kvs.length<=sizeLine/\(a == gD)=MP/\∃vs,KV kvs vs/\h.DictOf (g6 P w) a vs
 | .dT kvs=>kvs.length<=sizeLine/\(a == gD)=MP/\∃xs:List (List Key×MQ×aK),
   Paired (λp q=>p.1=q.1/\H q.2.1=KE (.tup (p.1.map kV))/\RelV p.2 q.2.2) kvs xs/\
   ∃o e j,h.get? a=KE o/\o.ExactDict/\o.data=.dict e j/\e.toList=xs.map (mV (rS (g6 P w)))/\(xs.map (·.1)).Nodup
 | .set S n=>h.SetOf (eZ P w) a S n
 | .ins C c fs=>H c=KE (.own a)/\fs.length<=1000/\c≠a/\h.get? a=KE (iJ C c)/\
   ∃b,h.Ns1 c b/\(∀f,RelO (fs.lookup f) (b f))/\tY b (fs.map (·.1))
 | .own _=>∃o,h.get? a=KE o
 | .xd fs=>∃b,h.Ns1 a b/\∀f,RelO (fs.lookup f) (b f)
 | .rng lo hi=>∃t u v,h.get? a=KE { cls:=.type "range",data:=.fields #[.int lo t,.int hi u,.int 1 v] }
 | .frz o u=>h.get? a=KE o/\ObjOk H h a u
 | .tbl ps=>h.get? a=KE { cls:=.none,data:=.fields ps }
 | .met f x=>h.get? a=KE (qO (.ref f) (.ref x))
 | .ext d=>d h/\(∃o,h.get? a=KE o)/\∀g i:MR,d g->(∀o,g.get? a=KE o->i.get? a=KE o)->d i
def HOk (H:Hp)(h:MR):Prop:=∀a o,H a=KE o->ObjOk P w H h a o
end
section
variable {P:aQ}{w:bB}{H H':Hp}{h h':MR}{a:MQ}{o:HO}
theorem ObjOk.lt (x:ObjOk P w H h a o):a < h.objs.size:=by
 cases o with
 |lst xs=>obtain⟨_,_,_,_,e⟩:=x;show aS e
 |tup xs=>obtain⟨_,_,_,p⟩:=x;show p.lt
 |dK kvs=>obtain⟨_,_,_,_,o,_,_,e,_⟩:=x;show aS e
 |dT kvs=>obtain⟨_,_,_,_,o,_,_,e,_⟩:=x;show aS e
 |set S n=>obtain⟨o,_,_,_,e,_⟩:=x;show aS e
 |ins C b fs=>obtain⟨_,_,_,e,_⟩:=x;show aS e
 |own y=>obtain⟨_,e⟩:=x;show aS e
 |xd fs=>obtain⟨_,⟨_,_,_,e,_⟩,_⟩:=x;show aS e
 |rng lo hi=>obtain⟨_,_,_,e⟩:=x;show aS e
 |frz c u=>obtain⟨e,_⟩:=x;show aS e
 |tbl ps=>show aS (show h.get? a=KE _ from x)
 |met f y=>show aS (show h.get? a=KE _ from x)
 |ext d=>obtain⟨_,⟨_,e⟩,_⟩:=x;show aS e
theorem Paired.mapP:∀{l₁ c},Paired F l₁ c->(∀a b,F a b->G a b)->Paired G l₁ c
 |_,_,.nil,_=>.nil
 |_,_,.cons r t,f=>.cons (f _ _ r) (Paired.mapP t f)
def ObjOk.stay (x:ObjOk P w H h a o)(k:∀b u,(b=a\/H b=KE (.own a))->h.get? b=KE u->h'.get? b=KE u)
  (s:∀b,H b=KE (.own a)->H' b=KE (.own a)) (A:∀b xs,H b=KE (.tup xs)->H' b=KE (.tup xs)):ObjOk P w H' h' a o:=by
 induction o with
 |lst xs=>obtain⟨z,its,n,r,e⟩:=x;show{z,its,n,r,k _ _ (.inl rfl) e}
 |tup xs=>obtain⟨z,its,r,g,e,c⟩:=x;show{z,its,r,g,k _ _ (.inl rfl) e,c}
 |dK kvs=>obtain⟨z,y,vs,r,g,i,j,e,c⟩:=x;show{z,y,vs,r,g,i,j,k _ _ (.inl rfl) e,c}
 |dT kvs=>
  obtain⟨z,y,xs,r,g,i,j,e,c⟩:=x;show{z,y,xs,Paired.mapP r λp q z=>{z.1,A _ _ z.2.1,z.2.2},g,i,j,k _ _ (.inl rfl) e,c}
 |set S n=>obtain⟨g,i,j,t,e,c⟩:=x;show{g,i,j,t,k _ _ (.inl rfl) e,c}
 |ins C G fs=>
  obtain⟨d,z,ne,e,l,⟨m,i,j,D,c⟩,r⟩:=x;show{s _ d,z,ne,k _ _ (.inl rfl) e,l,{m,i,j,k _ _ (.inr d) D,c},r}
 |own y=>obtain⟨g,e⟩:=x;show{g,k _ _ (.inl rfl) e}
 |xd fs=>obtain⟨l,⟨m,i,j,e,c⟩,r⟩:=x;show{l,{m,i,j,k _ _ (.inl rfl) e,c},r}
 |rng lo hi=>obtain⟨t,u,v,e⟩:=x;show{t,u,v,k _ _ (.inl rfl) e}
 |frz g u E=>obtain⟨e,q⟩:=x;show{k _ _ (.inl rfl) e,E q}
 |tbl ps=>
  have e:h.get? a=KE { cls:=.none,data:=.fields ps }:=x;change h'.get? a=KE { cls:=.none,data:=.fields ps };show k a _ (.inl rfl) e
 |met f y=>
  have e:h.get? a=KE (qO (.ref f) (.ref y)):=x;change h'.get? a=KE (qO (.ref f) (.ref y));show k a _ (.inl rfl) e
 |ext I=>obtain⟨p,⟨o,e⟩,st⟩:=x;show{st _ _ p λo q=>k _ _ (.inl rfl) q,{o,k _ _ (.inl rfl) e},st}
theorem HOk.lt (x:HOk P w H h)(e:H a=KE o):a < h.objs.size:=(x a o e).lt
def HOk.fresh (x:HOk P w H h)(e:h.objs.size<=a):H a=MN:=by
 cases q:H a with
 |none=>rfl
 |some u=>show MY (bU (x.lt q) e) (fU _)
def HOk.kept (x:HOk P w H h)(k:∀b u,h.get? b=KE u->h'.get? b=KE u):HOk P w H h':=λa o e=>
 (x a o e).stay (λb u _ q=>k b u q) (λ_ q=>q) λ_ _ q=>q
def HOk.laid (x:HOk P w H h)(k:∀b u,h.get? b=KE u->h'.get? b=KE u)(g:h.objs.size<=a)(new:ObjOk P w (upd H a o) h' a o):HOk P w (upd H a o) h':=λb u e=>by
 have d:=x.fresh g;by_cases f:b=a;{subst f;rw[bh]at e;cases e;show new};{rw[bc f]at e;show(x b u e).stay (λc v _ q=>k c v q) (λc q=>by rw[bc (b7 q d)];show q) λc xs q=>by rw[bc (b7 q d)];show q}
end
def Rd (H:Hp)(a:MQ)(u:HO):Prop:=H a=KE u\/∃o,H a=KE (.frz o u)
def Rd.ok {P:aQ}{w:bB}{H:Hp}{h:MR}{a:MQ}{u:HO}(r:Rd H a u)(x:HOk P w H h):ObjOk P w H h a u:=by
 rcases r with r | ⟨o,r⟩;{show x a u r};{obtain⟨_,q⟩:=x a _ r;show q}
def Mut:Option HO->Prop
 |some (.lst _)=>True
 |some (.dK _)=>True
 |some (.dT _)=>True
 |some (.set _ _)=>True
 |some (.ins _ _ _)=>True
 |some (.ext _)=>True
 |_=>False
section
variable {P:aQ}{w:bB}{H:Hp}{h h':MR}{x e:MQ}{o':HO}
def HOk.write (ok:HOk P w H h)(mu:Mut (H x))(g:e=x\/H e=KE (.own x))(k:∀b u,b≠e->h.get? b=KE u->h'.get? b=KE u)(l:∃u,h'.get? e=KE u)
  (new:ObjOk P w (upd H x o') h' x o'):HOk P w (upd H x o') h':=λb u q=>by
 have i:∀c y,H c=KE (.own y)->c≠x:=λc y r z=>(by subst z;rw[r]at mu;show mu);have a:∀c xs,H c=KE (.tup xs)->c≠x:=λc xs r z=>(by subst z;rw[r]at mu;show mu);by_cases d:b=x;{subst d;rw[bh]at q;cases q;show new}
 ·rw[bc d]at q;by_cases f:b=e
  ·have j:H b=KE (.own x):=by
    rcases g with z | z;{show MY (f.trans z) d};{rw[f];show z}
   rw[q]at j;cases j;obtain⟨v,m⟩:=l;show{v,by rw[f];show m}
  ·show(ok b u q).stay (λc v hc r=>k c v ?_ r) (λc r=>by rw[bc (i c b r)];show r) λc xs r=>(by rw[bc (a c xs r)];show r);rcases hc with rfl | hc;{show f};{intro n;subst n;rcases g with z | z;{show i c b hc z};{rw[hc]at z;cases z;show d rfl}}
end
structure Un (fs ex:CZ)(H H':Hp)(h h':MR):Prop where
 keep:∀b o,h.get? b=KE o->H b=MN->b ∉ fs->b ∉ ex->h'.get? b=KE o
 slot:∀b o,h.get? b=KE o->H b=MN->b∈fs->b ∉ ex->∃sl,h'.get? b=KE { o with slots:=sl }
 free:∀b o,h.get? b=KE o->H b=MN->b ∉ ex->H' b=MN
 there:∀b o,h.get? b=KE o->b ∉ ex->∃o',h'.get? b=KE o'
 tups:∀b xs,H b=KE (.tup xs)->H' b=KE (.tup xs)
 frzs:∀b o u,H b=KE (.frz o u)->H' b=KE (.frz o u)
 tbls:∀b ps,H b=KE (.tbl ps)->∃more,H' b=KE (.tbl (ps++more))
section
variable {fs fs' ex ex':CZ}{H H1 H2:Hp}{h h1 h2 h':MR}{a x e:MQ}{o:HO}
def Un.any (u:Un fs ex H H1 h h1)(q:h.get? b=KE c)(n:H b=MN)(d:b ∉ ex):∃g,h1.get? b=KE { c with slots:=g }:=by
 by_cases f:b∈fs;{show u.slot b c q n f d};{show{c.slots,u.keep b c q n f d}}
def Un.kept (k:∀b u,h.get? b=KE u->h'.get? b=KE u):Un fs ex H H h h':=
 {λb c q _ _ _=>k b c q,λb c q _ _ _=>{c.slots,k b c q},λ_ _ _ n _=>n,λb c q _=>{c,k b c q},λ_ _ q=>q,λ_ _ _ q=>q,λ_ ps q=>{#[],by rw[q];simp}}
def Un.refl:Un fs ex H H h h:=Un.kept λ_ _ q=>q
def Un.laid (k:∀b u,h.get? b=KE u->h'.get? b=KE u)(hp:h.objs.size<=a)(hn:H a=MN):Un fs ex H (upd H a o) h h' where
 keep:=λb u q _ _ _=>k b u q
 slot:=λb u q _ _ _=>{u.slots,k b u q}
 free:=λb u q n _=>by rw[bc (bH (bU (aS q) hp))];show n
 there:=λb u q _=>{u,k b u q}
 tups:=λb xs q=>by rw[bc (b7 q hn)];show q
 frzs:=λb u xs q=>by rw[bc (b7 q hn)];show q
 tbls:=λb ps q=>{#[],by rw[bc (b7 q hn),q];simp}
def Un.write (mu:Mut (H x))(i:e=x\/H e=KE (.own x))(k:∀b u,b≠e->h.get? b=KE u->h'.get? b=KE u)(j:∃u,h'.get? e=KE u):Un fs ex H (upd H x o) h h':=by
 have d:∀b,H b=MN->b≠x:=λb n z=>(by subst z;rw[n]at mu;show mu);have f:∀b,H b=MN->b≠e:=λb n z=>by
  subst z;rcases i with r | r;{show d b n r};{rw[n]at r;cases r}
 have c:∀b u,H b=KE u->¬Mut (KE u)->b≠x:=λb u q l z=>(by subst z;rw[q]at mu;show l mu);show{λb u q n _ _=>k b u (f b n) q,λb u q n _ _=>{u.slots,k b u (f b n) q},λb u q n _=>by rw[bc (d b n)];show n,λb u q _=>?_,λb xs q=>by rw[bc (c b _ q λz=>z)];show q,λb u xs q=>by rw[bc (c b _ q λz=>z)];show q,λb ps q=>{#[],by rw[bc (c b _ q λz=>z),q];simp}};by_cases g:b=e;{subst g;show j};{show{u,k b u g q}}
end
def trk (h:MR)(H:Hp):CZ:=(bA h.objs.size).filter λa=>(H a).isSome
def yq (h:MR)(H:Hp):MR:=PySem.W.hideAll h (trk h H)
def Vy (h:MR)(H:Hp):(yq h H).objs.size=h.objs.size:=PySem.W.hideAll_size _ _
def Zd (e:h.get? b=KE o)(n:H b=MN):(yq h H).get? b=KE o:=
 PySem.W.hideAll_get _ e λa=>by
  have q:(H b).isSome=MO:=(cO.mp a).2;rw[n]at q;simp at q
def ado (e:(yq h H).get? b=KE o):h.get? b=KE o/\H b=MN:=by
 have a:h.get? b=KE o:=PySem.W.of_hideAll (trk h H) e;show{a,?_};cases q:H b with
 |none=>rfl
 |some x=>
  have c:b∈trk h H:=cO.mpr {bW.mpr (aS a),by simp[q]};have z:(yq h H).get? b=MN:=PySem.W.hideAll_none (trk h H) c;rw[z]at e;cases e
def adp (g h:MR)(L:MQ):BK:=(bA h.objs.size).filterMap λa=>if a=L\/(g.get? a).isSome=MO then MN else (h.get? a).map λo=>(a,o)
def rest (g h:MR)(L d:MQ):BK:=(adp g h L).filter λp=>decide (p.1≠d)
structure Mod (K:aF)(mg:Str->AX)(base:MR):Prop where
 kin:K.In base
 glob:base.Ns bJ mg
 blt:∃mb,base.Ns uY mb/\∀x:Str,x≠"__name__"->mb x=dY x
 nolimit:base.NoLimit
structure Cx where
 p:aQ
 w:bB
 K:aF
 mg:Str->AX
 base:MR
 A:bX
 N:AQ
 s₀:aG
 H₀:Hp
 e:Env
 outer:List Env
 stack:List Env
 ex:CZ
 fn:Str->Bool
 calm:Bool
 pn:BK
 xe:aK->aG->Prop
def frs (l:List Env):CZ:=l.filterMap (·.frame)
abbrev Cx.fs (X:Cx):CZ:=frs X.outer
def Vis (a:mW)(x:Str):Prop:=a.names.lookup x=KE .local\/a.names.lookup x=KE .cell\/a.names.lookup x=KE .free
def Loc (a:mW)(x:Str):Prop:=a.names.lookup x=KE .local\/a.names.lookup x=KE .cell
def Look (env:Env)(h:MR)(m:Str->AX)(x:Str)(u:aK):Prop:=
 (env.kindOf x=KE .local/\m x=KE u)\/((env.kindOf x=KE .cell\/env.kindOf x=KE .free)/\∃c,env.cells.lookup x=KE c/\h.IsCell c (KE u))
structure Cx.Ok (X:Cx):Prop where
 mod:Mod X.K X.mg X.base
 kind:X.e.scope.kind=.function
 glob:X.e.globals=bJ
 blt:X.e.builtins=uY
 above:X.s₀.heap.objs.size<=X.e.locals
 inj:∀x y c,X.e.cells.lookup x=KE c->X.e.cells.lookup y=KE c->x=y
 has:∀x,(X.e.kindOf x=KE .cell\/X.e.kindOf x=KE .free)->∃c,X.e.cells.lookup x=KE c
 cab:∀x c,X.fn x=MO->X.e.cells.lookup x=KE c->X.s₀.heap.objs.size<=c
 hd:X.calm=MO->X.A.handled=MN
 frames:X.A.frames=KE X.stack
 stk:X.stack=X.outer\/(X.stack=X.e::X.outer/\X.e.frame=KE X.e.locals)
 exf:∀b∈X.ex,b≠X.e.locals/\∀x c,X.e.cells.lookup x=KE c->c≠b
 bs:∀b o,X.base.get? b=KE o->X.s₀.heap.get? b=KE o/\X.H₀ b=MN
 bsz:X.base.objs.size<=X.s₀.heap.objs.size
 noex:∀b o,X.base.get? b=KE o->b ∉ X.ex
 exfs:∀b∈X.ex,b ∉ X.fs
 funs:X.s₀.heap.FunFrames X.base X.outer
 frf:∀b∈X.fs,X.H₀ b=MN
structure Inv (X:Cx)(f':BK)(σ:List (Option V))(H:Hp)(s:aG):Prop where
 ok:X.Ok
 os:s.os=X.s₀.os
 bare:oH s.gens
 base:Un X.fs X.ex X.H₀ H X.s₀.heap s.heap
 loc:∃m,s.heap.Ns X.e.locals m/\∀(i:Nat)(x:Str) (v:V),X.N[i]?=KE x->σ[i]?=KE (KE v)->Vis X.e.scope x->∃u,RelV v u/\Look X.e s.heap m x u
 cell:∀x c,X.e.cells.lookup x=KE c->∃v,s.heap.IsCell c v
 free:H X.e.locals=MN
 freeC:∀x c,X.e.cells.lookup x=KE c->H c=MN
 pin:∀p∈X.pn++f',s.heap.get? p.1=KE p.2/\H p.1=MN/\p.1≠X.e.locals/\p.1 ∉ X.fs/\∀v,p.2.data≠.cell v
 hok:HOk X.p X.w H s.heap
 len:σ.length=X.N.length
section
variable {X:Cx}{f':BK}{σ:List (Option V)}{H H':Hp}{s:aG}{h':MR}
def Cx.Ok.nofr (ok:X.Ok){b:MQ}{o:Obj}(e:X.base.get? b=KE o):b ∉ X.fs:=λa=>by
 have:=(ok.funs.mem a).1;rw[e]at this;cases this
theorem Inv.bs (I:Inv X f' σ H s):∀b o,X.base.get? b=KE o->s.heap.get? b=KE o/\H b=MN:=λb o e=>
 {I.base.keep b o (I.ok.bs b o e).1 (I.ok.bs b o e).2 (I.ok.nofr e) (I.ok.noex b o e),I.base.free b o (I.ok.bs b o e).1 (I.ok.bs b o e).2 (I.ok.noex b o e)}
def Inv.bk (I:Inv X f' σ H s):∀b o,X.base.get? b=KE o->s.heap.get? b=KE o:=λb o e=>(I.bs b o e).1
theorem Inv.mod (I:Inv X f' σ H s):Mod X.K X.mg X.base:=I.ok.mod
def Inv.kIn (I:Inv X f' σ H s):X.K.In s.heap:=I.ok.mod.kin.keeps I.bk
theorem Inv.lt (I:Inv X f' σ H s):X.e.locals < ‹s›:=let ⟨_,a,_⟩:=I.loc;a.lt
def Inv.sz (I:Inv X f' σ H s):X.s₀.heap.objs.size<=‹s›:=aX I.ok.above (iK I.lt)
def Inv.nofs (I:Inv X f' σ H s){a:MQ}(h:‹s›<=a):a ∉ X.fs:=λb=>by
 obtain⟨_,o,c,_⟩:=I.ok.funs.mem b;show MY (bU (aS c) (aX I.sz h)) (fU _)
def Inv.cne (I:Inv X f' σ H s):∀x c,X.e.cells.lookup x=KE c->c≠X.e.locals:=λx c e z=>by
 obtain⟨v,o,a,hd⟩:=I.cell x c e;obtain⟨m,⟨f,g,i,b,d,_⟩,_⟩:=I.loc;rw[z,b]at a;cases a;rw[d]at hd;cases hd
theorem Inv.funs (I:Inv X f' σ H s):s.heap.FunFrames X.base X.outer:=by
 have all:∀(l:List Env),(∀b∈frs l,b∈X.fs)->X.s₀.heap.FunFrames X.base l->s.heap.FunFrames X.base l:=by
  intro l
  induction l with
  |nil=>intro _ _;trivial
  |cons env r f=>
   intro hs g;obtain⟨hk,⟨L,o,a,i,j,hd⟩,m⟩:=g;have c:L∈X.fs:=hs L (by unfold frs;rw[gB,a];show aP);obtain⟨n,e⟩:=I.base.slot L o j (I.ok.frf L c) c λz=>I.ok.exfs L z c;show{hk,{L,_,a,i,e,hd},f (λb d=>hs b (by unfold frs;rw[gB,a];show aT _ d)) m}
 show all X.outer (λ_ d=>d) I.ok.funs
theorem Inv.stack (I:Inv X f' σ H s):s.heap.FunFrames X.base X.stack:=by
 rcases I.ok.stk with e | ⟨e,a⟩;{rw[e];show I.funs};{rw[e];obtain⟨m,b,_⟩:=I.loc;show .cons (by rw[I.ok.kind];decide) a b ?_ I.funs;show Heap.get?_none_of_le (aX I.ok.bsz I.ok.above)}
def Inv.stkSub (I:Inv X f' σ H s):∀b∈frs X.stack,b∈X.e.locals::X.fs:=λb a=>by
 rcases I.ok.stk with e | ⟨e,c⟩;{rw[e]at a;show aT _ a};{rw[e]at a;unfold frs at a;rw[gB,c]at a;show a}
def Inv.stkFree (I:Inv X f' σ H s):∀b∈frs X.stack,H b=MN:=λb hb=>by
 rcases aY.mp (I.stkSub b hb)with e | hb;{rw[e];show I.free};{obtain⟨_,o,a,_⟩:=I.ok.funs.mem hb;show I.base.free b o a (I.ok.frf b hb) λz=>I.ok.exfs b z hb}
def Inv.step {g':Array pM}{t':Nat}{d':Drawn}{ch:CZ}(I:Inv X f' σ H s)
  (y:∀b∈ch,(b∈X.ex\/X.s₀.heap.objs.size<=b)/\b≠X.e.locals/\(∀x c,X.e.cells.lookup x=KE c->c≠b)/\∀p∈X.pn++f',p.1≠b)
  (keep:∀b o,b≠X.e.locals->b ∉ X.fs->b ∉ ch->s.heap.get? b=KE o->H b=MN->h'.get? b=KE o)
  (slot:∀b o,b≠X.e.locals->b∈X.fs->b ∉ ch->s.heap.get? b=KE o->H b=MN->∃G,h'.get? b=KE { o with slots:=G }) (free:∀b o,b ∉ ch->s.heap.get? b=KE o->H b=MN->H' b=MN)
  (there:∀b o,b ∉ ch->s.heap.get? b=KE o->∃A,h'.get? b=KE A)
  (tups:∀b xs,H b=KE (.tup xs)->H' b=KE (.tup xs)) (frzs:∀b o u,H b=KE (.frz o u)->H' b=KE (.frz o u)) (tbls:∀b ps,H b=KE (.tbl ps)->∃more,H' b=KE (.tbl (ps++more)))
  (ns:∀m,s.heap.Ns X.e.locals m->h'.Ns X.e.locals m) (hok:HOk X.p X.w H' h') (Y:oH g') :
  Inv X f' σ H' { s with heap:=h',gens:=g',drawn:=d',toks:=t' }:=by
 have L:∀b o,X.s₀.heap.get? b=KE o->b≠X.e.locals:=λb o e=>bH (bU (aS e) I.ok.above);have E:∀b o,X.s₀.heap.get? b=KE o->b ∉ X.ex->b ∉ ch:=λb o e a g=>by
  rcases(y b g).1 with z | z;{show a z};{show MY (bU (aS e) z) (fU _)}
 have N:∀x c,X.e.cells.lookup x=KE c->∀v,s.heap.IsCell c v->h'.IsCell c v:=λx c e v ⟨o,j,hd⟩=>by
  have C:c ∉ ch:=λz=>(y c z).2.2.1 x c e rfl;by_cases O:c∈X.fs;{obtain⟨G,q⟩:=slot c o (I.cne x c e) O C j (I.freeC x c e);show{_,q,hd}};{show{o,keep c o (I.cne x c e) O C j (I.freeC x c e),hd}}
 show{I.ok,I.os,Y,{λb o e n g a=>?_,λb o e n g a=>?_,λb o e n a=>?_,λb o e a=>?_,λb xs e=>tups b xs (I.base.tups b xs e),λb o xs e=>frzs b o xs (I.base.frzs b o xs e),λb ps e=>?_},?_,λx c e=>?_,?_,λx c e=>?_,λp T=>?_,hok,I.len};{show keep b o (L b o e) g (E b o e a) (I.base.keep b o e n g a) (I.base.free b o e n a)};{obtain⟨G,f⟩:=I.base.slot b o e n g a;obtain⟨J,D⟩:=slot b _ (L b o e) g (E b o e a) f (I.base.free b o e n a);show#v[J,D]};{obtain⟨A,f⟩:=I.base.there b o e a;show free b A (E b o e a) f (I.base.free b o e n a)};{obtain⟨A,f⟩:=I.base.there b o e a;show there b A (E b o e a) f};{obtain⟨m1,f⟩:=I.base.tbls b ps e;obtain⟨m2,D⟩:=tbls b _ f;show{m1++m2,by rw[D,Array.append_assoc]}};{obtain⟨m,hn,hl⟩:=I.loc;show{m,ns m hn,λi x v f D e3=>?_};obtain⟨u,r,l⟩:=hl i x v f D e3;show{u,r,?_};rcases l with l | ⟨k,c,e,z⟩;{show .inl l};{show .inr {k,c,e,N x c e _ z}}}
 {obtain⟨v,z⟩:=I.cell x c e;show{v,N x c e v z}};{obtain⟨m,⟨o,_,_,j,_⟩,_⟩:=I.loc;show free _ o (λz=>(y _ z).2.1 rfl) j I.free};{obtain⟨v,o,j,hd⟩:=I.cell x c e;show free c o (λz=>(y c z).2.2.1 x c e rfl) j (I.freeC x c e)};{obtain⟨e,n,ne,U,d⟩:=I.pin p T;have C:p.1 ∉ ch:=λz=>(y p.1 z).2.2.2 p T rfl;show{keep p.1 p.2 ne U C e n,free p.1 p.2 C e n,ne,U,d}}
def Inv.un {t':Nat}(I:Inv X f' σ H s)(u:Un X.fs [] H H' s.heap h')(hok:HOk X.p X.w H' h'):Inv X f' σ H' { s with heap:=h',toks:=t' }:=by
 obtain⟨m,⟨o,p,q,c,r⟩,_⟩:=id I.loc;obtain⟨x,f⟩:=u.any c I.free ∅;show I.step (g':=s.gens) (d':=s.drawn) (ch:=[]) (λ_ z=>nomatch z) (λb o _ a _ e n=>u.keep b o e n a ∅) (λb o _ a _ e n=>u.slot b o e n a ∅) (λb o _ e n=>u.free b o e n ∅) (λb o _ e=>u.there b o e ∅) u.tups u.frzs u.tbls (λy g=>by
   obtain⟨A,i,j,d,l⟩:=g;rw[c]at d;cases d;show{_,i,j,f,l}) hok I.bare
def Inv.call {t':Nat}{ch:CZ}(I:Inv X f' σ H s)(u:Un (frs X.stack) ch H H' s.heap h')(hok:HOk X.p X.w H' h')(j:oH g')
  (f:∀b∈ch,(b∈X.ex\/X.s₀.heap.objs.size<=b)/\b≠X.e.locals/\(∀x c,X.e.cells.lookup x=KE c->c≠b)/\∀p∈X.pn++f',p.1≠b) :
  Inv X f' σ H' { s with heap:=h',gens:=g',drawn:=d',toks:=t' }:=by
 obtain⟨m,⟨o,D,E,g,r⟩,_⟩:=id I.loc;obtain⟨G,d⟩:=u.any g I.free λz=>(f _ z).2.1 rfl;show I.step (ch:=ch) f (λb o d l a e n=>u.keep b o e n (λz=>(aY.mp (I.stkSub b z)).elim d l) a) (λb o _ _ a e n=>u.any e n a) (λb o a e n=>u.free b o e n a) (λb o a e=>u.there b o e a) u.tups u.frzs u.tbls (λJ q=>by
   obtain⟨L,y,A,i,C⟩:=q;rw[g]at i;cases i;show{_,y,A,d,C}) hok j
def Inv.turned {t':Nat}(I:Inv X f' σ H s)(k:∀b o,b≠it->s.heap.get? b=KE o->h'.get? b=KE o)(g:H it=MN)(d:it≠X.e.locals)
  (i:it∈X.ex\/X.s₀.heap.objs.size<=it) (j:∀x c,X.e.cells.lookup x=KE c->c≠it) (l:∀p∈X.pn++f',p.1≠it):Inv X f' σ H { s with heap:=h',toks:=t' }:=by
 have f:∀b u,H b=KE u->b≠it:=λb u e z=>(by rw[z,g]at e;cases e);show I.step (g':=s.gens) (d':=s.drawn) (ch:=[it]) (λb w=>?_) (λb o _ _ a e _=>k b o (λz=>a (by simp[z])) e) (λb o _ _ a e _=>{o.slots,k b o (λz=>a (by simp[z])) e}) (λ_ _ _ _ n=>n)
  (λb o a e=>{o,k b o (λz=>a (by simp[z])) e}) (λ_ _ e=>e) (λ_ _ _ e=>e) (λb ps e=>{#[],by rw[e];simp}) (λm y=>?_) (λb u e=>?_) I.bare
 {have e:b=it:=(⇑w);subst e;show#v[i,d,j,l]};{obtain⟨o,A,C,D,r⟩:=y;show{o,A,C,k _ o (Ne.symm d) D,r}};{show(I.hok b u e).stay (λc v a q=>k c v ?_ q) (λ_ q=>q) λ_ _ q=>q;rcases a with z | z;{rw[z];show f b u e};{show f c _ z}}
def Inv.tok (I:Inv X f' σ H s)(t:Nat):Inv X f' σ H { s with toks:=t }:=I.un (h':=s.heap) (t':=t) Un.refl I.hok
theorem Inv.kept {t':Nat}(I:Inv X f' σ H s)(k:∀b u,s.heap.get? b=KE u->h'.get? b=KE u):Inv X f' σ H { s with heap:=h',toks:=t' }:=I.un (Un.kept k) (I.hok.kept k)
theorem Inv.laid {t':Nat}(I:Inv X f' σ H s)(k:∀b u,s.heap.get? b=KE u->h'.get? b=KE u)(c:‹s›<=a)(new:ObjOk X.p X.w (upd H a o) h' a o) :
  Inv X f' σ (upd H a o) { s with heap:=h',toks:=t' }:=I.un (Un.laid k c (I.hok.fresh c)) (I.hok.laid k c new)
theorem Inv.write {t':Nat}(I:Inv X f' σ H s)(mu:Mut (H x))(a:e=x\/H e=KE (.own x))(k:∀b u,b≠e->s.heap.get? b=KE u->h'.get? b=KE u)(c:∃u,h'.get? e=KE u)
  (new:ObjOk X.p X.w (upd H x o) h' x o):Inv X f' σ (upd H x o) { s with heap:=h',toks:=t' }:=I.un (Un.write mu a k c) (I.hok.write mu a k c new)
def Inv.weak {a:List (Option V)}(I:Inv X f' σ H s)(b:a.length=σ.length)(w:∀(i:Nat) v,a[i]?=KE (KE v)->σ[i]?=KE (KE v)):Inv X f' a H s:=
 ⟨I.ok,I.os,I.bare,I.base,let ⟨m,c,d⟩:=I.loc;{m,c,λi x v e f g=>d i x v e (w i v f) g},I.cell,I.free,I.freeC,I.pin,I.hok,b.trans I.len⟩
def Inv.pins_of {a:BK}(I:Inv X f' σ H s)(h:∀p∈a,s.heap.get? p.1=KE p.2/\H p.1=MN/\p.1≠X.e.locals/\p.1 ∉ X.fs/\∀v,p.2.data≠.cell v):Inv X a σ H s:=
 {I.ok,I.os,I.bare,I.base,I.loc,I.cell,I.free,I.freeC,λp b=>(cT.mp b).elim (λz=>I.pin p (dR _ z)) (h p),I.hok,I.len}
def Lq {N:AQ}(c:N.Nodup){i j:Nat}(a:N[i]?=KE x)(b:N[j]?=KE x):i=j:=by
 obtain⟨f,d⟩:=bK.mp a;obtain⟨g,e⟩:=bK.mp b;show(List.getElem_inj c).mp (d.trans e.symm)
def Iz {E:aK->aG->Prop}{i:Nat}{Q:Unit->aG->Prop}(I:Inv X f' σ H s)(hN:X.N.Nodup)(hi:X.N[i]?=KE x)(g:Loc X.e.scope x)(r:RelV v u)
  (h:∀s',Inv X f' (σ.set i (KE v)) H s'->(∃a,eN a s.heap s'.heap/\(a=X.e.locals\/X.e.cells.lookup x=KE a))->Q Unit.unit s') (hf:autoParam (X.fn x=MO\/X.e.scope.names.lookup x=KE .local) XJ._auto_1):aJ M A (storeName X.e x u) Q E s:=by
 obtain⟨m,T,hl⟩:=id I.loc;have G:(X.e.scope.kind == .class || (X.e.scope.kind == .module && X.e.locals != X.e.globals))=MP:=(by rw[I.ok.kind];rfl);have GC:i < σ.length:=(by rw[I.len];show(bK.mp hi).1);have cne:=I.cne;have BD:∀{a:MQ}{h':MR},(∃o,s.heap.get? a=KE o/\H a=MN)->eN a s.heap h'->HOk X.p X.w H h':=λ{a h'} ha hs b ob e=>by
  obtain⟨_,_,DU⟩:=ha;show(I.hok b ob e).stay (λc L hc q=>(hs.2 c ?_).trans q) (λ_ q=>q) λ_ _ q=>q;intro U;subst U;rcases hc with rfl | hc;{rw[DU]at e;cases e};{rw[DU]at hc;cases hc}
 rcases g with hk | hk
 ·show wpAny_storeName_local hk T (λh' KM hs=>?_) G;obtain⟨oL,_,_,EL,_⟩:=id T;show h _ {I.ok,I.os,I.bare,{λb o e n C g=>?_,λb o e n C g=>?_,I.base.free,λb o e g=>?_,I.base.tups,I.base.frzs,I.base.tbls},{_,KM,λj y Y f l e3=>?_},λy c e=>?_,I.free,I.freeC,λp hp=>?_,BD #v[oL,EL,I.free] hs,by simpa using I.len} {_,hs,.inl rfl};{show(hs.2 b (bH (bU (aS e) I.ok.above))).trans (I.base.keep b o e n C g)};{obtain⟨sl,f⟩:=I.base.slot b o e n C g;show{sl,(hs.2 b (bH (bU (aS e) I.ok.above))).trans f}};{obtain⟨o',f⟩:=I.base.there b o e g;show{o',(hs.2 b (bH (bU (aS e) I.ok.above))).trans f}};{by_cases D:j=i;{subst D;rw[hi]at f;cases f;rw[cZ GC]at l;cases l;show{u,r,.inl {hk,by simp}}};{rw[cS (Ne.symm D)]at l;obtain⟨u',r',q⟩:=hl j y Y f l e3;show{u',r',?_};rcases q with⟨k,e⟩ | ⟨k,c,e,z⟩;{show .inl {k,?_};have:y≠x:=λe=>D (Lq hN f (e ▸ hi));simp[this,e]};{show .inr {k,c,e,z.sameBut hs (cne y c e)}}}}
  {obtain⟨L,z⟩:=I.cell y c e;show{L,z.sameBut hs (cne y c e)}};{obtain⟨e,n,ne,nf,d⟩:=I.pin p hp;show{(hs.2 p.1 ne).trans e,n,ne,nf,d}}
 ·have IM:X.fn x=MO:=by
   rcases hf with z | z;{show z};{rw[z]at hk;cases hk}
  obtain⟨c,hc⟩:=I.ok.has x (.inl hk);obtain⟨L,z⟩:=I.cell x c hc;show wpAny_storeName_cell I.ok.kind hk hc z (λh' EM hs=>?_);obtain⟨oc,KN,J⟩:=id z;show h { s with heap:=h' } {I.ok,I.os,I.bare,{λb o e n C g=>?_,λb o e n C g=>?_,I.base.free,λb o e g=>?_,I.base.tups,I.base.frzs,I.base.tbls},{m,T.sameBut hs (Ne.symm (cne x c hc)),λj y Y f l e3=>?_},λy O e=>?_,I.free,I.freeC,λp hp=>?_,BD {oc,KN,I.freeC x c hc} hs,by simpa using I.len} {c,hs,.inr hc};{show(hs.2 b (bH (bU (aS e) (I.ok.cab x c IM hc)))).trans (I.base.keep b o e n C g)};{obtain⟨sl,f⟩:=I.base.slot b o e n C g;show{sl,(hs.2 b (bH (bU (aS e) (I.ok.cab x c IM hc)))).trans f}};{obtain⟨o',f⟩:=I.base.there b o e g;show{o',(hs.2 b (bH (bU (aS e) (I.ok.cab x c IM hc)))).trans f}};{by_cases D:j=i;{subst D;rw[hi]at f;cases f;rw[cZ GC]at l;cases l;show{u,r,.inr {.inl hk,c,hc,EM}}};{rw[cS (Ne.symm D)]at l;obtain⟨u',r',q⟩:=hl j y Y f l e3;show{u',r',?_};rcases q with q | ⟨k,O,e,z'⟩;{show .inl q};{show .inr {k,O,e,z'.sameBut hs ?_};intro U;subst U;show D (Lq hN f (I.ok.inj _ _ _ e hc ▸ hi))}}}
  {by_cases KO:O=c;{subst KO;show{_,EM}};{obtain⟨w2,z2⟩:=I.cell y O e;show{w2,z2.sameBut hs KO}}};{obtain⟨e,n,ne,nf,d⟩:=I.pin p hp;show{(hs.2 p.1 ?_).trans e,n,ne,nf,d};intro q;rw[q,KN]at e;have q':oc=p.2:=cB e;show d L (by rw[<-q'];show J)}
def og {M:Model}{A:bX}{E:aK->aG->Prop}{i:Nat}{x:Str}{v:V}{u:aK}{Q:Unit->aG->Prop}(I:Inv X f' σ H s)(a:X.N.Nodup)(hi:X.N[i]?=KE x)(b:Loc X.e.scope x)(r:RelV v u)
  (h:∀s',Inv X f' (σ.set i (KE v)) H s'->Q Unit.unit s') (c:autoParam (X.fn x=MO\/X.e.scope.names.lookup x=KE .local) XJ._auto_1):aJ M A (storeName X.e x u) Q E s:=
 Iz I a hi b r (λs' d _=>h s' d) c
def Inv.call' {s':aG}(I:Inv X f' σ H s)(a:s'.os=s.os)(u:Un (frs X.stack) ch H H' s.heap s'.heap)(hok:HOk X.p X.w H' s'.heap)(d:oH s'.gens)
  (f:∀b∈ch,(b∈X.ex\/X.s₀.heap.objs.size<=b)/\b≠X.e.locals/\(∀x c,X.e.cells.lookup x=KE c->c≠b)/\∀p∈X.pn++f',p.1≠b):Inv X f' σ H' s':=by
 obtain⟨h',g',d',t',g⟩:=s';have e:g=s.os:=a;subst e;show I.call (g':=g') (t':=t') (d':=d') u hok d f
end
abbrev XK:=aK->Option MQ->Hp->Prop
abbrev St:=List (Option V)
abbrev VK:=V->Hp->Prop
abbrev TE:=St->Hp->VK->Prop
abbrev TT:=St->Hp->(Bool->Hp->Prop)->Prop
abbrev TA:=St->Hp->(DK->Hp->Prop)->Prop
structure Lr where
 nx:St->Hp->Prop
 rt:VK
 bk:St->Hp->Prop:=λ_ _=>False
 ct:St->Hp->Prop:=λ_ _=>False
abbrev TS:=Lr->St->Hp->Prop
def EP (X:Cx)(a:BK)(b:St)(Q:VK)(u:aK)(s':aG):Prop:=∃v H',Inv X a b H' s'/\RelV v u/\Q v H'
def TP (X:Cx)(a:BK)(c:St)(Q:Bool->Hp->Prop)(b:Bool)(s':aG):Prop:=∃H',Inv X a c H' s'/\Q b H'
def AP (X:Cx)(a:BK)(b:St)(Q:DK->Hp->Prop)(us:AJ)(s':aG):Prop:=∃vs H',Inv X a b H' s'/\Vals vs us/\Q vs H'
def SP (X:Cx)(b:BK)(D:Lr)(f:Flow)(s':aG):Prop:=
 match f with
 | .next=>∃a H',Inv X b a H' s'/\D.nx a H'
 | .brk=>∃a H',Inv X b a H' s'/\D.bk a H'
 | .cont=>∃a H',Inv X b a H' s'/\D.ct a H'
 | .ret u=>∃v a H',Inv X b a H' s'/\RelV v u/\D.rt v H'
def PE (X:Cx)(e:MS)(t:TE):Prop:=
 ∀(b:BK)(s:aG) (a:St) (H:Hp) (Q:VK),Inv X b a H s->t a H Q->aJ (aV X.p X.w) X.A (eval e X.e) (EP X b a Q) X.xe s
def PT (X:Cx)(e:MS)(t:TT):Prop:=
 ∀(b:BK)(s:aG) (a:St) (H:Hp) (Q:Bool->Hp->Prop),Inv X b a H s->t a H Q->aJ (aV X.p X.w) X.A (uA e X.e (eval e X.e)) (TP X b a Q) X.xe s
def PW (X:Cx)(e:MS)(t:TT):Prop:=
 ∀(c:Sem aK)(b:BK) (s:aG) (a:St) (H:Hp) (Q:Bool->Hp->Prop),Inv X b a H s->t a H Q->aJ (aV X.p X.w) X.A (uA e X.e c) (TP X b a Q) X.xe s
def PW.pt (h:PW X e t):PT X e t:=h _
def PA (X:Cx)(d:BW)(t:TA):Prop:=
 ∀(a:Pos)(c:BK) (s:aG) (b:St) (H:Hp) (Q:DK->Hp->Prop),Inv X c b H s->t b H Q->aJ (aV X.p X.w) X.A (uR (dS a (aM d X.e))) (AP X c b Q) X.xe s
def PS (X:Cx)(st:MT)(t:TS):Prop:=
 ∀(a:BK)(s:aG) (b:St) (H:Hp) (D:Lr),Inv X a b H s->t D b H->aJ (aV X.p X.w) X.A (exec st X.e) (SP X a D) X.xe s
def PSs (X:Cx)(st:List MT)(t:TS):Prop:=
 ∀a s b H D,Inv X a b H s->t D b H->aJ (aV X.p X.w) X.A (execs st X.e) (SP X a D) X.xe s
def thn {b:Type}{t:Sem b}{Q c:b->aG->Prop}{M:Model}{A:bX}{E:aK->aG->Prop}{s:aG}(h:aJ M A t Q E s)(d:∀a s,Q a s->c a s):aJ M A t c E s:=jF h d λ_ _ x=>x
section
variable {X:Cx}
def Ti (i:Nat):TE:=λa H Q=>∃v,a[i]?=KE (KE v)/\Q v H
def tC (v:V):TE:=λ_ H Q=>Q v H
def um (d:X.N[i]?=KE x)(f:Vis X.e.scope x)(hd:↑((x == ("__debug__":Str))=MP))(g:↑((x == ("__classdict__":Str))=MP)):PE X (.Name x j) (Ti i):=by
 intro n s o H Q I h;obtain⟨v,e,h⟩:=h;obtain⟨m,p,q⟩:=I.loc;obtain⟨u,r,l⟩:=q i x v d e f;have fin:EP X n o Q u s:=#v[v,H,I,r,h];rcases l with⟨hk,w⟩ | ⟨hk,c,a,b⟩;{show uZ (wpAny_loadName_local I.ok.kind hk p w fin) hd};{rcases hk with hk | hk;{show uZ (wpAny_loadName_cell I.ok.kind hk a b fin) hd};{show uZ (wpAny_loadName_free I.ok.kind hk a b fin g) hd}}
def Ls {i j a}:PE X (.Constant (.int i) j a) (tC (.int i)):=λ_ _ _ H _ I h=>wpAny_Constant_int {.int i,H,I.tok _,{_,rfl},h}
def pe_bl:PE X (.Constant (.bool b) j a) (tC (.bl b)):=λ_ _ _ H _ I h=>Constant_bool {.bl b,H,I,rfl,h}
def ahj:PE X (.Constant (.str x) j a) (tC (.str x)):=λ_ _ _ H _ I h=>Calls.Constant_str {.str x,H,I.tok _,{_,rfl},h}
def Gl (X:Cx)(x:Str):Prop:=X.e.kindOf x=KE .globalImplicit
def Br (I:Inv X d e H s)(a:Gl X x)(b:X.mg x=KE u)(h:Q u s)
  (hd:↑((x == ("__debug__":Str))=MP)):aJ (aV X.p X.w) X.A (eval (.Name x c) X.e) Q E s:=
 Calls.Name_function_global I.ok.kind a (Calls.loadGlobal_global (by rw[I.ok.glob];show I.mod.glob.keeps I.bk) b h) hd
def j7 (I:Inv X i j H s)(a:Gl X x)(b:X.mg x=MN)(c:dY x=KE u)(h:Q u s)
  (d:↑(x≠"__name__")) (hd:↑((x == ("__debug__":Str))=MP)):aJ (aV X.p X.w) X.A (eval (.Name x e) X.e) Q E s:=by
 obtain⟨l,f,g⟩:=I.mod.blt;show Calls.Name_function_global I.ok.kind a (Calls.loadGlobal_builtin (by rw[I.ok.glob];show I.mod.glob.keeps I.bk) b (by rw[I.ok.blt];show f.keeps I.bk) ((g x d).trans c) h) hd
def adq (a:Gl X x)(b:X.mg x=KE u)(r:RelV v u)(hd:↑((x == ("__debug__":Str))=MP)):PE X (.Name x c) (tC v):=
 λ_ _ _ H _ I h=>Br I a b #v[v,H,I,r,h] hd
def ads (a:Gl X x)(b:X.mg x=MN)(c:dY x=KE u)(r:RelV v u)(d:↑(x≠"__name__"))(hd:↑((x == ("__debug__":Str))=MP)):PE X (.Name x e) (tC v):=
 λ_ _ _ H _ I h=>j7 I a b c #v[v,H,I,r,h] d hd
variable {a b:MS}{ta tb:TE}{pos:Pos}
def tB (t:TE):TT:=λd H Q=>t d H λx e=>∃c,x=.bl c/\Q c e
variable {tA HS:TT}{rest:BW}
def tAnd (t u:TT):TT:=λd H Q=>t d H λc e=>if c=MO then u d e Q else Q MP e
def tOr (t u:TT):TT:=λd H Q=>t d H λc e=>if c=MO then Q MO e else u d e Q
def tNot (t:TT):TT:=λd H Q=>t d H λc e=>Q (!c) e
def adt (d:PT X a tA):PW X (.BoolOp .And [a] pos) tA:=by
 intro i f s g H Q I h;show isTrue_and (thn (d f s g H Q I h) λc j e=>?_);cases c with
 |true=>show isTrue_and_nil e
 |false=>show e
def ahk (d:PT X a tA):PW X (.BoolOp .Or [a] pos) tA:=by
 intro i f s g H Q I h;show isTrue_or (thn (d f s g H Q I h) λc j e=>?_);cases c with
 |false=>show isTrue_or_nil e
 |true=>show e
def ahl (j:PT X a tA)(l:PW X (.BoolOp .And (b::rest) pos) HS):PW X (.BoolOp .And (a::b::rest) pos) (tAnd tA HS):=by
 intro m d s e H Q I h;show isTrue_and (thn (j d s e H _ I h) λc n o=>?_);obtain⟨f,g,i⟩:=o;cases c with
 |true=>show l m d n e f Q g i
 |false=>show#v[f,g,i]
def pw_or (j:PT X a tA)(l:PW X (.BoolOp .Or (b::rest) pos) HS):PW X (.BoolOp .Or (a::b::rest) pos) (tOr tA HS):=by
 intro m d s e H Q I h;show isTrue_or (thn (j d s e H _ I h) λc n o=>?_);obtain⟨f,g,i⟩:=o;cases c with
 |true=>show#v[f,g,i]
 |false=>show l m d n e f Q g i
def ahm (d:PT X a tA):PT X (.UnaryOp .Not a pos) (tNot tA):=by
 intro e s f H Q I h;show isTrue_not (d e s f H (λc g=>Q (!c) g) I h)
def tAndV (ta tb:TE):TE:=λd H Q=>ta d H λx e=>∃c,x=.bl c/\if c=MO then tb d e Q else Q (.bl MP) e
def ahn (h:PE X a t):PE X (.BoolOp op [a] pos) t:=λc s d H Q I hw=>BoolOp_one (h c s d H Q I hw)
def aho (j:PE X a ta)(l:PE X (.BoolOp .And (b::rest) pos) tb):PE X (.BoolOp .And (a::b::rest) pos) (tAndV ta tb):=by
 intro e s f H Q I h;show BoolOp_and (thn (j e s f H _ I h) λv m n=>?_);obtain⟨x,g,i,o,d⟩:=n;obtain⟨c,rfl,d⟩:=d;cases o;show jU ?_;cases c with
 |true=>show l e m f g Q i d
 |false=>show{.bl MP,g,i,rfl,d}
def tIf (t:TT)(ta tb:TE):TE:=λd H Q=>t d H λc e=>if c=MO then ta d e Q else tb d e Q
def Ze {c:MS}(m:PT X c tA)(n:PE X a ta)(o:PE X b tb):PE X (.IfExp c a b pos) (tIf tA ta tb):=by
 intro e s f H Q I h;show wpAny_IfExp (thn (m e s f H _ I h) λd g p=>?_);obtain⟨i,j,l⟩:=p;cases d with
 |true=>show n e g f i Q j l
 |false=>show o e g f i Q j l
end
def SqL (K:aF)(H:Hp)(a:MQ)(xs:DK):Prop:=
 Rd H a (.lst xs)\/
  ∃o its n,K.lookup a=KE o/\o.cls=.type "list"/\o.dict=MN/\o.data=.seq its n/\its.size<=sizeLine/\Vals xs its.toList
def SqT (K:aF)(H:Hp)(a:MQ)(xs:DK):Prop:=
 Rd H a (.tup xs)\/
  ∃o its n,K.lookup a=KE o/\o.cls=.type "tuple"/\o.data=.seq its n/\its.size<=sizeLine/\Vals xs its.toList
def absV:aK->Option V
 | .none=>KE .non
 | .bool b=>KE (.bl b)
 | .int i _=>KE (.int i)
 | .str x _=>KE (.str x)
 | .bytes b _=>KE (.byt b)
 | .float b _=>KE (.flt b)
 | .ref a=>KE (.ref a)
 | .type n=>KE (.ty n)
 |_=>MN
def RelV.abs (r:RelV x u):absV u=KE x:=by
 cases x with
 |non=>cases r;rfl
 |bl _=>cases r;rfl
 |int _=>obtain⟨t,rfl⟩:=r;rfl
 |str _=>obtain⟨t,rfl⟩:=r;rfl
 |byt _=>obtain⟨t,rfl⟩:=r;rfl
 |flt _=>obtain⟨t,rfl⟩:=r;rfl
 |ref _=>cases r;rfl
 |ty _=>cases r;rfl
def RelV.inj {x y:V}{u:aK}(r:RelV x u)(q:RelV y u):x=y:=cB (r.abs.symm.trans q.abs)
theorem Vals.inj:∀{xs ys:DK}{us:AJ},Vals xs us->Vals ys us->xs=ys
 |_,_,_,.nil,.nil=>rfl
 |_,_,_,.cons r t,.cons a t'=>by rw[r.inj a,Vals.inj t t']
section
variable {X:Cx}{f':BK}{σ:St}{H:Hp}{s:aG}{a:MQ}{xs ys:DK}
def SqL.of {K:aF}(h:H a=KE (.lst xs)):SqL K H a xs:=.inl (.inl h)
def SqT.of {K:aF}(h:H a=KE (.tup xs)):SqT K H a xs:=.inl (.inl h)
def Inv.list (I:Inv X f' σ H s)(h:SqL X.K H a xs):∃its:AJ,Vals xs its/\PlainL s.heap a its.toArray/\xs.length<=sizeLine:=by
 rcases h with h | ⟨o,its,n,hk,b,hd,hs,hz,r⟩;{obtain⟨z,its,n,r,e⟩:=h.ok I.hok;show{its,r,{_,n,e,rfl,rfl,rfl},z}};{show{its.toList,r,{o,n,I.kIn a o hk,b,hd,by simpa using hs},?_};have e:=r.length;simp only[cM]at e;lia}
def Inv.tuple (I:Inv X f' σ H s)(h:SqT X.K H a xs):∃its:AJ,Vals xs its/\rR s.heap a its.toArray/\xs.length<=sizeLine:=by
 rcases h with h | ⟨o,its,n,hk,b,hs,hz,r⟩;{obtain⟨z,its,r,p⟩:=h.ok I.hok;show#v[its,r,p,z]};{show{its.toList,r,{o,I.kIn a o hk,b,n,by simpa using hs},?_};have e:=r.length;simp only[cM]at e;lia}
def Inv.list_inj (I:Inv X f' σ H s)(h:SqL X.K H a xs)(h':SqL X.K H a ys):xs=ys:=by
 obtain⟨its,r,⟨o,n,e,_,_,d⟩,_⟩:=I.list h;obtain⟨its',c,⟨g,i,b,_,_,d'⟩,_⟩:=I.list h';rw[e]at b;cases b;rw[d]at d';injection d' with f _;have:its=its':=(⇑(NA Array.toList f));subst this;show r.inj c
def Inv.tuple_inj (I:Inv X f' σ H s)(h:SqT X.K H a xs)(h':SqT X.K H a ys):xs=ys:=by
 obtain⟨its,r,⟨o,e,_,n,d⟩,_⟩:=I.tuple h;obtain⟨its',c,⟨g,b,_,i,d'⟩,_⟩:=I.tuple h';rw[e]at b;cases b;rw[d]at d';injection d' with f _;have:its=its':=(⇑(NA Array.toList f));subst this;show r.inj c
end
abbrev Cx.wish (X:Cx)(E:aK->aG->Prop):Cx:={ X with xe:=E }
abbrev Cx.nox (X:Cx):Cx:=X.wish λ_ _=>False
theorem Cx.Ok.wish {X:Cx}(ok:X.Ok)(E:aK->aG->Prop):(X.wish E).Ok:=
 #v[ok.mod,ok.kind,ok.glob,ok.blt,ok.above,ok.inj,ok.has,ok.cab,ok.hd,ok.frames,ok.stk,ok.exf,ok.bs,ok.bsz,ok.noex,ok.exfs,ok.funs,ok.frf]
def Cx.Ok.unwish {X:Cx}{E:aK->aG->Prop}(ok:(X.wish E).Ok):X.Ok:=
 #v[ok.mod,ok.kind,ok.glob,ok.blt,ok.above,ok.inj,ok.has,ok.cab,ok.hd,ok.frames,ok.stk,ok.exf,ok.bs,ok.bsz,ok.noex,ok.exfs,ok.funs,ok.frf]
section
variable {X:Cx}{f':BK}{σ:St}{H:Hp}{s:aG}{E:aK->aG->Prop}
theorem Inv.wish (I:Inv X f' σ H s)(E:aK->aG->Prop):Inv (X.wish E) f' σ H s:={I.ok.wish E,I.os,I.bare,I.base,I.loc,I.cell,I.free,I.freeC,I.pin,I.hok,I.len}
theorem Inv.unwish (I:Inv (X.wish E) f' σ H s):Inv X f' σ H s:=#v[I.ok.unwish,I.os,I.bare,I.base,I.loc,I.cell,I.free,I.freeC,I.pin,I.hok,I.len]
theorem SP.unwish (h:SP (X.wish E) f' D f s'):SP X f' D f s':=by
 cases f with
 |next=>obtain⟨a,H',I,q⟩:=h;show#v[a,H',I.unwish,q]
 |brk=>obtain⟨a,H',I,q⟩:=h;show#v[a,H',I.unwish,q]
 |cont=>obtain⟨a,H',I,q⟩:=h;show#v[a,H',I.unwish,q]
 |ret u=>obtain⟨v,a,H',I,r,q⟩:=h;show#v[v,a,H',I.unwish,r,q]
theorem PSs.nox {st:List MT}(h:PSs X.nox st t):PSs X st t:=λf' s σ H D I hw=>
 jF (h f' s σ H D (I.wish _) hw) (λ_ _ q=>q.unwish) λ_ _ z=>hV z
end
section
variable {X:Cx}{st:MT}{rest:List MT}{t u:TS}{e:MS}{te:TE}{pos:Pos}
def tNext:TS:=λD a H=>D.nx a H
def tSeq (t u:TS):TS:=λD a H=>t { D with nx:=u D } a H
def adu:PSs X [] tNext:=λ_ _ a H _ I h=>oS #v[a,H,I,h]
def C7 (c:PS X st t)(d:PSs X rest u):PSs X (st::rest) (tSeq t u):=by
 intro b s g H D I h;show wpAny_execs_cons (thn (c b s g H { D with nx:=u D } I h) λf i q=>?_);cases f with
 |next=>
  obtain⟨a,H',j,q⟩:=q;show d b i a H' D j q
 |ret v=>show q
 |brk=>show q
 |cont=>show q
def adw (a:PS X st t):PSs X [st] t:=by
 intro b s c H D I h;show wpAny_execs_cons (thn (a b s c H D I h) λf d q=>?_);cases f with
 |next=>show oS q
 |ret v=>show q
 |brk=>show q
 |cont=>show q
def Inv.quiet {a:BK}{b:St}{H:Hp}{s:aG}(I:Inv X a b H s):interactive X.e=MP:=by simp[interactive,I.ok.kind]
def tDrop (te:TE):TS:=λD a H=>te a H λ_ b=>D.nx a b
def adx (b:PE X e te)(hs:↥(kS e MN pos.line X.e=pure MP)):PS X (.Expr e pos) (tDrop te):=by
 intro c s a H D I h;show wpAny_Expr_any (thn (b c s a H _ I h) λv j d=>by obtain⟨x,f,g,l,i⟩:=d;show#v[a,f,g,i]) I.quiet hs
def tRet (te:TE):TS:=λD a H=>te a H D.rt
def ahp (b:PE X e te):PS X (.Return (KE e) pos) (tRet te):=by
 intro c s a H D I h;show wpAny_Return_some (thn (b c s a H _ I h) λv l d=>by obtain⟨x,f,g,i,j⟩:=d;show#v[x,a,f,g,i,j])
def tIfS (c:TT)(t u:TS):TS:=λD a H=>c a H λb d=>if b=MO then t D a d else u D a d
def ps_if {a b:List MT}(n:PT X c o)(p:PSs X a t)(q:PSs X b u):PS X (.If c a b pos) (tIfS o t u):=by
 intro f s g H D I h;show wpAny_If (thn (n f s g H _ I h) λd i r=>?_);obtain⟨j,l,m⟩:=r;cases d with
 |true=>show p f i g j D l m
 |false=>show q f i g j D l m
end
abbrev TG:=V->St->Hp->(St->Hp->Prop)->Prop
abbrev TGs:=DK->St->Hp->(St->Hp->Prop)->Prop
def PG (X:Cx)(a:MS)(t:TG):Prop:=
 ∀c s d H v u Q,Inv X c d H s->RelV v u->t v d H Q->
  aJ (aV X.p X.w) X.A (mH a X.e u) (λ_ s'=>∃b H',Inv X c b H' s'/\Q b H') X.xe s
def PGs (X:Cx)(d:BW)(t:TGs):Prop:=
 ∀b s c H vs us Q,Inv X b c H s->Vals vs us->t vs c H Q->
  aJ (aV X.p X.w) X.A (assignInOrder ((jW d X.e).map (·.2)) us) (λ_ s'=>∃a H',Inv X b a H' s'/\Q a H') X.xe s
abbrev Lu:=V->V->V->Hp->(Hp->Prop)->Prop
def Tj (X:Cx)(t:Lu):Prop:=
 ∀a s b H o i v c iv u Q,Inv X a b H s->RelV o c->RelV i iv->RelV v u->t o i v H Q->
  aJ (aV X.p X.w) X.A (vM c iv u) (λ_ s'=>∃H',Inv X a b H' s'/\Q H') X.xe s
abbrev TIp:=V->V->Hp->VK->Prop
def PIp (X:Cx)(op:Operator)(t:TIp):Prop:=
 ∀a s b H x y v u Q,Inv X a b H s->RelV x v->RelV y u->t x y H Q->
  aJ (aV X.p X.w) X.A (inplaceOp op v u) (EP X a b Q) X.xe s
section
variable {X:Cx}{pos:Pos}
def Bs (i:Nat):TG:=λv a H Q=>Q (a.set i (KE v)) H
def ox (a:X.N.Nodup)(hi:X.N[i]?=KE x)(b:Loc X.e.scope x)(c:autoParam (X.fn x=MO\/X.e.scope.names.lookup x=KE .local) XJ._auto_1):PG X (.Name x pos) (Bs i):=by
 intro e s f H v u Q I r h;show wpAny_assign_Name (og I a hi b r (λs' d=>{_,H,d,h}) c)
def Zf:TGs:=λvs a H Q=>vs=[]/\Q a H
def Lf (t:TG)(u:TGs):TGs:=λvs b H Q=>∃v r,vs=v::r/\t v b H λa H'=>u r a H' Q
def Gx:PGs X [] Zf:=by
 intro b s a H vs us Q I r h;obtain⟨e,h⟩:=h;subst e;cases r;show assignInOrder_nil #v[a,H,I,h]
def qo {a:BW}(d:PG X e t)(f:PGs X a u)
  (hs:↥((jW (e::a) X.e).map (·.2)=mH e X.e::(jW a X.e).map (·.2))):PGs X (e::a) (Lf t u):=by
 intro c s g H vs us Q I r h;obtain⟨v,q,i,h⟩:=h;subst i;cases r with
 |cons r j=>
  rw[hs];show assignInOrder_cons (thn (d c s g H _ _ _ I r h) λ_ l m=>?_);obtain⟨b,n,o,p⟩:=m;show f c l b n _ _ Q o j p
def gTup (K:aF)(n:Nat)(t:TGs):TG:=λv b H Q=>∃a xs,v=.ref a/\SqT K H a xs/\xs.length=n/\t xs b H Q
def Vz (i:X.calm=MO)(h:PGs X c t)
  (j:↥((jW c X.e).length=n)) (l:↥((jW c X.e).findIdx? (·.1)=MN)):PG X (.Tuple c k pos) (gTup X.K n t):=by
 intro d s f H v u Q I r hw;obtain⟨a,xs,m,p,q,hw⟩:=hw;subst m;cases r;obtain⟨its,g,w,hz⟩:=I.tuple p;show assign_Tuple_tuple (I.ok.hd i) w (by simp[j,<-q,g.length]) l λh' x=>?_;have y:Inv X d f H { s with heap:=h' }:=I.kept (t':=s.toks) λb o e=>x b o (bH (aS e)) e;show h d _ f H xs _ Q y (⇑g) hw
def gSub (to b:TE)(t:Lu):TG:=λv a H Q=>to a H λo c=>b a c λi d=>t o i v d λe=>Q a e
def V0 {o i:MS}{to e:TE}{t:Lu}(f:PE X o to)(hi:PE X i e)(hs:Tj X t)
  (g:∀v,mH (.Subscript o i pos) X.e v=(do
    let a <-iV [v] (eval o X.e)
    let iv <-iV [v,a] (eval i X.e)
    mX pos
    iV [v,a,iv] (vM a iv v)
    release [v,a,iv] []):=by intro _;rfl):PG X (.Subscript o i pos) (gSub to e t):=by
 intro d s c H v u Q I r h;rw[g];show aA (dA (thn (f d s c H _ I h) λa j b=>?_));obtain⟨x,l,m,n,p⟩:=b;show aA (dA (thn (hi d j c l _ m p) λiv q b=>?_));obtain⟨y,w,I2,z,A⟩:=b;show aA (qG (aA (dA (thn (hs d q c w x y v a iv u _ I2 n z r A) λ_ G b=>?_))));obtain⟨C,D,E⟩:=b;show wpAny_release #v[c,C,D,E]
def Zg (te:TE)(g:TG):TS:=λD a H=>te a H λx b=>g x a b D.nx
def Lv {a e:MS}{te:TE}{g:TG}(d:PE X e te)(f:PG X a g)(hs:↥(tK [a] e pos.line X.e=pure MP))(hw:↥(tM [a] e X.e=pure MN))
  (i:↥((jW [a] X.e).map (·.2)=[mH a X.e])):PS X (.Assign [a] e pos) (Zg te g):=by
 intro b s c H D I h;show wpAny_Assign_stores (thn (d b s c H _ I h) λv j l=>?_) hs hw;obtain⟨x,m,n,o,p⟩:=l;rw[i];show thn (f b j c m x v _ n o p) λ_ r q=>q
def V1 {i:Nat}{x:Str}{e:MS}{te:TE}{a:Pos}(b:X.N.Nodup)(hi:X.N[i]?=KE x)(c:Loc X.e.scope x)(d:PE X e te)(hs:↥(kS e (KE (.Name x a)) pos.line X.e=pure MP))(f:autoParam (X.fn x=MO\/X.e.scope.names.lookup x=KE .local) XJ._auto_1) :
  PS X (.Assign [.Name x a] e pos) (Zg te (Bs i)):=by
 intro g s j H D I h;show wpAny_Assign_Name (thn (d g s j H _ I h) λv q l=>?_) hs;obtain⟨y,m,n,o,p⟩:=l;show og n b hi c o (λr I2=>{_,m,I2,p}) f
def tAug (i:Nat)(te:TE)(b:TIp):TS:=λD a H=>∃x,a[i]?=KE (KE x)/\te a H λy c=>b x y c λz d=>D.nx (a.set i (KE z)) d
def V2 {i:Nat}(o:X.N.Nodup)(hi:X.N[i]?=KE x)(d:Loc X.e.scope x)(p:PE X e te)(q:PIp X op C)(E:autoParam (X.fn x=MO\/X.e.scope.names.lookup x=KE .local) XJ._auto_1) :
  PS X (.AugAssign (.Name x xJ) op e pos) (tAug i te C):=by
 intro f s n H D I h;obtain⟨v,G,h⟩:=h;obtain⟨m,J,L⟩:=I.loc;have g:Vis X.e.scope x:=(by rcases d with k | k;show .inl k;show .inr (.inl k));obtain⟨u,r,l⟩:=L i x v hi G g;show wpAny_AugAssign_Name ?_;have go:aJ (aV X.p X.w) X.A (eval e X.e) (λw a=>aJ (aV X.p X.w) X.A (inplaceOp op u w) (λr b=>aJ (aV X.p X.w) X.A (storeName X.e x r) (λ_=>SP X f D .next) X.xe b) X.xe a) X.xe s:=by
  show thn (p f s n H _ I h) λw O j=>?_;obtain⟨y,T,U,Y,q1⟩:=j;show thn (q f O n T v y u w _ U r Y q1) λz s2 j=>?_;obtain⟨zv,H2,I2,r2,q2⟩:=j;show og I2 o hi d r2 (λs3 I3=>{_,H2,I3,q2}) E
 rcases l with⟨hk,hm⟩ | ⟨hk,c,hc,BE⟩;{show wpAny_loadName_local I.ok.kind hk J hm go};{rcases hk with hk | hk;{show wpAny_loadName_cell I.ok.kind hk hc BE go};{rcases d with k | k;{have:X.e.scope.names.lookup x=KE .free:=hk;rw[k]at this;cases this};{have:X.e.scope.names.lookup x=KE .free:=hk;rw[k]at this;cases this}}}
def ipI (f:Int->Int->Int):TIp:=λx y H Q=>∃i j,x=.int i/\y=.int j/\Q (.int (f i j)) H
def ahs (c:TT)(tb:TS):TS:=λD a H=>∃W:Nat->St->Hp->Prop,(∃m,W m a H)/\∀m a H,W m a H->
 c a H λb e=>if b=MO then ∃N:St->Hp->Prop,(∀d H',N d H'->∃f,f < m/\W f d H')/\tb { D with nx:=N,ct:=N,bk:=D.nx } a e else D.nx a e
def Zh {body:List MT}(r:uB (aV X.p X.w) X.A X.e X.xe)(z:PT X c C)(E:PSs X body tb):PS X (.While c body [] pos) (ahs C tb):=by
 intro l s G H D I h;obtain⟨W,⟨J,L⟩,turn⟩:=h;show wpAny_While (codeAny_whileLoop (λn s'=>∃e H',Inv X l e H' s'/\W n e H') ?_ J #v[G,H,I,L]);intro n O T;obtain⟨d,u,U,Y⟩:=T;show jL r (thn (z l O d u _ U (turn n d u Y)) λb s2 vR=>?_);obtain⟨x,I2,i⟩:=vR;cases b with
 |true=>
  obtain⟨N,y,i⟩:=i;rw[MU rfl];show jL r (thn (E l s2 d x _ I2 i) λf s3 j=>?_);cases f with
  |next=>
   obtain⟨a,g,m,n3⟩:=j;obtain⟨o,p,q⟩:=y a g n3;show#v[o,p,a,g,m,q]
  |cont=>
   obtain⟨a,g,m,n3⟩:=j;obtain⟨o,p,q⟩:=y a g n3;show#v[o,p,a,g,m,q]
  |brk=>show j
  |ret v=>show j
 |false=>
  rw[MV aO];show oS #v[d,x,I2,i]
end
structure It where
 go:Nat->Hp->Prop
 yld:Nat->Hp->V->Hp->Prop
 stop:Nat->Hp->Prop
def kq (X:Cx)(a:BK)(H:Hp)(b:MQ):Prop:=
 H b=MN/\b≠X.e.locals/\b ∉ X.fs/\(b∈X.ex\/X.s₀.heap.objs.size<=b)/\(∀x c,X.e.cells.lookup x=KE c->c≠b)/\∀p∈X.pn++a,p.1≠b
def Inv.fpOk (I:Inv X d i H s)(a:‹s›<=b)(f:H' b=MN):kq X d H' b:=by
 show{f,eX (bU I.lt a),I.nofs a,.inr (aX I.sz a),λx c e z=>?_,λp g z=>?_};{obtain⟨v,q⟩:=I.cell x c e;show MY (bU q.lt (by rw[z];show a)) (fU _)};{show MY (bU (aS (I.pin p g).1) (by rw[z];show a)) (fU _)}
structure Aj (P:aQ)(w:bB)(K:aF)(tg:MS)(J:It)(fp:CZ)(it:MQ)(tn:Nat->MR->Prop):Prop where
 mem:it∈fp
 obj:∀i h,tn i h->∀b∈fp,∃o,h.get? b=KE o/\∀v,o.data≠.cell v
 keep:∀i h h',tn i h->(∀b∈fp,∀o,h.get? b=KE o->h'.get? b=KE o)->tn i h'
 item:∀X,X.p=P->X.w=w->X.K=K->X.calm=MO->∀i f' s σ H E,Inv X f' σ H s->(∀b∈fp,kq X f' H b)->tn i s.heap->J.go i H->
  aJ (aV P w) X.A (iM (.ref it)) (λr s1=>∃u,r=KE u/\aJ (aV P w) X.A (oT tg (.ref it) u) (λ_ s2=>∃x H',Inv X f' σ H' s2/\RelV x u/\J.yld i H x H'/\tn (i+1) s2.heap/\∀b∈fp,H' b=MN) E s1) E s
 done:∀X,X.p=P->X.w=w->X.K=K->X.calm=MO->∀i f' s σ H E,Inv X f' σ H s->(∀b∈fp,kq X f' H b)->tn i s.heap->J.stop i H->
  aJ (aV P w) X.A (iM (.ref it)) (λr s1=>r=MN/\Inv X f' σ H s1) E s
 self:∀A i s Q E,tn i s.heap->Q (.ref it) s->aJ (aV P w) A (vA (.ref it)) Q E s
abbrev TI:=St->Hp->(It->Hp->Prop)->Prop
def PIE (X:Cx)(a:BK)(f:St)(g:MS)(R:It->Hp->Prop)(i:aK)(c:aG):Prop:=
 ∃it d e J H',i=.ref it/\Inv X a f H' c/\Aj X.p X.w X.K g J d it e/\e 0 c.heap/\(∀b∈d,kq X a H' b)/\R J H'
def PI (X:Cx)(c iter:MS)(d:TI):Prop:=
 ∀b s a H R,Inv X b a H s->d a H R->
  aJ (aV X.p X.w) X.A (eval iter X.e) (λv e=>aJ (aV X.p X.w) X.A (vA v) (PIE X b a c R) X.xe e) X.xe s
def El (b:s.heap.get? it=KE o)(c:o.cls=.type n)(hd:o.data=.fields vs)
  (d:["enumerate","zip","dict_itemiterator","dict_reverseitemiterator","odict_iterator","itertools.zip_longest","itertools.pairwise"].contains n=MP) (a:Q Unit.unit s):aJ M A (oT e (.ref it) u) Q E s:=by
 unfold oT;cases e<;>first
  |show wpAny_pure a
  | (cases u<;>first
      |show wpAny_pure a
      | (show aA (wpAny_load b ?_)
         rw[c,hd];change aJ M A (if (["enumerate","zip","dict_itemiterator","dict_reverseitemiterator","odict_iterator","itertools.zip_longest","itertools.pairwise"].contains n && vs[0]? == KE (kU _))=MO then _ else _) Q E s
         rw[MV (by intro h;rw[d,Bool.false_and]at h;cases h)];show wpAny_pure a))
def Itl (K:aF)(a:MQ):It:=
 {λi H=>∃xs x,SqL K H a xs/\xs[i]?=KE x,λi H x H'=>H'=H/\∀xs,SqL K H a xs->xs[i]?=KE x,λi H=>∃xs,SqL K H a xs/\xs.length<=i}
def Itt (K:aF)(a:MQ):It:=
 {λi H=>∃xs x,SqT K H a xs/\xs[i]?=KE x,λi H x H'=>H'=H/\∀xs,SqT K H a xs->xs[i]?=KE x,λi H=>∃xs,SqT K H a xs/\xs.length<=i}
def Itr (lo:Int)(n:Nat):It:={λi _=>i < n,λi H x H'=>H'=H/\x=.int (lo+i),λi _=>n<=i}
def V3 {P:aQ}{w:bB}{K:aF}{tg:MS}(a it:MQ):Aj P w K tg (Itl K a) [it] it (λi h=>h.IsListIter it a i) where
 mem:=by simp
 obj:=λi h st b hb=>by
  have e:b=it:=(⇑hb);subst e;obtain⟨o,e,c,d⟩:=st;show{o,e,λv z=>by rw[d]at z;cases z}
 keep:=λi h h' st k=>st.at λo e=>k it ∅ o e
 item:=by
  intro X hP hw hK hc i f' s σ H E I hf st hg;subst hP hw hK;obtain⟨xs,x,hq,hx⟩:=hg;obtain⟨its,rv,p,hz⟩:=I.list hq;obtain⟨u,hu,ru⟩:=rv.get hx;obtain⟨f0,f1,f2,f3,f4,f5⟩:=hf it ∅;show nS st p.isList (x:=u) (⇑hu) λh' zZ sb=>?_;have I1:Inv X f' σ H { s with heap:=h' }:=I.turned (t':=s.toks) (λb o hb e=>(sb.2 b hb).trans e) f0 f1 f3 f4 f5;obtain⟨o,e,c,d⟩:=id zZ;show⟨u,rfl,El (s:={ s with heap:=h' }) e c d #v[] {x,H,I1,ru,{rfl,λys hy=>by rw[I.list_inj hy hq];show hx},zZ,λb hb=>(hf b hb).1}⟩
 done:=by
  intro X hP hw hK hc i f' s σ H E I hf st hg;subst hP hw hK;obtain⟨xs,hq,hx⟩:=hg;obtain⟨its,rv,p,hz⟩:=I.list hq;obtain⟨f0,f1,f2,f3,f4,f5⟩:=hf it ∅;have hl:=rv.length;show oI (I.ok.hd hc) st p.isList (by simp;lia) λh' eb=>{rfl,I.turned (t':=s.toks) (λb o hb e=>eb b o hb e) f0 f1 f3 f4 f5}
 self:=λ_ _ _ _ _ st h=>wpAny_pyIter_listiter st h
def Tn {P:aQ}{w:bB}{K:aF}{tg:MS}(a it:MQ):Aj P w K tg (Itt K a) [it] it (λi h=>h.IsTupleIter it a i) where
 mem:=by simp
 obj:=λi h st b hb=>by
  have e:b=it:=(⇑hb);subst e;obtain⟨o,e,c,d⟩:=st;show{o,e,λv z=>by rw[d]at z;cases z}
 keep:=λi h h' st k=>st.at λo e=>k it ∅ o e
 item:=by
  intro X hP hw hK hc i f' s σ H E I hf st hg;subst hP hw hK;obtain⟨xs,x,hq,hx⟩:=hg;obtain⟨its,rv,p,hz⟩:=I.tuple hq;obtain⟨u,hu,ru⟩:=rv.get hx;obtain⟨f0,f1,f2,f3,f4,f5⟩:=hf it ∅;show wpAny_pyNext_tuple_item st (show s.heap.IsTuple a its.toArray from p) (x:=u) (⇑hu) λh' zZ sb=>?_;have I1:Inv X f' σ H { s with heap:=h' }:=I.turned (t':=s.toks) (λb o hb e=>(sb.2 b hb).trans e) f0 f1 f3 f4 f5;obtain⟨o,e,c,d⟩:=id zZ;show⟨u,rfl,El (s:={ s with heap:=h' }) e c d #v[] {x,H,I1,ru,{rfl,λys hy=>by rw[I.tuple_inj hy hq];show hx},zZ,λb hb=>(hf b hb).1}⟩
 done:=by
  intro X hP hw hK hc i f' s σ H E I hf st hg;subst hP hw hK;obtain⟨xs,hq,hx⟩:=hg;obtain⟨its,rv,p,hz⟩:=I.tuple hq;obtain⟨f0,f1,f2,f3,f4,f5⟩:=hf it ∅;have hl:=rv.length;show wpAny_pyNext_tuple_end (I.ok.hd hc) st (show s.heap.IsTuple a its.toArray from p) (by simp;lia) λh' eb=>{rfl,I.turned (t':=s.toks) (λb o hb e=>eb b o hb e) f0 f1 f3 f4 f5}
 self:=λ_ _ _ _ _ st h=>wpAny_pyIter_tupleiter st h
def To {P:aQ}{w:bB}{K:aF}{tg:MS}(it:MQ)(lo:Int)(n:Nat):Aj P w K tg (Itr lo n) [it] it (λi h=>sG h it (lo+(i:Nat) * 1) ((n:Int) - (i:Nat)) 1) where
 mem:=by simp
 obj:=λi h st b hb=>by
  have e:b=it:=(⇑hb);subst e;show⟨_,st,λv z=>by
    have z':sH _=qA v:=z;cases z'⟩
 keep:=λi h h' st k=>k it ∅ _ st
 item:=by
  intro X hP hw hK hc i f' s σ H E I hf st hg;subst hP hw hK;obtain⟨f0,f1,f2,f3,f4,f5⟩:=hf it ∅;have W:=Walks.range (prog:=X.p) (w:=X.w) (I.ok.hd hc) it lo 1 n;show W.item i s _ _ hg st λv h' tk hv zZ kk=>?_;obtain⟨t,rfl⟩:=hv;have I1:Inv X f' σ H { s with heap:=h',toks:=tk }:=I.turned (λb o hb e=>kk b o (⇑hb) e) f0 f1 f3 f4 f5;show⟨_,rfl,El (s:={ s with heap:=h',toks:=tk }) (n:="range_iterator") zZ rfl rfl #v[] {.int (lo+i),H,I1,{t,?_},#v[rfl,rfl],zZ,λb hb=>(hf b hb).1}⟩;rw[Int.mul_one]
 done:=by
  intro X hP hw hK hc i f' s σ H E I hf st hg;subst hP hw hK;obtain⟨f0,f1,f2,f3,f4,f5⟩:=hf it ∅;show wpAny_pyNext_range_end (I.ok.hd hc) st (by have:n<=i:=hg;lia) λh' eb=>{rfl,I.turned (t':=s.toks) (λb o hb e=>eb b o hb e) f0 f1 f3 f4 f5}
 self:=λ_ _ _ _ _ st h=>wpAny_pyIter_rangeiter st h
section
variable {X:Cx}{tg:MS}
def iList (K:aF)(tl:TE):TI:=λc H R=>tl c H λx b=>∃a,x=.ref a/\(∃xs,SqL K b a xs)/\R (Itl K a) b
def iTup (K:aF)(tl:TE):TI:=λc H R=>tl c H λx b=>∃a,x=.ref a/\(∃xs,SqT K b a xs)/\R (Itt K a) b
def ady {l:MS}{tl:TE}(f:PE X l tl):PI X tg l (iList X.K tl):=by
 intro g s i H R I h;show thn (f g s i H _ I h) λv c j=>?_;obtain⟨x,m,d,n,r⟩:=j;obtain⟨a,e,⟨xs,u⟩,q⟩:=r;subst e;cases n;obtain⟨its,y,p,hz⟩:=d.list u;show dJ p.isList ?_;show{‹c›,[‹c›],_,_,m,rfl,d.kept (t':=c.toks) λb o e=>aE _ e,V3 a _,{_,aZ _ rfl,rfl,rfl},λb w=>?_,q};have e:b=‹c›:=(⇑w);subst e;show d.fpOk (aI _) (d.hok.fresh (aI _))
def aht {l:MS}{tl:TE}(f:PE X l tl):PI X tg l (iTup X.K tl):=by
 intro g s i H R I h;show thn (f g s i H _ I h) λv c j=>?_;obtain⟨x,m,d,n,r⟩:=j;obtain⟨a,e,⟨xs,u⟩,q⟩:=r;subst e;cases n;obtain⟨its,y,p,hz⟩:=d.tuple u;show fP (show c.heap.IsTuple a its.toArray from p) ?_;show{‹c›,[‹c›],_,_,m,rfl,d.kept (t':=c.toks) λb o e=>aE _ e,Tn a _,{_,aZ _ rfl,rfl,rfl},λb w=>?_,q};have e:b=‹c›:=(⇑w);subst e;show d.fpOk (aI _) (d.hok.fresh (aI _))
def Lw {a:BK}{s:aG}{R:It->Hp->Prop}{E:aK->aG->Prop}{lo hi:Int}{c:Nat}(I:Inv X a f H s)(g:-(2 ^ 62)<=lo)(i:lo < 2 ^ 62)(j:-(2 ^ 62)<=hi)(l:hi < 2 ^ 62)
  (q:R (Itr lo (hi - lo).toNat) H):aJ (aV X.p X.w) X.A (vA (.ref ‹s›)) (PIE X a f tg R) E { s with heap:=s.heap.push { cls:=.type "range",data:=.fields #[.int lo t,.int hi u,.int 1 v] },toks:=c }:=by
 show wpAny_pyIter_range (IsRange.new ..) (small_one g i j l) ?_;have d:Inv X a f H { s with heap:=s.heap.push { cls:=.type "range",data:=.fields #[.int lo t,.int hi u,.int 1 v] },toks:=c }:=I.kept λb o e=>aE _ e;show{(s.heap.push { cls:=.type "range",data:=.fields #[.int lo t,.int hi u,.int 1 v] }).objs.size,[(s.heap.push { cls:=.type "range",data:=.fields #[.int lo t,.int hi u,.int 1 v] }).objs.size],_,_,H,rfl,d.kept (t':=c) λb o e=>aE _ e,To _ lo (hi - lo).toNat,?_,λb m=>?_,q};{have n:lo+((0:Nat):Int) * 1=lo:=∅;have p:(((hi - lo).toNat:Nat):Int) - ((0:Nat):Int)=kM lo hi 1:=(by rw[rangeSize_one];split<;>lia);change sG _ _ (lo+((0:Nat):Int) * 1) ((((hi - lo).toNat:Nat):Int) - ((0:Nat):Int)) 1;rw[n,p];show aZ _ rfl};{have e:b=(s.heap.push { cls:=.type "range",data:=.fields #[.int lo t,.int hi u,.int 1 v] }).objs.size:=(⇑m);subst e;show d.fpOk (aI _) (d.hok.fresh (aI _))}
def iRng1 (a:TA):TI:=λb H R=>a b H λvs c=>∃j:Int,vs=[.int j]/\-(2 ^ 62)<=j/\j < 2 ^ 62/\R (Itr 0 j.toNat) c
def iRng2 (a:TA):TI:=λb H R=>a b H λvs c=>∃i j:Int,vs=[.int i,.int j]/\(-(2 ^ 62)<=i/\i < 2 ^ 62/\-(2 ^ 62)<=j/\j < 2 ^ 62)/\R (Itr i (j - i).toNat) c
def V4 {a:MS}{d:TA}{p b:Pos}(f:Gl X "range")(g:X.mg "range"=MN)(i:PA X [a] d)(hs:↥(aM [a] X.e=[(MP,eval a X.e)])):PI X tg (.Call (.Name "range" p) [a] [] b) (iRng1 d):=by
 intro l s m H R I h;show Call_ (j7 I f g vB (eB (thn (i b l s m H _ I h) λus y n=>?_) hs rfl));obtain⟨vs,z,o,u,c⟩:=n;obtain⟨j,e,c,w,q⟩:=c;subst e;cases u with
 |cons r x=>
  cases x;obtain⟨t,rfl⟩:=r;show call_range_1 (Lw o () () c w (⇑q))
def V5 (l:Gl X "range")(m:X.mg "range"=MN)(n:PA X [a,b] o)(hs:↥(aM [a,b] X.e=[(MP,eval a X.e),(MP,eval b X.e)]))(g:↥(aM [b] X.e=[(MP,eval b X.e)])) :
  PI X tg (.Call (.Name "range" p) [a,b] [] c) (iRng2 o):=by
 intro u s w H R I h;show Call_ (j7 I l m vB (eB (thn (n c u s w H _ I h) λus E ⟨vs,G,x,y,d⟩=>?_) (by rw[hs,g]) (by rw[g];rfl)));obtain⟨i,j,e,⟨d,z,A,C⟩,q⟩:=d;subst e;cases y with
 |cons r f=>
  cases f with
  |cons D f=>
   cases f;obtain⟨t,rfl⟩:=r;obtain⟨t',rfl⟩:=D;show call_range_2 (Lw x d z A C q)
def tFor (e:TI)(g:TG)(tb:TS):TS:=λD a H=>e a H λJ f=>∃W:Nat->Nat->St->Hp->Prop,(∃m,W 0 m a f)/\∀i m a H,W i m a H->
 (J.stop i H/\D.nx a H)\/(J.go i H/\∃N:St->Hp->Prop,(∀b H',N b H'->∃d,d < m/\W (i+1) d b H')/\∀x H',J.yld i H x H'->g x a H' λc j=>tb { D with nx:=N,ct:=N,bk:=D.nx } c j)
def xx (a:CZ)(h:MR):BK:=a.filterMap λb=>(h.get? b).map λo=>(b,o)
def ma (a:b∈c)(e:h.get? b=KE o):(b,o)∈xx c h:=List.mem_filterMap.mpr {b,a,by rw[e];rfl}
def V6 (a:p∈xx c h):p.1∈c/\h.get? p.1=KE p.2:=by
 obtain⟨b,d,e⟩:=mI.mp a;cases q:h.get? b with
 |none=>rw[q]at e;cases e
 |some o=>
  rw[q]at e;have f:(b,o)=p:=cB e;subst f;show#v[d,q]
def Inv.pinned (I:Inv X a i H s)(j:∀b∈c,kq X a H b)(l:∀b∈c,∃o,s.heap.get? b=KE o/\∀v,o.data≠.cell v):Inv X (a++xx c s.heap) i H s:=
 I.pins_of λp m=>(cT.mp m).elim (λz=>I.pin p (bY _ z)) λz=>by
  obtain⟨f,e⟩:=V6 z;obtain⟨n,q,r,_⟩:=j p.1 f;obtain⟨o,g,d⟩:=l p.1 f;rw[e]at g;cases g;show#v[e,n,q,r,d]
def Inv.unpinned (I:Inv X (a++pl) b H s):Inv X a b H s:=I.pins_of λp c=>I.pin p (bY _ (dR _ c))
def ahu (E:uB (aV X.p X.w) X.A X.e X.xe)(hc:X.calm=MO)(hi:PI X tg iter wi)(hg:PG X tg g)(c:PSs X body tb)
  (hs:autoParam (∀x,iW iter X.e x=pure x) XW._auto_1):PS X (.For tg iter body [] pos) (tFor wi g tb):=by
 intro z s σ H D I h;show wpAny_For (thn (hi z s σ H _ I h) λv s1 h1=>thn h1 λHU s2 h2=>?_) hs;obtain⟨it,G,tn,J,H2,e,I2,T,AR,f2,W,⟨m0,w0⟩,turn⟩:=h2;subst e;have U:∀{H'},(∀b∈G,H' b=MN)->∀b∈G,kq X z H' b:=λhn b c=>{hn b c,(f2 b c).2};show codeAny_forLoop_any (λn s'=>∃i j H',Inv X z j H' s'/\tn i s'.heap/\(∀b∈G,H' b=MN)/\W i n j H') ?_ m0 {0,σ,H2,I2,AR,λb c=>(f2 b c).1,w0};intro n s3 vP;obtain⟨i,l,O,I3,DV,FN,w3⟩:=vP;rcases turn i n l O w3 with⟨stop,qn⟩ | ⟨go,N,hN,step⟩;{show jL E (thn (T.done X rfl rfl rfl hc i z s3 l O X.xe I3 (U FN) DV stop) λr s4 C=>?_);obtain⟨Y,I4⟩:=C;subst Y;show oS #v[l,O,I4,qn]}
 ·show jL E (thn (T.item X rfl rfl rfl hc i z s3 l O X.xe I3 (U FN) DV go) λr s4 C=>?_);obtain⟨u,Y,h4⟩:=C;subst Y;show jL E (thn h4 λ_ s5 C=>?_);obtain⟨x,H5,I5,r5,y5,DB,EN⟩:=C;have I5':=I5.pinned (U EN) (T.obj _ _ DB);show jL E (thn (hg _ s5 l H5 x u _ I5' r5 (step x H5 y5)) λ_ s6 C=>?_);obtain⟨σ6,H6,I6,q6⟩:=C;show jL E (thn (c _ s6 σ6 H6 _ I6 q6) λf s7 y=>?_);have again:∀{a p},Inv X (z++xx G s5.heap) a p s7->N a p->∃m,m < n/\∃i j H',Inv X z j H' s7/\tn i s7.heap/\(∀b∈G,H' b=MN)/\W i m j H':=λ{a p} q L=>by
   obtain⟨m',hm,w7⟩:=hN a p L;show{m',hm,i+1,a,p,q.unpinned,T.keep _ _ _ DB λb c o e=>(q.pin (b,o) (bY _ (bY _ (ma c e)))).1,λb c=>?_,w7};obtain⟨o,e,d⟩:=T.obj _ _ DB b c;show(q.pin (b,o) (bY _ (bY _ (ma c e)))).2.1
  cases f with
  |next=>obtain⟨a,p,q,L⟩:=y;show again q L
  |cont=>obtain⟨a,p,q,L⟩:=y;show again q L
  |brk=>obtain⟨a,p,q,y⟩:=y;show#v[a,p,q.unpinned,y]
  |ret v=>obtain⟨x7,a,p,q,r7,y⟩:=y;show#v[x7,a,p,q.unpinned,r7,y]
end
abbrev R2:=V->V->Hp->VK->Prop
def OpR (X:Cx)(f:aK->aK->Sem aK)(r:R2):Prop:=
 ∀a s b H x y v u Q,Inv X a b H s->RelV x v->RelV y u->r x y H Q->
  aJ (aV X.p X.w) X.A (f v u) (EP X a b Q) X.xe s
def UnR (X:Cx)(f:aK->Sem aK)(r:V->Hp->VK->Prop):Prop:=
 ∀a s b H x v Q,Inv X a b H s->RelV x v->r x H Q->
  aJ (aV X.p X.w) X.A (f v) (EP X a b Q) X.xe s
def i9 (X:Cx)(f:aK)(r:DK->Hp->VK->Prop):Prop:=
 ∀a s b H xs us Q,Inv X a b H s->Vals xs us->r xs H Q->
  aJ (aV X.p X.w) X.A (call f us) (EP X a b Q) X.xe s
def TruR (X:Cx)(r:V->Hp->(Bool->Hp->Prop)->Prop):Prop:=
 ∀a s b H x v Q,Inv X a b H s->RelV x v->r x H Q->
  aJ (aV X.p X.w) X.A (truthy v) (TP X a b Q) X.xe s
def tOp (r:R2)(b tb:TE):TE:=λa H Q=>b a H λx c=>tb a c λy d=>r x y d Q
def tUn (r:V->Hp->VK->Prop)(a:TE):TE:=λb H Q=>a b H λx c=>r x c Q
def rI (C:Int->Int->Prop)(g:Int->Int->V):R2:=λx y H Q=>∃i j,x=.int i/\y=.int j/\C i j/\Q (g i j) H
def rI0 (g:Int->Int->V):R2:=λx y H Q=>∃i j,x=.int i/\y=.int j/\Q (g i j) H
def rU (g:Int->V):V->Hp->VK->Prop:=λx H Q=>∃i,x=.int i/\Q (g i) H
section
variable {X:Cx}{a b c:MS}{ta tb tc:TE}{pos:Pos}
def Zi (o:PE X a ta)(p:PE X b tb){j:BK}{s:aG}{d:St}{H:Hp}{R:V->V->Hp->Prop}(I:Inv X j d H s)
  (h:ta d H λx m=>tb d m λy e=>R x y e) {Q:aK->aG->Prop}{f:aK->aK->Sem aK}
  (q:∀v u l x y e,Inv X j d e l->RelV x v->RelV y u->R x y e->aJ (aV X.p X.w) X.A (f v u) Q X.xe l) :
  aJ (aV X.p X.w) X.A (eval a X.e) (λv g=>aJ (aV X.p X.w) X.A (eval b X.e) (λu i=>aJ (aV X.p X.w) X.A (f v u) Q X.xe i) X.xe g) X.xe s:=by
 show thn (o j s d H _ I h) λv r n=>?_;obtain⟨x,m,z,C,D⟩:=n;show thn (p j r d m _ z D) λu l n=>?_;obtain⟨y,e,I2,E,G⟩:=n;show q v u l x y e I2 C E G
def pe_op {op:Operator}{r:R2}(d:OpR X (eC op) r)(e:PE X a ta)(f:PE X b tb):PE X (.BinOp a op b pos) (tOp r ta tb):=by
 intro g s i H Q I h;show wpAny_BinOp (Zi e f I h λv u j x y l I2 m n q=>d g j i l x y v u Q I2 m n q)
def pe_un (f:UnR X (unaryOp op) r)(g:PE X a ta):PE X (.UnaryOp op a pos) (tUn r ta):=by
 intro d s e H Q I h;show UnaryOp_ (thn (g d s e H _ I h) λv i j=>by obtain⟨x,l,m,n,o⟩:=j;show f d i e l x v Q m n o)
def opI {f:aK->aK->Sem aK}{C:Int->Int->Prop}{g:Int->Int->Int}
  (rule:∀(i j:Int)(t u:Tok) (s:aG) (Q:aK->aG->Prop) (E:aK->aG->Prop),C i j->Q (.int (g i j) s.toks) { s with toks:=s.toks+1 }->aJ (aV X.p X.w) X.A (f (.int i t) (.int j u)) Q E s) :
  OpR X f (rI C λi j=>.int (g i j)):=by
 intro m s n H x y v u Q I d e h;obtain⟨i,j,rfl,rfl,l,q⟩:=h;obtain⟨t,rfl⟩:=d;obtain⟨t',rfl⟩:=e;show rule i j t t' s _ _ l {.int (g i j),H,I.tok _,{_,rfl},q}
def Tp {f:aK->aK->Sem aK}{g:Int->Int->Int}
  (rule:∀(i j:Int)(t u:Tok) (s:aG) (Q:aK->aG->Prop) (E:aK->aG->Prop),Q (.int (g i j) s.toks) { s with toks:=s.toks+1 }->aJ (aV X.p X.w) X.A (f (.int i t) (.int j u)) Q E s) :
  OpR X f (rI0 λi j=>.int (g i j)):=by
 intro l s m H x y v u Q I d e h;obtain⟨i,j,rfl,rfl,q⟩:=h;obtain⟨t,rfl⟩:=d;obtain⟨t',rfl⟩:=e;show rule i j t t' s _ _ {.int (g i j),H,I.tok _,{_,rfl},q}
def Zj {f:aK->aK->Sem aK}{g:Int->Int->Bool}
  (rule:∀(i j:Int)(t u:Tok) (s:aG) (Q:aK->aG->Prop) (E:aK->aG->Prop),Q (.bool (g i j)) s->aJ (aV X.p X.w) X.A (f (.int i t) (.int j u)) Q E s) :
  OpR X f (rI0 λi j=>.bl (g i j)):=by
 intro l s m H x y v u Q I d e h;obtain⟨i,j,rfl,rfl,q⟩:=h;obtain⟨t,rfl⟩:=d;obtain⟨t',rfl⟩:=e;show rule i j t t' s _ _ {.bl (g i j),H,I,rfl,q}
def Gy (i j:Int):Prop:=0 < j/\j < 1073741824
def C8 (i j:Int):Prop:=0<=j/\j<=1000000/\i.natAbs < 2 ^ 64
def CMul (i j:Int):Prop:=(-(2 ^ 64) < i/\i < 2 ^ 64)\/(-(2 ^ 64) < j/\j < 2 ^ 64)
def CMul.ok {i j:Int}(h:CMul i j):IntMulOk i j:=by
 rcases h with⟨d,e⟩ | ⟨d,e⟩;{show .of_left (intBits_le_64 d e)};{show .of_right (intBits_le_64 d e)}
def Tq (k:Nat):(0:Int)<=2 ^ k:=by
 rw[two_pow_cast];show Int.natCast_nonneg _
def ahv:OpR X (eC .Add) (rI0 λi j=>.int (i+j)):=Tp λ_ _ _ _ _ _ _ q=>add_int q
def ahw:OpR X (eC .Sub) (rI0 λi j=>.int (i - j)):=Tp λ_ _ _ _ _ _ _ q=>sub_int q
def ahx:OpR X (eC .Mult) (rI CMul λi j=>.int (i * j)):=opI λ_ _ _ _ _ _ _ d q=>mul_int q d.ok
def adz:OpR X (eC .FloorDiv) (rI Gy λi j=>.int (i / j)):=opI λi j _ _ _ _ _ d q=>by
 have e:(0:Int) < j:=d.1;have f:j < 1073741824:=d.2;show floordiv_int () (by rw[Int.fdiv_eq_ediv_of_nonneg i ()];show q) (.inl (PyProof.noPylong_small ()))
def ahy:OpR X (eC .Mod) (rI (λ_ j=>0 < j) λi j=>.int (i % j)):=opI λi j _ _ _ _ _ d q=>by
 have e:(0:Int) < j:=d;show mod_int' () (by rw[Int.fmod_eq_emod_of_nonneg i ()];show q)
def ahz:OpR X (eC .LShift) (rI C8 λi j=>.int (i * 2 ^ j.toNat)):=opI λ_ _ _ _ _ _ _ d q=>lshift_int_small d.1 d.2.1 d.2.2 q
def aia:OpR X (eC .RShift) (rI (λ_ j=>0<=j) λi j=>.int (i / 2 ^ j.toNat)):=opI λi j _ _ _ _ _ d q=>
 rshift_int d (by rw[Int.fdiv_eq_ediv_of_nonneg i (Tq _)];show q)
def aib:OpR X (eC .BitAnd) (rI0 λi j=>.int (dP i j)):=Tp λ_ _ _ _ _ _ _ q=>and_int q
def op_or:OpR X (eC .BitOr) (rI0 λi j=>.int (dX i j)):=Tp λ_ _ _ _ _ _ _ q=>or_int q
def unI {f:aK->Sem aK}{g:Int->Int}
  (rule:∀(i:Int)(t:Tok) (s:aG) (Q:aK->aG->Prop) (E:aK->aG->Prop),Q (.int (g i) s.toks) { s with toks:=s.toks+1 }->aJ (aV X.p X.w) X.A (f (.int i t)) Q E s) :
  UnR X f (rU λi=>.int (g i)):=by
 intro e s j H x v Q I d h;obtain⟨i,rfl,q⟩:=h;obtain⟨t,rfl⟩:=d;show rule i t s _ _ {.int (g i),H,I.tok _,{_,rfl},q}
def aic:UnR X (unaryOp .USub) (rU λi=>.int (-i)):=unI λ_ _ _ _ _ q=>neg_int q
end
def Zk:V->V->Bool
 | .non,.non=>MO | .non,.int _=>MO | .int _,.non=>MO | .non,.bl _=>MO | .bl _,.non=>MO | .non,.str _=>MO | .str _,.non=>MO
 | .int _,.int _=>MO | .bl _,.bl _=>MO | .str _,.str _=>MO | .byt _,.byt _=>MO
 | .int _,.str _=>MO | .str _,.int _=>MO | .bl _,.str _=>MO | .str _,.bl _=>MO
 |_,_=>MP
def rEq:R2:=λx y H Q=>Zk x y=MO/\Q (.bl (decide (x=y))) H
def rNe:R2:=λx y H Q=>Zk x y=MO/\Q (.bl (!decide (x=y))) H
def R3:decide (V.int i=V.int j)=(i == j):=by
 rw[fO];simp
def V7:decide (V.bl i=V.bl j)=(i == j):=by
 rw[fO];simp
def R4:decide (V.str i=V.str j)=(i == j):=by
 rw[fO];simp
def R5:decide (V.byt i=V.byt j)=(i.toList == j.toList):=by
 rw[fO];cases i;cases j;simp
section
variable {X:Cx}{a b c:MS}{ta tb tc:TE}{pos:Pos}
def c7 (I:Inv X d f H s)(q:Q (.bl k) H)(e:k=k'):EP X d f Q (.bool k') s:=by
 subst e;show{.bl k,H,I,rfl,q}
def op_eq:OpR X (eE .Eq) rEq:=by
 intro f s g H x y v u Q I e d h;obtain⟨hs,q⟩:=h;cases x with
 |non=>
  cases e;cases y with
  |non=>cases d;show PySem.EqNone.eq_none_none (c7 I q ∅)
  |bl j=>cases d;show PySem.EqNone.eq_none_bool (c7 I q ∅)
  |int j=>obtain⟨t',rfl⟩:=d;show PySem.EqNone.eq_none_int (c7 I q ∅)
  |str j=>obtain⟨t',rfl⟩:=d;show PySem.EqNone.eq_none_str (c7 I q ∅)
  |_=>show MY (show MP=MO from hs) aO
 |bl i=>
  cases e;cases y with
  |non=>cases d;show PySem.EqNone.eq_bool_none (c7 I q ∅)
  |bl j=>cases d;show eq_bool (c7 I q V7)
  |str j=>obtain⟨t',rfl⟩:=d;show PySem.EqMixed.eq_bool_str (c7 I q ∅)
  |_=>show MY (show MP=MO from hs) aO
 |int i=>
  obtain⟨t,rfl⟩:=e;cases y with
  |non=>cases d;show PySem.EqNone.eq_int_none (c7 I q ∅)
  |int j=>obtain⟨t',rfl⟩:=d;show eq_int (c7 I q R3)
  |str j=>obtain⟨t',rfl⟩:=d;show PySem.EqMixed.eq_int_str (c7 I q ∅)
  |_=>show MY (show MP=MO from hs) aO
 |str i=>
  obtain⟨t,rfl⟩:=e;cases y with
  |non=>cases d;show PySem.EqNone.eq_str_none (c7 I q ∅)
  |bl j=>cases d;show PySem.EqMixed.eq_str_bool (c7 I q ∅)
  |int j=>obtain⟨t',rfl⟩:=d;show PySem.EqMixed.eq_str_int (c7 I q ∅)
  |str j=>obtain⟨t',rfl⟩:=d;show eq_str (c7 I q R4)
  |_=>show MY (show MP=MO from hs) aO
 |byt i=>
  obtain⟨t,rfl⟩:=e;cases y with
  |byt j=>obtain⟨t',rfl⟩:=d;show PySem.W.eq_bytes (c7 I q R5)
  |_=>show MY (show MP=MO from hs) aO
 |_=>cases y<;>show MY (show MP=MO from hs) aO
def op_ne:OpR X (eE .NotEq) rNe:=by
 intro f s g H x y v u Q I e d h;obtain⟨hs,q⟩:=h;cases x with
 |non=>
  cases e;cases y with
  |non=>cases d;show PySem.EqNone.ne_none_none (c7 I q ∅)
  |bl j=>cases d;show PySem.EqNone.ne_none_bool (c7 I q ∅)
  |int j=>obtain⟨t',rfl⟩:=d;show PySem.EqNone.ne_none_int (c7 I q ∅)
  |str j=>obtain⟨t',rfl⟩:=d;show PySem.EqNone.ne_none_str (c7 I q ∅)
  |_=>show MY (show MP=MO from hs) aO
 |bl i=>
  cases e;cases y with
  |non=>cases d;show PySem.EqNone.ne_bool_none (c7 I q ∅)
  |bl j=>cases d;show ne_bool (c7 I q (NA not V7))
  |str j=>obtain⟨t',rfl⟩:=d;show PySem.EqMixed.ne_bool_str (c7 I q ∅)
  |_=>show MY (show MP=MO from hs) aO
 |int i=>
  obtain⟨t,rfl⟩:=e;cases y with
  |non=>cases d;show PySem.EqNone.ne_int_none (c7 I q ∅)
  |int j=>obtain⟨t',rfl⟩:=d;show ne_int (c7 I q (NA not R3))
  |str j=>obtain⟨t',rfl⟩:=d;show PySem.EqMixed.ne_int_str (c7 I q ∅)
  |_=>show MY (show MP=MO from hs) aO
 |str i=>
  obtain⟨t,rfl⟩:=e;cases y with
  |non=>cases d;show PySem.EqNone.ne_str_none (c7 I q ∅)
  |bl j=>cases d;show PySem.EqMixed.ne_str_bool (c7 I q ∅)
  |int j=>obtain⟨t',rfl⟩:=d;show PySem.EqMixed.ne_str_int (c7 I q ∅)
  |str j=>obtain⟨t',rfl⟩:=d;show ne_str (c7 I q (NA not R4))
  |_=>show MY (show MP=MO from hs) aO
 |byt i=>
  obtain⟨t,rfl⟩:=e;cases y with
  |byt j=>obtain⟨t',rfl⟩:=d;show PySem.W.ne_bytes (c7 I q (NA not R5))
  |_=>show MY (show MP=MO from hs) aO
 |_=>cases y<;>show MY (show MP=MO from hs) aO
def op_lt:OpR X (eE .Lt) (rI0 λi j=>.bl (decide (i < j))):=Zj λ_ _ _ _ _ _ _ q=>lt_int q
def op_gt:OpR X (eE .Gt) (rI0 λi j=>.bl (decide (j < i))):=Zj λ_ _ _ _ _ _ _ q=>gt_int q
def op_ge:OpR X (eE .GtE) (rI0 λi j=>.bl (decide (j<=i))):=Zj λ_ _ _ _ _ _ _ q=>ge_int q
def OpR.or (h:OpR X f r)(h':OpR X f j):OpR X f (λx y H Q=>r x y H Q\/j x y H Q):=by
 intro d s e H x y v u Q I g i q;rcases q with q | q;{show h d s e H x y v u Q I g i q};{show h' d s e H x y v u Q I g i q}
def aea {op:CmpOp}{r:R2}(d:OpR X (eE op) r)(e:PE X a ta)(f:PE X b tb)(g:qH op b=MP):PE X (.Compare a [op] [b] pos) (tOp r ta tb):=by
 intro i s j H Q I h;show wpAny_Compare1 (Zi e f I h λv u l x y m I2 n o q=>d i l j m x y v u Q I2 n o q) g
def tTest (t:TE):TT:=λd H Q=>t d H λx H'=>∃k,x=.bl k/\Q k H'
def aeb (g:OpR X (eE op) r)(i:PE X a ta)(j:PE X b tb)(l:qH op b=MP):PT X (.Compare a [op] [b] pos) (tTest (tOp r ta tb)):=by
 intro d s f H Q I h;show wpAny_isTrue_Compare1 (thn (i d s f H _ I h) λv m ⟨x,n,o,p,q⟩=>thn (j d m f n _ o q) λu w ⟨y,A,I2,C,D⟩=>
   thn (g d w f A x y v u _ I2 p C D) λc N ⟨z,E,G,J,k,e,L⟩=>?_) l
 subst e;cases J;show jU #v[E,G,L]
def Zl (K:aF)(x:V)(H:Hp)(k:Bool):Prop:=
 match x with
 | .non=>k=MP
 | .bl b=>k=b
 | .int i=>k=(i != 0)
 | .str y=>y.length<=sizeLine/\k=((y.length:Int) != 0)
 | .byt y=>y.size<=sizeLine/\k=((y.size:Int) != 0)
 | .ref p=>(∃xs,SqL K H p xs/\k=!xs.isEmpty)\/(∃xs,SqT K H p xs/\k=!xs.isEmpty)\/∃kvs,H p=KE (.dK kvs)/\k=!kvs.isEmpty
 |_=>False
def Ts {d:Type}{kvs:List (d×V)}{vs:List (d×aK)}(r:KV kvs vs):(!vs.isEmpty)=!kvs.isEmpty:=by
 cases r<;>rfl
def Em {xs:DK}{its:AJ}(r:Vals xs its):(!its.toArray.isEmpty)=!xs.isEmpty:=by
 cases r<;>simp
def ng:(sizeLine:Nat) < 2 ^ 63:=by rw[iI];decide
def aid:TruR X (λx H Q=>∃k,Zl X.K x H k/\Q k H):=by
 intro o s u H x v Q I f h;obtain⟨k,e,q⟩:=h;have z:=ng;have hs:sizeLine=16777216:=iI;cases x with
 |non=>
  cases f;have d:k=MP:=e;subst d;show truthy_none #v[H,I,q]
 |bl b=>
  cases f;have d:k=b:=e;subst d;show jU #v[H,I,q]
 |int i=>
  obtain⟨t,rfl⟩:=f;have d:k=(i != 0):=e;subst d;show PySem.P.truthy_int #v[H,I,q]
 |str y=>
  obtain⟨t,rfl⟩:=f;obtain⟨l,d⟩:y.length<=sizeLine/\k=((y.length:Int) != 0):=e;subst d;show PySem.P.truthy_str () {H,I.tok _,q}
 |byt y=>
  obtain⟨t,rfl⟩:=f;obtain⟨l,d⟩:y.size<=sizeLine/\k=((y.size:Int) != 0):=e;subst d;show PySem.W.truthy_bytes () {H,I.tok _,q}
 |ref p=>
  cases f;have d:(∃xs,SqL X.K H p xs/\k=!xs.isEmpty)\/(∃xs,SqT X.K H p xs/\k=!xs.isEmpty)\/∃kvs,H p=KE (.dK kvs)/\k=!kvs.isEmpty:=e;rcases d with⟨xs,g,d⟩ | ⟨xs,g,d⟩ | ⟨kvs,g,d⟩;{subst d;obtain⟨its,r,pl,hz⟩:=I.list g;have j:=r.length;show wpAny_truthy_list pl.isList (by simp only[aL];lia) {H,I.tok _,by rw[Em r];show q}};{subst d;obtain⟨its,r,pl,hz⟩:=I.tuple g;have j:=r.length;show truthy_tuple pl (by simp only[aL];lia) {H,I.tok _,by rw[Em r];show q}};{subst d;obtain⟨hz,n,vs,r,m⟩:kvs.length<=sizeLine/\(p == gD)=MP/\∃vs,KV kvs vs/\s.heap.DictOf (g6 X.p X.w) p vs:=I.hok p _ g;have j:kvs.length=vs.length:=Paired.length r;show wpAny_truthy_dict n m () {H,I.tok _,by rw[Ts r];show q}}
 |_=>show(show False from e).elim
def Zm (g:PE X a ta)(i:∀e,uA a X.e e=(do let v <-e;mX a.pos;iV [v] (truthy v))) :
  PT X a (λd H Q=>ta d H λx H'=>∃k,Zl X.K x H' k/\Q k H'):=by
 intro f s d H Q I h;show isTrue_plain (thn (g f s d H _ I h) λv j l=>by obtain⟨x,m,n,o,p⟩:=l;show aid f j d m x v Q n o p) (i _)
def Tt:OpR X (eC .Add) (λx y H Q=>∃i j,x=.str i/\y=.str j/\i.length+j.length<=sizeLine/\Q (.str (i++j)) H):=by
 intro f s g H x y v u Q I d e h;obtain⟨i,j,rfl,rfl,hz,q⟩:=h;obtain⟨t,rfl⟩:=d;obtain⟨t',rfl⟩:=e;show add_str (λt' l=>{.str (i++j),H,I.tok _,{_,rfl},q}) hz
def jg (r:Vals [x] us):∃u,us=[u]/\RelV x u:=by
 cases r with
 |cons d e=>cases e;show{_,rfl,d}
def En (r:Vals [x,y] us):∃u d,us=[u,d]/\RelV x u/\RelV y d:=by
 cases r with
 |cons e f=>
  cases f with
  |cons g i=>cases i;show{_,_,rfl,e,g}
def Zn:i9 X (.builtin "abs") (λxs H Q=>∃i,xs=[.int i]/\Q (.int (if i < 0 then -i else i)) H):=by
 intro d s e H xs us Q I r h;obtain⟨i,rfl,q⟩:=h;obtain⟨u,rfl,t,rfl⟩:=jg r;show call_abs_int λu f=>{.int (if i < 0 then -i else i),H,I.tok _,{_,rfl},q}
def V8 (e:X.calm=MO):i9 X (.builtin "max") (λxs H Q=>∃i j,xs=[.int i,.int j]/\Q (.int (if j > i then j else i)) H):=by
 intro f s g H xs us Q I r h;obtain⟨i,j,rfl,q⟩:=h;obtain⟨u,l,rfl,⟨t,rfl⟩,⟨t',rfl⟩⟩:=En r;show max_two_ints (I.ok.hd e) λh' m k=>{_,H,I.kept k,?_,q};by_cases d:j > i;{rw[MU d,MU d];show{_,rfl}};{rw[MV d,MV d];show{_,rfl}}
def V9 (e:X.calm=MO):i9 X (.builtin "min") (λxs H Q=>∃i j,xs=[.int i,.int j]/\Q (.int (if j < i then j else i)) H):=by
 intro f s g H xs us Q I r h;obtain⟨i,j,rfl,q⟩:=h;obtain⟨u,l,rfl,⟨t,rfl⟩,⟨t',rfl⟩⟩:=En r;show min_two_ints (I.ok.hd e) λh' m k=>{_,H,I.kept k,?_,q};by_cases d:j < i;{rw[MU d,MU d];show{_,rfl}};{rw[MV d,MV d];show{_,rfl}}
def I0:i9 X (.type "int") (λxs H Q=>(∃i,xs=[.int i]/\Q (.int i) H)\/∃k,xs=[.bl k]/\Q (.int (if k then 1 else 0)) H):=by
 intro e s f H xs us Q I r h;rcases h with⟨i,rfl,q⟩ | ⟨k,rfl,q⟩;{obtain⟨u,rfl,t,rfl⟩:=jg r;show call_int_int {.int i,H,I,{_,rfl},q}};{obtain⟨u,rfl,d⟩:=jg r;cases d;show call_int_bool {.int (if k then 1 else 0),H,I.tok _,{_,rfl},q}}
end
structure ObjM (h:MR)(x dx C:MQ)(mA:Str->AX):Prop where
 obj:h.get? x=KE (iJ C dx)
 ns:h.Ns1 dx mA
 ne:dx≠x
def Wa {h:MR}(n:h.Ns1 f g):∃c,h.get? f=KE c/\∀name,pN name c=KE (g name):=by
 obtain⟨o,d,p,i,hd,hk,_,j⟩:=n;show{o,i,λname=>?_};have e:=j name;unfold nsFind findBy at e;rw[<-Array.find?_toList]at e;unfold pN;rw[hd];dsimp only
 split
 ·rename_i y q
  rw[q]at e;show NA KE e
 ·rename_i q
  rw[q]at e;have a:d.toList.any (·.refKey)=MP:=by
   rw[List.any_eq_false];intro y l;obtain⟨z,t,b⟩:=hk y (Array.mem_toList_iff.mp l);simp[DictEntry.refKey,b]
  have m:¬d.toList.any (·.refKey)=MO:=(by rw[a];show aO);rw[MV m];show NA KE e
def ObjM.look (I:ObjM h x b C c):∃a,PySem.W.InstAt h x (iJ C b) C (KE a)/\∀name,pN name a=KE (c name):=
 let ⟨a,d,e⟩:=Wa I.ns
 {a,#v[I.obj,rfl,rfl,d],e}
section
variable {prog:aQ}{w:bB}{A:bX}{E:aK->aG->Prop}{s:aG}{K:aF}{x dx C f:MQ}{mA:Str->AX}{name:Str}{v:aK}
def aec (X:K.In s.heap)(I:ObjM s.heap x dx C mA)(b:lK K C name=MO)(c:nL K C=MO)
  (d:cW K (.ref C) name=KE MN) (e:mA name=KE v) (a:PySem.W.handedIn v=MO) (h:Q v { s with toks:=s.toks+1 }) :
  aJ (aV prog w) A (getAttr (.ref x) name expr) Q E s:=by
 obtain⟨i,J,g⟩:=I.look;show PySem.W.get_value X J (pJ b).1 (PySem.W.findObj_own c d rfl (by rw[g,e])) a h
def Zo (X:K.In s.heap)(I:ObjM s.heap x dx C mA)(a:lK K C name=MO)
  (b:cW K (.ref C) name=KE (KE (.ref f))) (c:gJ K (.ref f)=MO) (d:mA name=MN) (h:Q (.ref f,[.ref x]) s) :
  aJ (aV prog w) A (mJ (.ref x) name pl) Q E s:=by
 obtain⟨e,J,g⟩:=I.look;show PySem.W.method_fn X J (pJ a).1 (pJ a).2 b (beq_iff_eq.mp c) (by change(pN name e).map (·.isSome)=KE MP;rw[g,d];rfl) h
def aed (X:K.In s.heap)(I:ObjM s.heap x dx C mA)
  (hs:cW K (.ref C) "__setattr__"=KE (KE (.builtin "object.__setattr__"))) (j:qP K C=MO) (l:rT K C name=KE MN) (m:nL K C=MO)
  (hw:tY mA ns) (hsz:ns.length<=sizeLine)
  (h:∀h',ObjM h' x dx C (λy=>if y=name then KE v else mA y)->eN dx s.heap h'->Q Unit.unit { s with heap:=h',toks:=s.toks+2 }) :
  aJ (aV prog w) A (setAttr (.ref x) name v) Q E s:=by
 obtain⟨z,J,D⟩:=I.look;show PySem.W.set_plain X J hs (PySem.W.osa_open (s:={ s with toks:=s.toks+1 }) (r:=MN) X J j l λb=>?_);obtain⟨cd,n,o⟩:=PySem.W.any_some m;have p:s.heap.get? x=KE ⟨.ref C,KE dx,.plain,#[]⟩:=I.obj;show aA (wpAny_pure (aA (aA (wpAny_loadPart p (aA (PySem.W.Looks.here (s:={ s with toks:=s.toks+1 }) (PySem.W.looks_clsIn X n) ?_))))));rw[o];show wpAny_pure (a:=KE dx) (aA (wpAny_pure (aA ?_)));show wpAny_nsSet1 (s:={ s with toks:=s.toks+1 }) I.ns λh' g i=>?_;obtain⟨G,q,u,c,d,e⟩:=g.count (PySem.Within.cons name v hw);show aA (wpAny_lookBehind c (by rw[d];show pastItsLine_dict (aX e (by rw[aW];lia))) ?_);show wpAny_pure (h _ {(i.2 _ (Ne.symm I.ne)).trans I.obj,g,I.ne} i)
def Zq (X:K.In s.heap)(b:oU K C=MO)
  (hi:cW K (.ref C) "__init__"=KE (KE (.ref f))) (c:PySem.W.typeIn K (.ref f)=KE (.type "function"))
  (h:kQ (aV prog w) (A.under (.builtin "type.__call__" {.ref C::vs,a})) (.call (.ref f) {.ref (‹s›+1)::vs,a}) (PySem.W.InitBack (‹s›+1) R) { s with heap:=(s.heap.push fZ).push (iJ C ‹s›) }) :
  kQ (aV prog w) A (.call (.ref C) #v[vs,a]) R s:=by
 obtain⟨e,g,d,t,os⟩:=s;show PySem.W.make_core (PySem.W.makes_of X b) (PySem.W.looks_findIn X hi) (λself=>PySem.W.bind_fn X self c) (.inl rfl) h
end
def ku (f:Str)(v:V):List (Str×V)->List (Str×V)
 | []=>[(f,v)]
 | (g,x)::r=>if g=f then (g,v)::r else (g,x)::ku f v r
theorem Ct (f g:Str)(v:V):∀fs:List (Str×V),(ku f v fs).lookup g=if g=f then KE v else fs.lookup g
 | []=>by
  change lB g [(f,v)]=_;by_cases h:g=f;{have a:(g == f)=MO:=beq_iff_eq.mpr h;simp only[lB,a,MU h]};{have a:(g == f)=MP:=beq_eq_false_iff_ne.mpr h;simp only[lB,a,MV h]}
 | (k,x)::r=>by
  have b:=Ct f g v r;rw[show ku f v ((k,x)::r)=(if k=f then (k,v)::r else (k,x)::ku f v r)from rfl]
  by_cases hk:k=f;{rw[MU hk];by_cases h:g=k;{have a:(g == k)=MO:=beq_iff_eq.mpr h;simp only[lB,a,MU (h.trans hk)]};{have a:(g == k)=MP:=beq_eq_false_iff_ne.mpr h;simp only[lB,a,MV (λe:g=f=>h (e.trans hk.symm))]}};{rw[MV hk];by_cases h:g=k;{have a:(g == k)=MO:=beq_iff_eq.mpr h;simp only[lB,a,MV (λe:g=f=>hk (h.symm.trans e))]};{have a:(g == k)=MP:=beq_eq_false_iff_ne.mpr h;simp only[lB,a];show b}}
theorem Ak (f:Str)(v:V):∀fs:List (Str×V),f∈(ku f v fs).map (·.1)/\∀g,g∈fs.map (·.1)->g∈(ku f v fs).map (·.1)
 | []=>{by simp[ku],λg h=>by simp at h}
 | (k,x)::r=>by
  obtain⟨a,b⟩:=Ak f v r;rw[show ku f v ((k,x)::r)=(if k=f then (k,v)::r else (k,x)::ku f v r)from rfl]
  by_cases hk:k=f;{rw[MU hk];subst hk;show{by simp,λg h=>by simpa using h}};{rw[MV hk];show{?_,λg h=>?_};{rw[bE];show aT _ a};{rw[bE]at h ⊢;rcases aY.mp h with e | e;{show List.mem_cons.mpr (.inl e)};{show aT _ (b g e)}}}
theorem Cu (f:Str)(v:V):∀fs:List (Str×V),(ku f v fs).length<=fs.length+1
 | []=>by simp[ku]
 | (k,x)::r=>by
  have a:=Cu f v r;rw[show ku f v ((k,x)::r)=(if k=f then (k,v)::r else (k,x)::ku f v r)from rfl]
  by_cases hk:k=f;{rw[MU hk,aW,aW];lia};{rw[MV hk,aW,aW];lia}
def RelO.some_of (r:RelO (KE v) o):∃u,o=KE u/\RelV v u:=by
 cases o with
 |none=>show(show False from r).elim
 |some u=>show#v[u,rfl,r]
def RelO.none_of (r:RelO MN o):o=MN:=by
 cases o with
 |none=>rfl
 |some u=>show(show False from r).elim
def Wb (r:RelV v u):PySem.W.handedIn u=MO:=by
 cases v with
 |non=>cases(show u=fR from r);rfl
 |bl b=>cases(show u=mT b from r);rfl
 |int i=>obtain⟨t,e⟩:=(show ∃t,u=jZ i t from r);cases e;rfl
 |str x=>obtain⟨t,e⟩:=(show ∃t,u=rQ x t from r);cases e;rfl
 |byt b=>obtain⟨t,e⟩:=(show ∃t,u=Value.bytes b t from r);cases e;rfl
 |flt b=>obtain⟨t,e⟩:=(show ∃t,u=uS b t from r);cases e;rfl
 |ref a=>cases(show u=bQ a from r);rfl
 |ty n=>cases(show u=mU n from r);rfl
section
variable {P:aQ}{w:bB}{H H':Hp}{h h':MR}{a C dx:MQ}{fs fs':List (Str×V)}
def Bt (hok:HOk P w H h)(e:H a=KE (.ins C dx fs)):∃b,ObjM h a dx C b/\(∀f,RelO (fs.lookup f) (b f))/\tY b (fs.map (·.1))/\fs.length<=1000/\H dx=KE (.own a):=by
 obtain⟨d,z,ne,c,b,n,r,q⟩:=(show ObjOk P w H h a (.ins C dx fs)from hok a _ e);show{b,#v[c,n,ne],r,q,z,d}
end
structure Cls (K:aF)(C:MQ):Prop where
 pg:lK K C Str.empty=MO
 hd:nL K C=MO
 po:qP K C=MO
 sa:cW K (.ref C) "__setattr__"=KE (KE (.builtin "object.__setattr__"))
def Cls.get {K:aF}{C:MQ}(c:Cls K C)(f:Str):lK K C f=MO:=c.pg
def NoAttr (K:aF)(C:MQ)(f:Str):Prop:=cW K (.ref C) f=KE MN
def NoAttr.taker {K:aF}{C:MQ}{f:Str}(n:NoAttr K C f):rT K C f=KE MN:=by
 unfold rT;rw[show cW K (.ref C) f=KE MN from n];rfl
structure Ly (K:aF)(C:MQ)(m:Str)(f:MQ):Prop where
 at_:cW K (.ref C) m=KE (KE (.ref f))
 fn:gJ K (.ref f)=MO
 kp:fK K (.ref f)=MO
section
variable {X:Cx}{f':BK}{σ:St}{H:Hp}{s:aG}{a C dx:MQ}{fs:List (Str×V)}{f:Str}{v:V}{A:bX}{E:aK->aG->Prop}
def Tu (I:Inv X f' σ H s)(e:H a=KE (.ins C dx fs))(c:Cls X.K C)(n:NoAttr X.K C f)(l:fs.lookup f=KE v)
  (h:∀u s',Inv X f' σ H s'->RelV v u->Q u s'):aJ (aV X.p X.w) A (getAttr (.ref a) f b) Q E s:=by
 obtain⟨g,O,r,_,_,_⟩:=Bt I.hok e;obtain⟨u,i,d⟩:=RelO.some_of (v:=v) (o:=g f) (by rw[<-l];show r f);show aec I.kIn O (c.get f) c.hd n i (Wb d) (h u _ (I.tok _) d)
def Eo (I:Inv X f' σ H s)(e:H a=KE (.ins C dx fs))(c:Cls X.K C)(k:Ly X.K C m g)(l:fs.lookup m=MN)
  (h:Q (.ref g,[.ref a]) s):aJ (aV X.p X.w) A (mJ (.ref a) m pl) Q E s:=by
 obtain⟨b,O,r,_,_,_⟩:=Bt I.hok e;have d:b m=MN:=RelO.none_of (by rw[<-l];show r m);show Zo I.kIn O (c.get m) k.at_ k.fn d h
def Tv (I:Inv X f' σ H s)(e:H a=KE (.ins C dx fs))(c:Cls X.K C)(n:NoAttr X.K C f)(L:fs.length < 1000)(m:RelV y u)
  (h:∀s',Inv X f' σ (upd H a (.ins C dx (ku f y fs))) s'->Q Unit.unit s'):aJ (aV X.p X.w) A (setAttr (.ref a) f u) Q E s:=by
 obtain⟨i,O,r,j,_,l⟩:=Bt I.hok e;have hz:(fs.map (·.1)).length<=sizeLine:=(by rw[aC,iI];lia);show aed I.kIn O c.sa c.po n.taker c.hd j hz λh' d p=>h _ ?_;have hd:∃o,h'.get? dx=KE o:=let ⟨o,_,_,D,_⟩:=d.ns;#v[o,D];show I.write (x:=a) (e:=dx) (by rw[e];show hX) (.inr l) (λb q G z=>(p.2 b G).trans z) hd ?_;show{by rw[bc O.ne];show l,?_,O.ne,d.obj,_,d.ns,λg=>?_,λg J=>?_};{have:=Cu f y fs;lia}
 ·change RelO ((ku f y fs).lookup g) (if g=f then KE u else i g)
  rw[Ct];by_cases q:g=f;{rw[MU q,MU q];show m};{rw[MV q,MV q];show r g}
 ·by_cases q:g=f;{rw[q];show(Ak f y fs).1}
  ·show(Ak f y fs).2 g (j g λz=>J ?_);change(if g=f then KE u else i g)=MN
   rw[MV q];show z
def Inv.made (I:Inv X f' σ H s):Inv X f' σ (upd (upd H ‹s› (.own (‹s›+1))) (‹s›+1) (.ins C ‹s› []))
  { s with heap:=(s.heap.push fZ).push (iJ C ‹s›) }:=by
 have c:(s.heap.push fZ).get? ‹s›=KE fZ:=aZ s.heap rfl;have d:((s.heap.push fZ).push (iJ C ‹s›)).get? (‹s›+1)=KE (iJ C ‹s›):=by
  have:=aZ (s.heap.push fZ) (o:=iJ C ‹s›) rfl
  rwa [eU]at this
 have g:(s.heap.push fZ).Ns ‹s› (λ_=>MN):={fZ,#[],_,c,rfl,(λe i=>MY i ∅),λ_=>rfl};have j:=I.laid (a:=‹s›) (o:=.own (‹s›+1)) (h':=s.heap.push fZ) (t':=s.toks) (λb u q=>aE _ q) (aI _) {_,c};show j.laid (a:=‹s›+1) (o:=.ins C ‹s› []) (t':=s.toks) (λb u q=>aE _ q) (Nat.le_of_eq (eU _ _)) ?_;have ne:‹s›≠‹s›+1:=bH (jD _);show{by rw[bc ne,bh],cH _,ne,d,λ_=>MN,(Heap.Ns1.of_empty g).at λo q=>aE _ q,λ_=>hX,λy l=>MY rfl l}
def aee (c:iA e f env (eval e env)=eval e env)
  (h:aJ (aV prog w) A (eval e env) (λo b=>aJ (aV prog w) A (getAttr o f MO) Q E b) E s):aJ (aV prog w) A (eval (.Attribute e f d) env) Q E s:=
 Attribute_any_ h (by rw[arm_eval_Attribute,c])
end
def tFld (K:aF)(c:TE)(f:Str):TE:=λd H Q=>c d H λx b=>∃a C e fs v,x=.ref a/\b a=KE (.ins C e fs)/\Cls K C/\NoAttr K C f/\fs.lookup f=KE v/\Q v b
def sFld (K:aF)(e g:TE)(f:Str):TS:=λD b H=>g b H λy i=>e b i λx c=>∃a C d fs,x=.ref a/\c a=KE (.ins C d fs)/\Cls K C/\NoAttr K C f/\fs.length < 1000/\
 D.nx b (upd c a (.ins C d (ku f y fs)))
section
variable {X:Cx}{o e value:MS}{f:Str}{pos xJ AI:Pos}{ta tv:TE}
def aie (b:PE X e ta)(d:iA e f X.e (eval e X.e)=eval e X.e):PE X (.Attribute e f pos) (tFld X.K ta f):=by
 intro g s i H Q I h;show aee d (thn (b g s i H _ I h) λu z j=>?_);obtain⟨x,m,p,r,a,C,A,fs,v,ex,w,c,n,l,q⟩:=j;subst ex;obtain rfl:u=bQ a:=r;show Tu p w c n l λD E I2 y=>#v[v,m,I2,y,q]
def aif (i:PE X o ta)(j:PE X value tv)(hs:kS value (KE (.Attribute o f xJ)) pos.line X.e=pure MP):PS X (.Assign [.Attribute o f xJ] value pos) (sFld X.K ta tv f):=by
 intro g s b H D I h;show plainObj_wpAny_Assign_Attribute (thn (j g s b H _ I h) λu m d=>?_) hs;obtain⟨y,p,r,w,q⟩:=d;show thn (i g m b p _ r q) λz L d=>?_;obtain⟨x,N,I2,A,a,C,O,fs,ex,E,c,n,l,G⟩:=d;subst ex;obtain rfl:z=bQ a:=A;show Tv I2 E c n l w λT J=>{b,_,J,G}
end
section
variable {X:Cx}{f':BK}{σ:St}{H:Hp}{s:aG}{A:bX}{E:aK->aG->Prop}{Q:aK->aG->Prop}{c:aK}{b:Bool}
inductive qp (K:aF)(H:Hp):V->aK->Prop where
 |non:qp K H .non (.type "NoneType")
 |bl (x:Bool):qp K H (.bl x) (.type "bool")
 |int (i:Int):qp K H (.int i) (.type "int")
 |str (x:Str):qp K H (.str x) (.type "str")
 |flt (x:UInt64):qp K H (.flt x) (.type "float")
 |lst {a:MQ}{xs:DK}(e:H a=KE (.lst xs)):qp K H (.ref a) (.type "list")
 |frz {a:MQ}{o:Obj}{xs:DK}(e:H a=KE (.frz o (.lst xs))):qp K H (.ref a) (.type "list")
 |tup {a:MQ}{xs:DK}(e:H a=KE (.tup xs)):qp K H (.ref a) (.type "tuple")
 |dK {a:MQ}{kvs:List (Key×V)}(e:H a=KE (.dK kvs)):qp K H (.ref a) (.type "dict")
 |dT {a:MQ}{kvs:List (List Key×V)}(e:H a=KE (.dT kvs)):qp K H (.ref a) (.type "dict")
 |ins {a C dx:MQ}{fs:List (Str×V)}(e:H a=KE (.ins C dx fs)) (cl:Cls K C) (ha:cW K (.ref C) "__class__"=KE (KE (.builtin "object.__class__")))
   (hn:nM K (.builtin "object.__class__") "__get__"=KE (KE (.builtin "getset_descriptor.__get__"))) (KP:PySem.W.takesIn K (.builtin "object.__class__")=KE MO)
   (hm:PySem.W.mroIn K C (.type "object")=KE MO):qp K H (.ref a) (.ref C)
def Wc (I:Inv X f' σ H s)(d:RelV x u)(ty:qp X.K H x t)(e:eF X.K t c=KE b)(h:∀l,Q (.bool b) { s with toks:=l }) :
  aJ (aV X.p X.w) A (call (.builtin "isinstance") [u,c]) Q E s:=by
 cases ty with
 |non=>cases(show u=fR from d);show eV PySem.W.kitx_none I.kIn hX e (λz=>nomatch z) h
 |bl y=>cases(show u=mT y from d);show eV PySem.W.kitx_bool I.kIn hX e (λz=>nomatch z) h
 |int i=>obtain⟨t,q⟩:=(show ∃t,u=jZ i t from d);cases q;show eV PySem.W.kitx_int I.kIn hX e (λz=>nomatch z) h
 |str y=>obtain⟨t,q⟩:=(show ∃t,u=rQ y t from d);cases q;show eV PySem.W.kitx_str I.kIn hX e (λz=>nomatch z) h
 |flt y=>obtain⟨t,q⟩:=(show ∃t,u=uS y t from d);cases q;show eV PySem.W.kitx_float I.kIn hX e (λz=>nomatch z) h
 |@lst a xs f=>
  cases(show u=bQ a from d);obtain⟨_,_,n,_,g⟩:=(show ObjOk X.p X.w H s.heap a (.lst xs)from I.hok a _ f);show eV qQ I.kIn {_,g,rfl} e (λz=>nomatch z) h
 |@frz a m xs f=>
  cases(show u=bQ a from d);obtain⟨_,_,_,n,_,g⟩:=(show ObjOk X.p X.w H s.heap a (.frz m (.lst xs))from I.hok a _ f);show eV qQ I.kIn {_,g,rfl} e (λz=>nomatch z) h
 |@tup a xs f=>
  cases(show u=bQ a from d);obtain⟨_,_,_,p⟩:=(show ObjOk X.p X.w H s.heap a (.tup xs)from I.hok a _ f);obtain⟨o,g,j,_⟩:=p;show eV PySem.W.kitx_tuple I.kIn #v[o,g,j] e (λz=>nomatch z) h
 |@dK a kvs f=>
  cases(show u=bQ a from d);obtain⟨_,_,vs,_,p⟩:=(show ObjOk X.p X.w H s.heap a (.dK kvs)from I.hok a _ f);obtain⟨o,r,D,g,j,_⟩:=p;show eV PySem.W.kitx_dict I.kIn #v[o,g,j.1] e (λz=>nomatch z) h
 |@dT a kvs f=>
  cases(show u=bQ a from d);obtain⟨_,_,xs,_,o,r,D,g,j,_⟩:=(show ObjOk X.p X.w H s.heap a (.dT kvs)from I.hok a _ f);show eV PySem.W.kitx_dict I.kIn #v[o,g,j.1] e (λz=>nomatch z) h
 |@ins a C U fs f cl G L N T=>
  cases(show u=bQ a from d);obtain⟨Y,O,_⟩:=Bt I.hok f;obtain⟨od,J,_⟩:=O.look;show eV (PySem.W.kitx_own (cl.get _) cl.hd G L N T) I.kIn J e (λz=>nomatch z) h
end
structure Room (k:Nat)(A:bX):Prop where
 hd:A.handled=MN
 dp:A.depth+3 * k+5 < recursionLimit
 un:A.units+16 * k+200 < cK
def Room.mono (r:Room k A)(h:j<=k):Room j A:=⟨r.hd,by have:=r.dp;lia,by have:=r.un;lia⟩
theorem Room.deeper (r:Room (k+1) A)(env:Env):Room k (A.deeper env):=
 ⟨r.hd,by have:=r.dp;change A.depth+1+3 * k+5 < _;lia,by have:=r.un;change A.units+3+16 * k+200 < _;lia⟩
def Tw {A:bX}:(A.under (.builtin "type.__call__" {.ref C::us,a})).depth=A.depth+1:=by
 first | rfl | simp[uC,Code.weight,Code.isCreation,Code.isGuard,Code.isCaller,Code.frames,uD,guardIds]
def Tx {A:bX}:(A.under (.builtin "type.__call__" {.ref C::us,a})).units=A.units+1:=by
 first | rfl | simp[uC,Code.cUnits,Code.frames,uD]
def Room.make (r:Room (k+1) A)(C:MQ)(us:AJ)(a:List (Str×aK)):Room k (A.under (.builtin "type.__call__" {.ref C::us,a})):=
 ⟨r.hd,by have:=r.dp;rw[Tw];lia,by have:=r.un;rw[Tx];lia⟩
theorem Room.depth (r:Room k A):A.depth < recursionLimit:=by have:=r.dp;lia
theorem Room.units (r:Room k A):A.units+64 < cK:=by have:=r.un;lia
def tNil:TA:=λ_ H Q=>Q [] H
def tCons (b:TE)(tr:TA):TA:=λa H Q=>b a H λx c=>tr a c λxs d=>Q (x::xs) d
section
variable {X:Cx}{e:MS}{es:BW}{te:TE}{t:TA}{pos:Pos}
def Lz:PA X [] tNil:=λ_ _ _ _ H Q I h=>nN {[],H,I,.nil,h}
def xy (d:PE X e te)(f:PA X es t)(hs:↥(aM (e::es) X.e=(MP,eval e X.e)::aM es X.e)):PA X (e::es) (tCons te t):=by
 intro pos b s c H Q I h;rw[hs];change aJ _ _ (uR ((MP,eval e X.e)::dS pos (aM es X.e))) _ _ s;show mK (thn (d b s c H _ I h) λu g a=>?_);obtain⟨x,i,j,l,m⟩:=a;show thn (f pos b g c i _ j m) λus q a=>by obtain⟨xs,n,I2,o,p⟩:=a;show{x::xs,n,I2,.cons l o,p}
def tTup (t:TA):TE:=λb H Q=>t b H λxs a=>xs.length<=sizeLine/\∀p,a p=MN->Q (.ref p) (upd a p (.tup xs))
def tLst (t:TA):TE:=λb H Q=>t b H λxs a=>xs.length<=sizeLine/\∀p,a p=MN->Q (.ref p) (upd a p (.lst xs))
def aii (h:PA X es t):PE X (.Tuple es l pos) (tTup t):=by
 intro f s g H Q I i;show wpAny_Tuple_spliced (thn (h pos f s g H _ I i) λus a ⟨xs,c,d,r,z,q⟩=>{by rw[<-r.length];show z,?_});have j:c ‹a›=MN:=d.hok.fresh (aI _);show{.ref ‹a›,upd c ‹a› (.tup xs),d.laid (t':=a.toks) (λb u e=>aE _ e) (aI _) ?_,rfl,q _ j};show{z,us,r,{_,aZ _ rfl,rfl,_,rfl}}
def aij (h:PA X es t):PE X (.List es pos) (tLst t):=by
 intro f s g H Q I i;show wpAny_List_spliced (thn (h pos f s g H _ I i) λus a ⟨xs,c,d,r,z,q⟩=>{by rw[<-r.length];show z,?_});have j:c ‹a›=MN:=d.hok.fresh (aI _);show{.ref ‹a›,upd c ‹a› (.lst xs),d.laid (t':=a.toks) (λb u e=>aE _ e) (aI _) ?_,rfl,q _ j};show{z,us,0,r,aZ _ rfl}
end
abbrev Sp:=DK->Hp->VK->XK->Prop
abbrev CXT:=List Env->Hp->aG->XK->aK->aG->Prop
structure Env0 (P:aQ)(w:bB)(K:aF)(mg:Str->AX)(base:MR)(A:bX)(outer:List Env)(s:aG)(H:Hp):Prop where
 frames:A.frames=KE outer
 mod:Mod K mg base
 bs:∀b o,base.get? b=KE o->s.heap.get? b=KE o/\H b=MN
 bsz:base.objs.size<=‹s›
 funs:s.heap.FunFrames base outer
 frf:∀b∈frs outer,H b=MN
 hok:HOk P w H s.heap
 bare:oH s.gens
def CE (outer:List Env)(P:aQ)(w:bB)(H:Hp)(s:aG)(Q:VK)(u:aK)(s':aG):Prop:=
 ∃v H',s'.os=s.os/\oH s'.gens/\Un (frs outer) [] H H' s.heap s'.heap/\HOk P w H' s'.heap/\RelV v u/\Q v H'
def CR (CX:CXT)(outer:List Env)(P:aQ)(w:bB)(H:Hp)(s:aG)(Q:VK)(E:XK)(r:vC)(s':aG):Prop:=
 match r with
 | .ok (.ret u)=>CE outer P w H s Q u s'
 | .ok _=>False
 | .error e=>CX outer H s E e s'
structure ir (P:aQ)(w:bB)(K:aF)(mg:Str->AX)(base:MR)(CX:CXT)(k:Nat)(f:MQ)(fd:gY)(ps:AQ)(sp:Sp):Prop where
 len:∀vs H Q E,sp vs H Q E->vs.length=ps.length
 run:∀A outer s H args us vs Q E,Room k A->Env0 P w K mg base A outer s H->rA s fd args (ps.zip us)->Vals vs us->sp vs H Q E->
  kQ (aV P w) A (.call (.ref f) args) (CR CX outer P w H s Q E) s
def Env0.make {P:aQ}{w:bB}{K:aF}{mg:Str->AX}{base:MR}{A:bX}{outer:List Env}{s:aG}{H:Hp}(e:Env0 P w K mg base A outer s H)(C:MQ)(us:AJ)(a:List (Str×aK)) :
  Env0 P w K mg base (A.under (.builtin "type.__call__" {.ref C::us,a})) outer s H:=⟨by first | show e.frames | (simpa[uC,Code.envs,uD,pushEnvs]using e.frames),e.mod,e.bs,e.bsz,e.funs,e.frf,e.hok,e.bare⟩
section
variable {X:Cx}{f':BK}{σ:St}{H:Hp}{s s':aG}
def Inv.env0 (I:Inv X f' σ H s):Env0 X.p X.w X.K X.mg X.base X.A X.stack s H:=
 {I.ok.frames,I.ok.mod,I.bs,aX I.ok.bsz I.sz,I.stack,I.stkFree,I.hok,I.bare}
def Inv.after (I:Inv X f' σ H s)(h:CE X.stack X.p X.w H s Q u s'):EP X f' σ Q u s':=by
 obtain⟨v,H',os,bare,un,hok,r,q⟩:=h;obtain⟨a,g,d,t,c⟩:=s';obtain rfl:c=s.os:=os;show{v,H',I.call (h':=a) (g':=g) (d':=d) (t':=t) (ch:=[]) un hok bare (λb z=>MY z ∅),r,q}
end
def aco (sp:Sp)(a:DK)(E:XK)(t:TA):TE:=λb H Q=>t b H λvs c=>sp (vs++a) c Q E
def acp (C:MQ)(m:Str)(sp:Sp)(d:DK)(E:XK)(e:TE)(t:TA):TE:=λb H Q=>e b H λx c=>∃a f fs,x=.ref a/\c a=KE (.ins C f fs)/\fs.lookup m=MN/\
 t b c λvs g=>sp (x::(vs++d)) g Q E
def tMake (C:MQ)(sp:Sp)(c:DK)(E:XK)(t:TA):TE:=λd H Q=>t d H λvs b=>∀x a,b x=MN->b a=MN->a≠x->
 sp (.ref x::(vs++c)) (upd (upd b a (.own x)) x (.ins C a [])) (λv e=>v=.non/\Q (.ref x) e) E
def Binds (K:aF)(fd:gY)(ps:AQ)(ds:AJ):Prop:=
 ∀s us,K.In s.heap->(us++ds).length=ps.length->rA s fd {us,[]} (ps.zip (us++ds))
def Binds.all {K:aF}{fd:gY}{ps:AQ}(h:∀us:AJ,us.length=ps.length->pO fd {us,[]}=pure (ps.zip us)):Binds K fd ps []:=λs us _ a=>by
 rw[cE]at a ⊢;show .of_eq (h us a)
def r8 (CX:CXT)(X:Cx)(E:XK):Prop:=∀a b H s e s',Inv X a b H s->CX X.stack H s E e s'->X.xe e s'
section
variable {X:Cx}{CX:CXT}{k:Nat}{f C:MQ}{fd:gY}{ps:AQ}{sp:Sp}{zO:DK}{ds:AJ}{E:XK}{x m:Str}{p pos wM:Pos}{e o:MS}{es:BW}{ta:TE}{t:TA}
def Ep (F:ir X.p X.w X.K X.mg X.base CX k f fd ps sp)(g:Room k X.A)(i:Binds X.K fd ps ds)(hd:Vals zO ds)(j:r8 CX X E)
  (I:Inv X b c H s) (r:Vals vs us) (h:sp (vs++zO) H Q E):aJ (aV X.p X.w) X.A (call (.ref f) us) (EP X b c Q) X.xe s:=by
 have d:Vals (vs++zO) (us++ds):=r.append hd;have l:(us++ds).length=ps.length:=(by rw[<-d.length];show F.len _ _ _ _ h);show vD (mL (F.run X.A X.stack s H {us,[]} (us++ds) (vs++zO) Q E g I.env0 (i s us I.kIn l) d h) λr s' a=>?_);cases r with
 |error e=>show j b c H s e s' I a
 |ok n=>
  cases n with
  |ret u=>show I.after a
  |next=>show hV a
  |brk=>show hV a
  |cont=>show hV a
def R6 (F:ir X.p X.w X.K X.mg X.base CX k f fd ps sp)(b:Room k X.A)(c:Gl X x)(d:X.mg x=KE (.ref f))(hk:fK X.K (.ref f)=MO)(g:Binds X.K fd ps ds)(hd:Vals zO ds)(i:r8 CX X E)
  (j:PA X (e::es) t) (l:↑((x == ("__debug__":Str))=MP)) (n:↥(aM (e::es) X.e=(MP,eval e X.e)::aM es X.e)) (u:↥((dS pos (aM es X.e)).any (·.1)=MP)) :
  PE X (.Call (.Name x p) (e::es) [] pos) (aco sp zO E t):=by
 intro y s z H Q I h;show iD (Br I c d ?_ l);show mM (h₀:=X.base) I.ok.mod.kin hk (thn (j pos y s z H _ I h) λus G D=>?_) n u;obtain⟨vs,J,a,r,q⟩:=D;show{a.kIn,?_};show Ep F b g hd i a r q
def aef (y:PE X o ta)(c:Cls X.K C)(d:Ly X.K C m f)(F:ir X.p X.w X.K X.mg X.base CX k f fd ps sp)(z:Room k X.A)(D:Binds X.K fd ps ds)(hd:Vals zO ds)(G:r8 CX X E)(J:PA X (e::es) t)
  (L:↥(aM (e::es) X.e=(MP,eval e X.e)::aM es X.e)) (N:↥((dS pos (aM es X.e)).any (·.1)=MP))
  (O:eval (.Call (.Attribute o m wM) (e::es) [] pos) X.e=(do
    let g <-eval o X.e
    mX wM.atName
    let (f,first) <-iV [g] (mJ g m pl)
    rC pos f first (dS pos (aM (e::es) X.e)) (lM pos (jG [] X.e))):=by rfl) :
  PE X (.Call (.Attribute o m wM) (e::es) [] pos) (acp C m sp zO E ta t):=by
 intro i s j H Q I h;show oJ (pl:=pl) (thn (y i s j H _ I h) λu T b=>?_) O;obtain⟨x,U,n,Y,a,dx,fs,ex,ea,l,q⟩:=b;subst ex;obtain rfl:u=bQ a:=Y;show Eo n ea c d l ?_;show mM (first:=[.ref a]) (h₀:=X.base) I.ok.mod.kin d.kp (thn (J pos i T j U _ n q) λus s2 b=>?_) L N
 obtain⟨vs,H2,I2,r,q2⟩:=b;show{I2.kIn,?_};show Ep (us:=.ref a::us) (vs:=.ref a::vs) F z D hd G I2 (.cons rfl r) q2
def Zr (i:PE X o ta)(c:Cls X.K C)(d:Ly X.K C m f)(F:ir X.p X.w X.K X.mg X.base CX k f fd ps sp)(j:Room k X.A)(n:Binds X.K fd ps ds)(hd:Vals zO ds)(r:r8 CX X E)
  (y:eval (.Call (.Attribute o m wM) [] [] pos) X.e=(do
    let g <-eval o X.e
    mX wM.atName
    let (f,first) <-iV [g] (mJ g m pl)
    rC pos f first (dS pos (aM [] X.e)) (lM pos (jG [] X.e))):=by rfl) :
  PE X (.Call (.Attribute o m wM) [] [] pos) (acp C m sp zO E ta tNil):=by
 intro z s D H Q I h;show oJ (pl:=pl) (thn (i z s D H _ I h) λu N G=>?_) y;obtain⟨x,O,b,J,a,T,fs,ex,L,l,q⟩:=G;subst ex;obtain rfl:u=bQ a:=J;show Eo b L c d l ?_;show PySem.W.callWith_K0 (first:=[.ref a]) b.kIn d.kp (Ep (us:=[.ref a]) (vs:=[.ref a]) F j n hd r b (.cons rfl .nil) q)
structure Mk (K:aF)(C f:MQ):Prop where
 makes:oU K C=MO
 init:cW K (.ref C) "__init__"=KE (KE (.ref f))
 fn:gJ K (.ref f)=MO
 kp:fK K (.ref C)=MO
def Zs (M:Mk X.K C f)(F:ir X.p X.w X.K X.mg X.base CX k f fd ps sp)(j:Room (k+1) X.A)(l:Binds X.K fd ps ds)(hd:Vals zO ds)
  (n:r8 CX X E) (I:Inv X c d H s) (r:Vals vs us)
  (h:∀x b,H x=MN->H b=MN->b≠x->sp (.ref x::(vs++zO)) (upd (upd H b (.own x)) x (.ins C b [])) (λv q=>v=.non/\Q (.ref x) q) E) :
  aJ (aV X.p X.w) X.A (call (.ref C) us) (EP X c d Q) X.xe s:=by
 have g:=h (‹s›+1) ‹s› (I.hok.fresh (pS _)) (I.hok.fresh (aI _)) (bH (jD _));have I2:=Inv.made (C:=C) I;have i:Vals (V.ref (‹s›+1)::(vs++zO)) (bQ (‹s›+1)::(us++ds)):=.cons rfl (r.append hd);have y:(bQ (‹s›+1)::us++ds).length=ps.length:=by
  have e:=i.length;rw[F.len _ _ _ _ g]at e;show e.symm
 show vD (Zq (f:=f) I.kIn M.makes M.init (beq_iff_eq.mp M.fn) (mL (F.run _ X.stack _ _ {bQ (‹s›+1)::us,[]} (bQ (‹s›+1)::(us++ds)) _ _ E (j.make C us []) (I2.env0.make C us []) (l _ (bQ (‹s›+1)::us) I2.kIn y) i g) λr s' a=>?_));cases r with
 |error e=>show n c d _ _ e s' I2 a
 |ok z=>
  cases z with
  |ret u=>
   obtain⟨v,H',D,G,J,L⟩:=I2.after a;subst J;show{G,{V.ref (‹s›+1),H',D,rfl,L}}
  |next=>show hV a
  |brk=>show hV a
  |cont=>show hV a
def aeg (M:Mk X.K C f)(F:ir X.p X.w X.K X.mg X.base CX k f fd ps sp)(b:Room (k+1) X.A)(c:Gl X x)(d:X.mg x=KE (.ref C))(g:Binds X.K fd ps ds)(hd:Vals zO ds)(i:r8 CX X E)
  (j:PA X (e::es) t) (l:↑((x == ("__debug__":Str))=MP)) (n:↥(aM (e::es) X.e=(MP,eval e X.e)::aM es X.e)) (u:↥((dS pos (aM es X.e)).any (·.1)=MP)) :
  PE X (.Call (.Name x p) (e::es) [] pos) (tMake C sp zO E t):=by
 intro y s z H Q I h;show iD (Br I c d ?_ l);show mM (h₀:=X.base) I.ok.mod.kin M.kp (thn (j pos y s z H _ I h) λus G D=>?_) n u;obtain⟨vs,J,a,r,q⟩:=D;show{a.kIn,?_};show Zs M F b g hd i a r q
end
structure fj (N P:AQ)(sc:mW):Prop where
 kind:sc.kind=.function
 co:sc.isCoroutine=MP
 gen:sc.isGenerator=MP
 nd:N.Nodup
 pre:N.take P.length=P
 par:∀x∈P,sc.names.lookup x=KE .local\/sc.names.lookup x=KE .cell
 nofree:∀y∈sc.names,y.2≠.free
theorem Ja {kindOf:Str->Option rD}:∀{binds:List (Str×aK)}{m:Str->AX},(∀v,(x,v) ∉ binds)->sW kindOf binds m x=m x
 | [],_,_=>rfl
 | (n,v)::r,m,h=>by
  unfold sW;rw[Ja λw hw=>h w (aT _ hw)]
  split;{have:x≠n:=(by rintro rfl;show h v aP);simp[this]};{rfl}
theorem Jb {kindOf:Str->Option rD}:∀{binds:List (Str×aK)}{m:Str->AX},(∀v,(x,v) ∉ binds)->sX kindOf binds m x=m x
 | [],_,_=>rfl
 | (n,v)::r,m,h=>by
  unfold sX;rw[Jb λw hw=>h w (aT _ hw)]
  split;{rfl};{have:x≠n:=(by rintro rfl;show h v aP);simp[this]}
theorem Jc {kindOf:Str->Option rD}:∀{P:AQ}{vs:AJ}{i:Nat}{m:Str->AX},P.Nodup->P[i]?=KE x->vs[i]?=KE v->kindOf x=KE .local->
  sW kindOf (P.zip vs) m x=KE v
 | [],_,_,_,_,h,_,_=>by simp at h
 |_::_,[],_,_,_,_,h,_=>by simp at h
 |p::P,w::vs,0,m,nd,a,b,hk=>by
  simp at a b;subst a;subst b;change sW kindOf ((p,w)::P.zip vs) m p=_;unfold sW;rw[Ja λv c=>(eG.mp nd).1 (rV c).1,MU hk];simp
 |p::P,w::vs,i+1,m,nd,a,b,hk=>by
  change sW kindOf ((p,w)::P.zip vs) m x=_;unfold sW;show Jc (i:=i) (eG.mp nd).2 (⇑a) (⇑b) hk
theorem Jd {kindOf:Str->Option rD}:∀{P:AQ}{vs:AJ}{i:Nat}{m:Str->AX},P.Nodup->P[i]?=KE x->vs[i]?=KE v->kindOf x≠KE .local->
  sX kindOf (P.zip vs) m x=KE v
 | [],_,_,_,_,h,_,_=>by simp at h
 |_::_,[],_,_,_,_,h,_=>by simp at h
 |p::P,w::vs,0,m,nd,a,b,hk=>by
  simp at a b;subst a;subst b;change sX kindOf ((p,w)::P.zip vs) m p=_;unfold sX;rw[Jb λv c=>(eG.mp nd).1 (rV c).1,MV hk];simp
 |p::P,w::vs,i+1,m,nd,a,b,hk=>by
  change sX kindOf ((p,w)::P.zip vs) m x=_;unfold sX;show Jd (i:=i) (eG.mp nd).2 (⇑a) (⇑b) hk
def start (N:AQ)(vs:DK):St:=vs.map KE++bC (N.length - vs.length) MN
def C9 (CX:CXT)(P:aQ)(w:bB)(K:aF)(mg:Str->AX)(base:MR)(N:AQ)(wB:Str)(scope:mW)(f:MQ)(cd:aK)(A:bX)(outer:List Env)(s:aG)(H:Hp)(E:XK):Cx where
 p:=P
 w:=w
 K:=K
 mg:=mg
 base:=base
 A:=A.deeper (oV wB scope ‹s› f cd)
 N:=N
 s₀:=s
 H₀:=H
 e:=oV wB scope ‹s› f cd
 outer:=outer
 stack:=oV wB scope ‹s› f cd::outer
 ex:=[]
 calm:=MO
 fn:=λ_=>MO
 pn:=[]
 xe:=λe s'=>aJ (aV P w) (A.deeper (oV wB scope ‹s› f cd)) (leaving (oV wB scope ‹s› f cd) e) (λ_ GD=>CX outer H s E e GD) (λe' GD=>CX outer H s E e' GD) s'
def L0 {a:mW}(h:a.names.lookup x=KE .cell):∃c,(cellsFrom n a.names []).lookup x=KE c:=by
 have q:=PySem.W.cellsFrom_some a.names n [] (.inl h);show kC.mp q
def We {CX:CXT}{P:aQ}{w:bB}{K:aF}{mg:Str->AX}{base:MR}{N ps:AQ}{l:Str}{d:mW}{f:MQ}{cd:aK}{A:bX}{outer:List Env}{s C:aG}{H:Hp}{E:XK}{us:AJ}{vs:DK}
  (S:fj N ps d) (hd:A.handled=MN) (e0:Env0 P w K mg base A outer s H) (L:vs.length=ps.length) (r:Vals vs us)
  (x:InCallC s ‹s› (sW (oV l d ‹s› f cd).kindOf (ps.zip us) λ_=>MN) (cellsFrom (‹s›+1) d.names []) (sX (oV l d ‹s› f cd).kindOf (ps.zip us) λ_=>MN) C) :
  Inv (C9 CX P w K mg base N l d f cd A outer s H E) [] (start N vs) H C:=by
 have O:ps.length<=N.length:=(by have:=NA pU S.pre;rw[bR]at this;lia);obtain⟨m,T,rfl,hk⟩:=x.done;have o:∀b:MQ,b ∉ (C9 CX P w K mg base N l d f cd A outer s H E).ex:=λb z=>MY (show b∈([]:CZ)from z) ∅;show⟨{e0.mod,S.kind,rfl,rfl,aI _,λy z c m g=>?_,λy hy=>?_,λy c _ h=>?_,λ_=>hd,Around.frames_deeper e0.frames,.inr #v[rfl,rfl],λb z=>MY z (o b),e0.bs,e0.bsz,λb _ _=>o b,λb z=>MY z (o b),e0.funs,e0.frf},
   rfl,e0.bare,Un.kept hk,{_,x.toInCall.ns,λi y v m g U=>?_},λy c h=>{_,x.cell y c h},e0.hok.fresh (aI _),λy c h=>?_,λp j=>MY (show p∈([]:BK)from j) ∅,e0.hok.kept hk,?_⟩
 ·show name_of_addr x.apart (kI m) (kI g)
 {have hy:d.names.lookup y=KE .cell\/d.names.lookup y=KE .free:=hy;rcases hy with hy | hy;{show L0 hy};{show MY rfl (S.nofree _ (kI hy))}};{show iK (x.above y c (kI h))}
 ·have hi:i < vs.length:=by
   unfold start at g;by_cases hi:i < vs.length;{show hi}
   ·rw[cN (⇑hi)]at g;rw[dN]at g
    split at g<;>cases g
  have I:vs[i]?=KE v:=by
   unfold start at g;rw[cA (⇑hi),aN]at g;cases e:vs[i]? with
   |none=>rw[e]at g;cases g
   |some a=>rw[e]at g;cases g;rfl
  obtain⟨u,D,J⟩:=r.get I;have j:ps[i]?=KE y:=by
   rw[<-S.pre,List.getElem?_take_of_lt ()];show m
  have G:ps.Nodup:=(by rw[<-S.pre];show S.nd.sublist (List.take_sublist _ _));show{u,J,?_};rcases S.par y (bG j)with k | k;{show .inl {k,Jc G j D k}};{obtain⟨c,e⟩:=L0 (n:=‹s›+1) k;show .inr {.inl k,c,e,?_};have q:=x.cell y c e;rw[Jd G j D (by change d.names.lookup y≠_;rw[k];decide)]at q;show q}
 {show e0.hok.fresh (iK (x.above y c (kI h)))};{unfold start;change _=N.length;rw[aH,aC,cY];lia}
def fn_of {CX:CXT}{P:aQ}{w:bB}{K:aF}{mg:Str->AX}{base:MR}{k:Nat}{f:MQ}{name g:Str}{c:Arguments}{body:List MT}{a:mW}{z kV C D i ct T:aK}{G U:Option MQ}
  {Y:Array AX}{N ps:AQ}{sp:Sp}(lk:K.lookup f=KE {T,U,.func (fV name g c body a z kV C D G i ct),Y}) (zN:mY K i g=MO) (S:fj N ps a)
  (len:∀vs H Q E,sp vs H Q E->vs.length=ps.length)
  (BZ:∀(A:bX)(outer:List Env) (s:aG) (H:Hp) (vs:DK) (Q:VK) (E:XK),Room k (A.deeper (oV g a ‹s› f i))->sp vs H Q E->∃t,PSs (C9 CX P w K mg base N g a f i A outer s H E) body t/\t { nx:=λ_ H'=>Q .non H',rt:=Q } (start N vs) H) :
  ir P w K mg base CX (k+1) f (fV name g c body a z kV C D G i ct) ps sp:=by
 show{len,λA outer s H args us vs Q E l e0 hb r L=>?_};have hl:=len _ _ _ _ L;have KX:K.In s.heap:=e0.mod.kin.keeps λb o e=>(e0.bs b o e).1;have m:s.heap.NoLimit:=e0.mod.nolimit.keeps λb o e=>(e0.bs b o e).1;have j:∀y∈ps.zip us,a.names.lookup y.1=KE .local\/(a.names.lookup y.1=KE .cell/\((cellsFrom (‹s›+1) a.names []).lookup y.1).isSome=MO):=λ⟨n,v⟩ hy=>by
  rcases S.par n (rV hy).1 with q | q;{show .inl q};{show .inr {q,PySem.W.cellsFrom_some _ _ _ (.inl q)}}
 show codeAny_call_function l.depth (KX _ _ lk) rfl S.co S.gen rfl (PySem.W.codeRec_of KX zN) (hb _ _ _ _ ?_);show wpAny_newFunctionEnv_cells S.kind j λenv he O x=>?_;subst he;show{m.keeps x.toInCall.keep,codeAny_func ?_};obtain⟨t,ht,hq⟩:=BZ A outer s H vs Q E (l.deeper _) L;have I:Inv (C9 CX P w K mg base N g a f i A outer s H E) [] (start N vs) H O:=We S l.hd e0 hl r x;show jF (ht [] O (start N vs) H _ I hq) (λfl s' hs=>?_) λe s' hs=>hs;have fin:∀{d:St}{H':Hp}{v:V}{u:aK},Inv (C9 CX P w K mg base N g a f i A outer s H E) [] d H' s'->RelV v u->Q v H'->CE outer P w H s Q u s':=
  λ{d H' v u} J p q=>#v[v,H',J.os,J.bare,J.base,J.hok,p,q]
 cases fl with
 |ret u=>
  obtain⟨v,d,H',J,p,q⟩:=hs;show fin J p q
 |next=>
  obtain⟨d,H',J,q⟩:=hs;show fin (v:=V.non) (u:=fR) J rfl q
 |brk=>
  obtain⟨_,_,_,q⟩:=hs;show hV q
 |cont=>
  obtain⟨_,_,_,q⟩:=hs;show hV q
section
variable {X:Cx}{x:Str}{p pos:Pos}{e:MS}{es:BW}{t:TA}{id T:String}{r:DK->Hp->VK->Prop}
def tCB (r:DK->Hp->VK->Prop)(t:TA):TE:=λa H Q=>t a H λvs b=>r vs b Q
def L3 (c:i9 X (.builtin id) r)(d:Gl X x)(f:X.mg x=MN)(g:dY x=KE (.builtin id))(i:PA X (e::es) t)(j:↑(x≠"__name__"))(l:↑((x == ("__debug__":Str))=MP))
  (m:↥(aM (e::es) X.e=(MP,eval e X.e)::aM es X.e)) (n:↥((dS pos (aM es X.e)).any (·.1)=MP)):PE X (.Call (.Name x p) (e::es) [] pos) (tCB r t):=by
 intro a s b H Q I h;show iD (j7 I d f g ?_ j l);show kW (thn (i pos a s b H _ I h) λus o q=>by obtain⟨vs,u,w,y,z⟩:=q;show c a o b u vs us Q w y z) m n
def Wf (c:i9 X (.type T) r)(d:Gl X x)(f:X.mg x=MN)(g:dY x=KE (.type T))(i:PA X (e::es) t)(j:↑(x≠"__name__"))(l:↑((x == ("__debug__":Str))=MP))
  (m:↥(aM (e::es) X.e=(MP,eval e X.e)::aM es X.e)) (n:↥((dS pos (aM es X.e)).any (·.1)=MP)):PE X (.Call (.Name x p) (e::es) [] pos) (tCB r t):=by
 intro a s b H Q I h;show iD (j7 I d f g ?_ j l);show eB (thn (i pos a s b H _ I h) λus o q=>by obtain⟨vs,u,w,y,z⟩:=q;show c a o b u vs us Q w y z) m n
end
end L2
namespace HT
open PySem PyProof.Rows
def lexLt:LQ->LQ->Bool
 | [],[]=>MP
 | [],_::_=>MO
 |_::_,[]=>MP
 |x::xs,y::ys=>if x=y then lexLt xs ys else decide (x < y)
def lexLt_cons (x y:Int)(xs ys:LQ):lexLt (x::xs) (y::ys)=if x=y then lexLt xs ys else decide (x < y):=rfl
def J3:lexLt [] []=MP:=rfl
def Gz (y:Int)(ys:LQ):lexLt [] (y::ys)=MO:=rfl
def G0 (x:Int)(xs:LQ):lexLt (x::xs) []=MP:=rfl
def Zt (A:bX)(s:aG)(a:Int)(t:Tok)(c:Int)(u:Tok):∃e,sY A s (.int a t) (.int c u) e/\(e=MO↔a=c):=
 {(a == c),SeqAt.EqAt.int_int a t c u,by simp}
def Zu (A:bX)(s:aG)(a:Int)(t:Tok)(c:Int)(u:Tok)(prog:aQ)(w:bB)(E:aK->aG->Prop)(Q:aK->aG->Prop)(h:Q (.bool (decide (a < c))) s) :
  aJ (aV prog w) A (richCompare .Lt (.int a t) (.int c u)) Q E s:=
 (PyProof.Rows.lt_int h:aJ (aV prog w) A (eE .Lt (.int a t) (.int c u)) Q E s)
section
open PySem.SeqAt
open PySem.AutoSeq1 (wpAny_loadPart')
open PySem.MeetsSeq PySem.MeetsSeq2 PySem.MeetsSeq3
def J4 (l b:MQ)(items items2:AW)(n O:Nat)(dd T:Option MQ)(U Y:Array AX)(ns p:LQ)(hi:lF items.toList ns)(J:lF items2.toList p) :
  Meets (hU.«tuple.__lt__» {[.ref l,.ref b],[]})
   (λ_ R s=>s.heap.get? l=KE { cls:=.type "tuple",dict:=dd,data:=.seq items n,slots:=U }/\s.heap.get? b=KE { cls:=.type "tuple",dict:=T,data:=.seq items2 O,slots:=Y }/\R (.ok (.ret (.bool (lexLt ns p)))) s):=
 .of_wp λprog w A R s h=>by
  obtain⟨r,g,d,z,os⟩:=s;obtain⟨hl,hb,h⟩:=h;have f2:=AutoSeq1.sub_tuple_tuple;have z1:items.size=ns.length:=(by rw[<-hi.length];simp);have z2:items2.size=p.length:=by rw[<-J.length];simp
  wp_walk using wpAny_loadPart' hl,wpAny_loadPart' hb,eY _ (λrest b s'=>b.1=MN/\s'=#v[r,g,d,z,os]/\∃vs ws f i,rest=vs.zip ws/\lF vs f/\lF ws i/\f.length+items2.size=i.length+items.size/\R (.ok (.ret (.bool (lexLt f i)))) #v[r,g,d,z,os]) _
  case turn=>
   intro D rest b s' E;obtain⟨y,x⟩:=D;obtain⟨G,rfl,vs,ws,f,i,hz,H,C,j,hR⟩:=E;cases H with
   |nil=>rw[List.zip_nil_left]at hz;cases hz
   |cons a t m=>
    cases C with
    |nil=>rw[List.zip_nil_right]at hz;cases hz
    |cons c u o=>
     rw[kX]at hz;injection hz with CA BF;injection CA with hy hx;subst hy hx;rw[lexLt_cons]at hR;simp only[aW]at j;obtain⟨e,he,L⟩:=Zt A.in1 #v[r,g,d,z,os] a t c u;show aA (he prog w _ _ ?_);cases e with
     |true=>
      rw[MU (L.mp rfl)]at hR
      wp_walk
      show{rfl,rfl,_,_,_,_,BF,m,o,(),hR}
     |false=>
      rw[MV (λq=>MY (L.mpr q) aO)]at hR;have I:=Zu A.in1 #v[r,g,d,z,os] a t c u prog w
      wp_walk using I
      show{_,rfl,by simpa using hR}
  case fin=>
   intro D s' E;obtain⟨b1,b2⟩:=D;obtain⟨G,rfl,vs,ws,f,i,hz,H,C,j,hR⟩:=E;simp only at G;subst G;have N:lexLt f i=decide (items.size < items2.size):=by
    cases H with
    |nil=>
     cases C with
     |nil=>
      simp only[eW]at j;rw[J3];show(MW ()).symm
     |cons c u hw=>
      simp only[eW,aW]at j;rw[Gz];show(MX ()).symm
    |cons a t N=>
     cases C with
     |nil=>
      simp only[eW,aW]at j;rw[G0];show(MW ()).symm
     |cons c u hw=>
      rw[kX]at hz;cases hz
   rw[N]at hR
   wp_walk
   show{_,rfl,by simpa[Builtin.Tuple.tupleCompareSizes]using hR}
  case h=>
   show{rfl,rfl,items.toList,items2.toList,ns,p,rfl,hi,J,(),h}
end
section
variable {prog:aQ}{w:bB}{A:bX}{E:aK->aG->Prop}{s:aG}
def lt_tupInts (j:rR s.heap l items)(m:rR s.heap b items2)(hi:lF items.toList ns)(o:lF items2.toList a)
  (p:A.units < cK) (h:Q (.bool (lexLt ns a)) s):aJ (aV prog w) A (eE .Lt (.ref l) (.ref b)) Q E s:=by
 obtain⟨⟨cls,dd,data,q⟩,c,d,n,hd⟩:=id j;obtain⟨⟨e,r,data2,u⟩,f,g,y,i⟩:=id m;simp only at d hd g i;subst d hd g i;show richCompare_meets_room (op:=.Lt) {_,c,rfl} {_,f,rfl} PySem.F.slot_tuple_lt PySem.F.entry_tuple_lt (PySem.F.args_tuple_lt_2 _ _) (J4 l b items items2 n y dd r q u ns a hi o)
  {c,f,show mT (lexLt ns a)≠Value.notImplemented/\Q (.bool (lexLt ns a)) s from{(λx=>nomatch x),h}} p
def cat_tup (q:rR s.heap t vs.toArray)(r:rR s.heap b ws.toArray)(d:vs≠[])
  (u:ws=[]->Q (.ref t) s) (x:ws≠[]->Q (.ref ‹s›) { s with heap:=s.heap.push { cls:=.type "tuple",data:=.seq (vs++ws).toArray } })
  (hsz:vs.length+ws.length<=sizeLine):aJ (aV prog w) A (eC .Add (.ref t) (.ref b)) Q E s:=by
 obtain⟨⟨cls,dd,data,f⟩,a,g,n,hd⟩:=id q;obtain⟨⟨i,j,data2,l⟩,c,m,o,p⟩:=id r;simp only at g hd m p;subst g hd m p;have e:vs.toArray++ws.toArray=(vs++ws).toArray:=∅;by_cases hw:ws=[]
 ·show uE {_,a,rfl} {_,c,rfl} rE tQ nT nI (mN _ _)
   (tuple_addW1 t b vs.toArray ws.toArray n o dd j f l (⇑d) (by simp[hw])) {a,c,u hw}
 ·show uE {_,a,rfl} {_,c,rfl} rE tQ nT nI (mN _ _)
   (tuple_addW2 t b vs.toArray ws.toArray n o dd j f l (⇑d) (⇑hw) (by rw[aL,aL];show hsz)) {a,c,?_}
  rw[e];show x hw
def sIx (n d:Nat):AK->Nat
 |none=>d
 |some v=>if v < 0 then (v+(n:Int)).toNat else min v.toNat n
def sIx_none (n d:Nat):sIx n d MN=d:=rfl
def sIx_nat (n d k:Nat):sIx n d (KE (k:Int))=min k n:=by
 change(if (k:Int) < 0 then ((k:Int)+(n:Int)).toNat else min (k:Int).toNat n)=min k n
 rw[MV (),bT]
def aik (n d:Nat)(hd:d<=n)(o:AK):sIx n d o<=n:=by
 cases o with
 |none=>show hd
 |some v=>
  change(if v < 0 then (v+(n:Int)).toNat else min v.toNat n)<=n
  by_cases a:v < 0;{rw[MU a];lia};{rw[MV a];show rF _ _}
def R7 (v:Int)(n d:Nat):(if v < 0 then max (v+(n:Int)) 0 else min v (n:Int))=((sIx n d (KE v):Nat):Int):=by
 change(if v < 0 then max (v+(n:Int)) 0 else min v (n:Int))=(((if v < 0 then (v+(n:Int)).toNat else min v.toNat n):Nat):Int)
 by_cases a:v < 0;{simp only[MU a];lia};{simp only[MV a];lia}
def Tz (lo hi:AK)(n:Nat):gE lo hi 1 (n:Int)=(((sIx n 0 lo:Nat):Int),((sIx n n hi:Nat):Int)):=by
 have a:¬((1:Int) < 0):=();unfold gE;simp only[a,if_false];show sZ ?_ ?_
 ·cases lo with
  |none=>rfl
  |some v=>show R7 v n 0
 ·cases hi with
  |none=>rfl
  |some v=>show R7 v n n
def T1 (i j:Nat):eQ (i:Int) (j:Int) 1=j - i:=by
 unfold eQ;have a:(1:Int) > 0:=();simp only[a,if_true,uF]
 split<;>lia
def Er (p:oW v o)(h:Q o s):aJ (aV prog w) A (Builtin.Slice.slicePartIndex v) Q E s:=by
 cases p with
 |none=>show pP h
 |int i t=>show slicePart_int h
def uo {lo hi:AK}{n:Nat}{Q:Int×Int×Nat->aG->Prop}(hs:s.heap.IsSliceOf e c d .none)(pl:oW c lo)(f:oW d hi)
  (h:Q (((sIx n 0 lo:Nat):Int),1,sIx n n hi - sIx n 0 lo) s):aJ (aV prog w) A (jR (.ref e) (pure (n:Int))) Q E s:=by
 obtain⟨os,a,g,b⟩:=id hs;unfold jR Builtin.Slice.sliceFields;show aA (aA (dF a b (x:=c) rfl (aA (dF a b (x:=d) rfl (aA (dF a b (x:=.none) rfl (wpAny_pure ?_)))))));show aA (pP ?_);change aJ _ _ (if ((1:Int) == 0)=MO then _ else _) _ _ s
 rw[MV #v[]];show aA (Er pl (aA (Er f (aA (wpAny_pure ?_)))));change aJ _ _ (match gE lo hi 1 (n:Int)with | (lo,hi)=>pure (lo,(1:Int),eQ lo hi 1)) _ _ s
 rw[Tz lo hi n];change aJ _ _ (pure (((sIx n 0 lo:Nat):Int),(1:Int),eQ ((sIx n 0 lo:Nat):Int) ((sIx n n hi:Nat):Int) 1)) _ _ s;rw[T1];show wpAny_pure h
def Zv (xs:AW)(i k:Nat):((bA k).filterMap λ(m:Nat)=>xs[((i:Int)+(m:Int) * 1).toNat]?).toArray=((xs.toList.drop i).take k).toArray:=by
 have e:(λ(m:Nat)=>xs[((i:Int)+(m:Int) * 1).toNat]?)=λm=>xs[i+m]?:=by
  funext m
  have:((i:Int)+(m:Int) * 1).toNat=i+m:=();rw[this]
 rw[e];have:=pick_run xs i k;rw[mO]at this;have a:((λx=>xs[x]?)∘λx=>i+x)=λm=>xs[i+m]?:=rfl;rw[a]at this;rw[this]
def getItem_tuple_cut {items:AW}{lo hi:AK}{Q:aK->aG->Prop}(a:rR s.heap t items)(hs:s.heap.IsSliceOf c d e .none)(pl:oW d lo)(f:oW e hi)
  (hw:¬(sIx items.size 0 lo=0/\sIx items.size items.size hi=items.size))
  (h:Q (.ref ‹s›) { s with heap:=s.heap.push { cls:=.type "tuple",data:=.seq ((items.toList.drop (sIx items.size 0 lo)).take (sIx items.size items.size hi - sIx items.size 0 lo)).toArray } })
  (hsz:items.size<=sizeLine):aJ (aV prog w) A (mZ (.ref t) (.ref c)) Q E s:=by
 have b:sizeOk (.seq ((items.toList.drop (sIx items.size 0 lo)).take (sIx items.size items.size hi - sIx items.size 0 lo)).toArray):=by
  change((items.toList.drop (sIx items.size 0 lo)).take (sIx items.size items.size hi - sIx items.size 0 lo)).toArray.size<=sizeLine;rw[aL,bR,dI,cM];lia
 have n:sIx items.size items.size hi<=items.size:=aik _ _ (aI _) hi;obtain⟨os,g,i,o⟩:=id hs;have j:s.TypeIs (.ref c) "slice":=#v[os,g,i];unfold mZ
 try with_reducible show dA ?_
 first | show aA (wpAny_pure ?_) | skip
 show aA (qR a.typeIs #v[] ?_);show aA (dO (name:=dG "__getitem__") a.typeIs dC (dD dC a.typeIs pK ?_ (qB _ _)));change aJ _ _ (jS (.ref t) >>= _) _ _ s;show aA (tupleItemsOf_ a ?_);show aA (iN j ?_);rw[MU #v[]];show aA (uo hs pl f ?_);have l:¬((((sIx items.size 0 lo:Nat):Int) == 0 && (1:Int) == 1 && (sIx items.size items.size hi - sIx items.size 0 lo) == items.size)=MO):=by
  intro q;rw[cI,cI]at q;have p:((sIx items.size 0 lo:Nat):Int)=0:=eq_of_beq q.1.1;have r:sIx items.size items.size hi - sIx items.size 0 lo=items.size:=eq_of_beq q.2;show hw {(),()}
 change aJ _ _ (if (((sIx items.size 0 lo:Nat):Int) == 0 && (1:Int) == 1 && (sIx items.size items.size hi - sIx items.size 0 lo) == items.size)=MO then _ else _) _ _ s
 rw[MV l,Zv]
 first
  |show aA (m:=fM _) (dW (wpAny_pure {_,rfl,wpAny_pure h}) b)
  |show aA (m:=fM _) (dW (aA (wpAny_pure (wpAny_pure {_,rfl,wpAny_pure h}))) b)
  |show aA (aA (m:=fM _) (dW (wpAny_pure (wpAny_pure {_,rfl,wpAny_pure h})) b))
  |show aA (aA (m:=fM _) (dW (wpAny_pure {_,rfl,wpAny_pure h}) b))
end
end HT
namespace L2
open PySem PySem.Spec PyProof.Rows
abbrev TO:=St->Hp->(AK->Hp->Prop)->Prop
def PO (X:Cx)(e:Option MS)(t:TO):Prop:=
 ∀b s a H Q,Inv X b a H s->t a H Q->
  aJ (aV X.p X.w) X.A (evalPart e X.e) (λu s'=>∃o H',Inv X b a H' s'/\oW u o/\Q o H') X.xe s
def aeh:TO:=λ_ H Q=>Q MN H
def tPart (t:TE):TO:=λa H Q=>t a H λx b=>∃i,x=.int i/\Q (KE i) b
section
variable {X:Cx}{e:MS}{te:TE}{lo hi:Option MS}{tl th:TO}{pos p2:Pos}
def aei:PO X MN aeh:=by
 intro a s b H Q I h;rw[tR];show wpAny_pure {MN,H,I,.none,h}
def aej (h:PE X e te):PO X (KE e) (tPart te):=by
 intro a s b H Q I hw;rw[evalPart_some];show thn (h a s b H _ I hw) λu l c=>?_;obtain⟨x,d,f,g,j⟩:=c;obtain⟨i,rfl,q⟩:=j;obtain⟨t,rfl⟩:=g;show{KE i,d,f,.int i t,q}
def SlR (X:Cx)(r:V->AK->AK->Hp->VK->Prop):Prop:=
 ∀a s b H x v c d lo hi f Q,Inv X a b H s->RelV x v->s.heap.IsSliceOf f c d .none->oW c lo->oW d hi->r x lo hi H Q->
  ∃T id,typeLookup (.type T) "__getitem__"=pure (KE (.builtin id))/\s.TypeIs v T/\aJ (aV X.p X.w) X.A (mZ v (.ref f)) (EP X a b Q) X.xe s
def tSl (r:V->AK->AK->Hp->VK->Prop)(te:TE)(tl th:TO):TE:=λa H Q=>te a H λx b=>tl a b λl c=>th a c λu d=>r x l u d Q
def Zw (m:SlR X r)(n:PE X e te)(o:PO X lo tl)(p:PO X hi th):PE X (.Subscript e (.Slice lo hi MN p2) pos) (tSl r te tl th):=by
 intro c s d H Q I h;show Subscript_ (thn (n c s d H _ I h) λv y f=>?_);obtain⟨x,z,C,D,E⟩:=f;show wpAny_Slice (thn (o c y d z _ C E) λg G f=>?_);obtain⟨l,J,I2,pl,L⟩:=f;show thn (p c G d J _ I2 L) λi a f=>?_;obtain⟨u,j,N,O,U⟩:=f;rw[tR];show wpAny_pure ?_;have Y:Inv X c d j { a with heap:=a.heap.push { cls:=.type "slice",data:=.fields #[g,i,.none] } }:=N.kept (t':=a.toks) λb ob q=>aE _ q;obtain⟨T,id,hT,ht,hg⟩:=m c { a with heap:=a.heap.push { cls:=.type "slice",data:=.fields #[g,i,.none] } } d j x v g i l u ‹a› Q Y D (Heap.IsSliceOf.new ..) pl O U;change aJ (aV X.p X.w) X.A (tS e (.Slice lo hi MN p2) v (.ref ‹a›)) (EP X c d Q) X.xe { a with heap:=a.heap.push { cls:=.type "slice",data:=.fields #[g,i,.none] } };show tail_any (ops:=[.ref ‹a›,v]) ht hT hg (by with_unfolding_all rfl)
def xf (xs:DK)(lo hi:AK):DK:=(xs.drop (HT.sIx xs.length 0 lo)).take (HT.sIx xs.length xs.length hi - HT.sIx xs.length 0 lo)
def Cv (xs:DK)(lo hi:AK):(xf xs lo hi).length<=xs.length:=by
 unfold xf;rw[bR,dI];lia
def rSlT (K:aF):V->AK->AK->Hp->VK->Prop:=λx lo hi H Q=>∃a xs,x=.ref a/\SqT K H a xs/\
 ¬(HT.sIx xs.length 0 lo=0/\HT.sIx xs.length xs.length hi=xs.length)/\∀p,H p=MN->Q (.ref p) (upd H p (.tup (xf xs lo hi)))
def ail:SlR X (rSlT X.K):=by
 intro j s l H x v m n lo hi p Q I f hs pl g h;obtain⟨a,xs,rfl,i,hw,q⟩:=h;cases f;obtain⟨its,r,d,hz⟩:=I.tuple i;have c:its.toArray.size=xs.length:=(by rw[aL];show r.length.symm);show{"tuple",_,dC.lookup,d.typeIs,?_};show HT.getItem_tuple_cut d hs pl g (by rw[c];show hw) ?_ (by rw[c];show hz);rw[c];show⟨.ref ‹s›,_,I.laid (t':=s.toks) (o:=.tup (xf xs lo hi)) (λb u q=>aE _ q) (aI _) ?_,rfl,q _ (I.hok.fresh (aI _))⟩;show{aX (Cv xs lo hi) hz,_,(r.drop (HT.sIx xs.length 0 lo)).take (HT.sIx xs.length xs.length hi - HT.sIx xs.length 0 lo),uG _ _}
def acq (K:aF):R2:=λx y H Q=>∃a b xs ys,x=.ref a/\y=.ref b/\SqT K H a xs/\SqT K H b ys/\xs≠[]/\xs.length+ys.length<=sizeLine/\
 (ys=[]->Q (.ref a) H)/\(ys≠[]->∀p,H p=MN->Q (.ref p) (upd H p (.tup (xs++ys))))
def Vals.nil_iff (r:Vals xs us):us=[]↔xs=[]:=by
 cases r with
 |nil=>simp
 |cons _ _=>simp
def aek:OpR X (eC .Add) (acq X.K):=by
 intro r s A H x y v u Q I f g h;obtain⟨a,b,xs,ys,rfl,rfl,i,j,l,hz,m,n⟩:=h;cases f;cases g;obtain⟨its,d,p,_⟩:=I.tuple i;obtain⟨C,c,p2,_⟩:=I.tuple j;show HT.cat_tup p p2 (λz=>l (d.nil_iff.mp z)) (λz=>{.ref a,H,I,rfl,m (c.nil_iff.mp z)}) (λz=>?_) (by rw[<-d.length,<-c.length];show hz);show⟨.ref ‹s›,_,I.laid (t':=s.toks) (o:=.tup (xs++ys)) (λb D q=>aE _ q) (aI _) ?_,rfl,n (λw=>z (c.nil_iff.mpr w)) _ (I.hok.fresh (aI _))⟩;show{by rw[aH];show hz,_,d.append c,uG _ _}
end
def ixN (n:Nat)(i:Int):Option Nat:=if 0<=i then (if i < n then KE i.toNat else MN)else if -(n:Int)<=i then KE (i+n).toNat else MN
def atI {a:Type}(xs:List a)(i:Int):Option a:=(ixN xs.length i).bind λj=>xs[j]?
def G1 (h:ixN n i=KE j):seqIndex? i n=KE j/\j < n/\-(n:Int)<=i/\i < n:=by
 unfold ixN at h;by_cases h0:0<=i;{rw[MU h0]at h;by_cases a:i < n;{rw[MU a]at h;have e:i.toNat=j:=cB h;show{by rw[uT h0 a,e],(),(),a}};{rw[MV a]at h;cases h}};{rw[MV h0]at h;by_cases a:-(n:Int)<=i;{rw[MU a]at h;have e:(i+n).toNat=j:=cB h;show{by rw[seqIndex_neg () a,e],(),a,()}};{rw[MV a]at h;cases h}}
def G3 {a:Type}{xs:List a}{i:Int}{v:a}(h:atI xs i=KE v):∃j,seqIndex? i xs.length=KE j/\xs[j]?=KE v/\j < xs.length/\-(xs.length:Int)<=i/\i < xs.length:=by
 unfold atI at h;cases e:ixN xs.length i with
 |none=>rw[e]at h;cases h
 |some j=>
  rw[e]at h;obtain⟨b,c,d,f⟩:=G1 e;show#v[j,b,h,c,d,f]
def Zx (xs:List a)(v:a):atI (xs++[v]) (-1)=KE v:=by
 have b:(xs++[v]).length=xs.length+1:=∅;have e:ixN (xs++[v]).length (-1)=KE xs.length:=by
  unfold ixN;rw[b,MV #v[],MU ()];congr 1;lia
 unfold atI;rw[e];change(xs++[v])[xs.length]?=KE v;simp
def G4 (b:MS):Prop:=∀o i,subscripted b MP o i=operate [o,i] (mZ o i)
def IxR (X:Cx)(r:R2):Prop:=
 ∀value slice a s b H x y v u Q,Inv X a b H s->RelV x v->RelV y u->r x y H Q->
  subscripted slice MP v u=operate [v,u] (mZ v u)->aJ (aV X.p X.w) X.A (tS value slice v u) (EP X a b Q) X.xe s
def MtR (X:Cx)(id:String)(r:V->DK->Hp->VK->Prop):Prop:=
 ∀a s b H x xs v us Q,Inv X a b H s->RelV x v->Vals xs us->r x xs H Q->
  aJ (aV X.p X.w) X.A (call (.builtin id) (v::us)) (EP X a b Q) X.xe s
section
variable {X:Cx}{a b:MS}{ta tb:TE}{pos:Pos}
def T3 {r:R2}(c:IxR X r)(d:PE X a ta)(e:PE X b tb)(hs:G4 b):PE X (.Subscript a b pos) (tOp r ta tb):=by
 intro f s g H Q I h;show Subscript_ (Zi d e I h λv u i x y j I2 l m q=>c a b f i g j x y v u Q I2 l m q (hs _ _))
def rIxL (K:aF):R2:=λx y H Q=>∃p xs i v,x=.ref p/\y=.int i/\SqL K H p xs/\atI xs i=KE v/\Q v H
def rIxT (K:aF):R2:=λx y H Q=>∃p xs i v,x=.ref p/\y=.int i/\SqT K H p xs/\atI xs i=KE v/\Q v H
def rIxS:R2:=λx y H Q=>∃z i c,x=.str z/\y=.int i/\z.length<=sizeLine/\atI z.cps.toList i=KE c/\Q (.str #v[#[c]]) H
def G5:IxR X (rIxL X.K):=by
 intro value slice e s f H x y v u Q I l m h hs;obtain⟨p,xs,i,z,rfl,rfl,n,o,q⟩:=h;cases l;obtain⟨t,rfl⟩:=m;obtain⟨its,r,pl,hz⟩:=I.list n;obtain⟨j,c,A,J,C,D⟩:=G3 o;obtain⟨w,g,E⟩:=r.get A;have G:=r.length;have L:=ng;have fin:EP X e f Q w s:=#v[z,H,I,E,q];by_cases h0:0<=i
 ·have d:i.toNat=j:=by
   rw[uT h0 D]at c;show cB c
  show item_listR pl.isList h0 () (by rw[d];simpa using g) fin hs
 ·have d:(i+(its.toArray.size:Int)).toNat=j:=by
   rw[seqIndex_neg () C]at c;rw[aL,<-G];show cB c
  show nU (x:=w) pl.isList.typeIs slot_list_getitem.lookup
   (wpAny_getItem_list_neg (Q:=λr s'=>r=w/\EP X e f Q r s') pl.isList () (by rw[aL]<;>lia) () (by rw[d];simpa using g) #v[rfl,fin]) hs
def ain:IxR X (rIxT X.K):=by
 intro value slice c s d H x y v u Q I e f h hs;obtain⟨p,xs,i,z,rfl,rfl,g,l,q⟩:=h;cases e;obtain⟨t,rfl⟩:=f;obtain⟨its,r,pl,hz⟩:=I.tuple g;obtain⟨j,m,n,D,E,G⟩:=G3 l;obtain⟨w,o,A⟩:=r.get n;have C:=r.length;have J:=ng;have fin:EP X c d Q w s:=#v[z,H,I,A,q];show nU (x:=w) pl.typeIs slot_tuple_getitem.lookup
  (getItem_tuple (j:=j) (Q:=λr s'=>r=w/\EP X c d Q r s') pl () () (by rw[aL,<-C];show m) (⇑o) #v[rfl,fin]) hs
def aio:IxR X rIxS:=by
 intro value slice w s A H x y v u Q I e f h hs;obtain⟨z,i,c,rfl,rfl,hz,g,q⟩:=h;obtain⟨t,rfl⟩:=e;obtain⟨t',rfl⟩:=f;obtain⟨j,d,l,C,m,n⟩:=G3 g;have o:z.cps.toList.length=z.length:=(by simp[Str.length]);rw[o]at d m n;have D:=ng;show tail_any (vE s z t) slot_str_getitem.lookup (getItem_str (c:=c) (by
   have p:decide (i < -(2 ^ 63:Int))=MP:=MW ();have r:decide (i>=2 ^ 63)=MP:=MW ();rw[p,r,Bool.or_false]) (by rw[d];simpa using l) {.str #v[#[c]],H,I.tok _,{_,rfl},q}) hs
def T4 (its:AJ)(n j:Nat)(u:aK):fA (·.setIfInBounds j u) { cls:=.type "list",data:=.seq its.toArray n }={ cls:=.type "list",data:=.seq (its.set j u).toArray n }:=by
 simp[fA]
theorem Inv.lst {c:BK}{d:St}{H:Hp}{s:aG}{p:MQ}{xs:DK}(I:Inv X c d H s)(h:H p=KE (.lst xs)) :
  ∃its n,Vals xs its/\s.heap.get? p=KE { cls:=.type "list",data:=.seq its.toArray n }/\xs.length<=sizeLine:=by
 obtain⟨z,its,n,r,e⟩:=I.hok p _ h;show#v[its,n,r,e,z]
def Inv.lstUpd {s:aG}{xs ys:DK}{its its':AJ}(I:Inv X g i H s)(h:H p=KE (.lst xs))
  (j:s.heap.get? p=KE { cls:=.type "list",data:=.seq its.toArray n }) (c:f { cls:=.type "list",data:=.seq its.toArray n }={ cls:=.type "list",data:=.seq its'.toArray d }) (r:Vals ys its') (hz:ys.length<=sizeLine) (t:Nat) :
  Inv X g i (upd H p (.lst ys)) { s with heap:=s.heap.update p f,toks:=t }:=by
 have e:(s.heap.update p f).get? p=KE { cls:=.type "list",data:=.seq its'.toArray d }:=by
  rw[gH f j (by rw[c]<;>rfl),c]
 show I.write (x:=p) (e:=p) (by rw[h];trivial) (.inl rfl) (λb u l q=>(Heap.get?_update_other _ _ (Ne.symm l)).trans q) {_,e} ?_;show#v[hz,its',d,r,e]
def acr:V->V->V->Hp->(Hp->Prop)->Prop:=λo i v H Q=>∃p xs k j,o=.ref p/\i=.int k/\H p=KE (.lst xs)/\ixN xs.length k=KE j/\Q (upd H p (.lst (xs.set j v)))
def L4:Tj X acr:=by
 intro w s x H o i v D iv u Q I y z A h;obtain⟨p,xs,k,j,rfl,rfl,f,C,q⟩:=h;cases y;obtain⟨t,rfl⟩:=z;obtain⟨its,n,r,d,hz⟩:=I.lst f;obtain⟨c,E,g,l⟩:=G1 C;have e:=r.length;have G:=ng;have m:Inv X w x (upd H p (.lst (xs.set j v))) { s with heap:=s.heap.update p (fA (·.setIfInBounds j u)) }:=
  I.lstUpd f d (T4 its n j u) (r.set A j) (by rw[hI];show hz) s.toks
 by_cases h0:0<=k
 ·have hk:k.toNat=j:=by
   rw[uT h0 l]at c;show cB c
  show PySem.W.ki_setAt d h0 () (by rw[aL,<-e];show l) (by rw[hk];show{_,m,q})
 ·have hk:(k+(its.toArray.size:Int)).toNat=j:=by
   rw[seqIndex_neg () g]at c;rw[aL,<-e];show cB c
  show PySem.W.ki_setBack d () (by rw[aL,<-e];show g) () (by rw[hk];show{_,m,q})
def L5 (lo hi:AK)(n:Nat):(lZ lo hi MN n).1=((HT.sIx n 0 lo:Nat):Int)/\(lZ lo hi MN n).2.1=((HT.sIx n n hi:Nat):Int)/\(lZ lo hi MN n).2.2=1:=by
 show{?_,?_,rfl}
 ·cases lo with
  |none=>simp[lZ,HT.sIx]
  |some i=>
   simp only[lZ,HT.sIx,Option.getD_none,show(1:Int) > 0 by decide,if_true];by_cases h:i < 0;{simp only[h,if_true]<;>lia};{simp only[h,if_false]<;>lia}
 ·cases hi with
  |none=>simp[lZ,HT.sIx]
  |some i=>
   simp only[lZ,HT.sIx,Option.getD_none,show(1:Int) > 0 by decide,if_true];by_cases h:i < 0;{simp only[h,if_true]<;>lia};{simp only[h,if_false]<;>lia}
def J5 (its:AJ)(lo hi:AK):slicePick its.toArray lo hi MN=((its.drop (HT.sIx its.length 0 lo)).take (HT.sIx its.length its.length hi - HT.sIx its.length 0 lo)).toArray:=by
 obtain⟨c,d,e⟩:=L5 lo hi its.toArray.size;unfold slicePick;rw[c,d,e];simp only[sliceRange_one,pick_run,aL]<;>rfl
def rSlL (K:aF):V->AK->AK->Hp->VK->Prop:=λx lo hi H Q=>∃a xs,x=.ref a/\SqL K H a xs/\∀p,H p=MN->Q (.ref p) (upd H p (.lst (xf xs lo hi)))
def R8:SlR X (rSlL X.K):=by
 intro i s j H x v l m lo hi n Q I d hs pl e h;obtain⟨a,xs,rfl,f,q⟩:=h;cases d;obtain⟨its,r,c,hz⟩:=I.list f;have g:=r.length;show{"list",_,slot_list_getitem.lookup,c.isList.typeIs,?_};show wpAny_getItem_list_slice c.isList hs pl e .none ∅ ?_ (by rw[aL]<;>lia);rw[J5,<-g];show⟨.ref ‹s›,_,I.laid (t':=s.toks) (o:=.lst (xf xs lo hi)) (λb p q=>aE _ q) (aI _) ?_,rfl,q _ (I.hok.fresh (aI _))⟩;show{aX (Cv xs lo hi) hz,_,0,(r.drop (HT.sIx xs.length 0 lo)).take (HT.sIx xs.length xs.length hi - HT.sIx xs.length 0 lo),aZ _ rfl}
def pf:V->Bool
 | .non=>MO
 | .bl _=>MO
 | .int _=>MO
 | .str _=>MO
 |_=>MP
def eqV:V->V->Bool
 | .non,.non=>MO
 | .bl a,.bl b=>a == b
 | .bl a,.int b=>(if a then 1 else 0) == b
 | .int a,.bl b=>a == (if b then 1 else 0)
 | .int a,.int b=>a == b
 | .str a,.str b=>a == b
 |_,_=>MP
def Wg (d:RelV y u)(c:RelV x v)(f:pf y=MO)(e:pf x=MO):sY A s u v (eqV y x):=by
 cases y with
 |non=>
  cases d;cases x with
  |non=>cases c;show SeqAt.EqAt.same _
  |bl b=>cases c;show SeqAt.EqAt.none_bool b
  |int b=>obtain⟨t,rfl⟩:=c;show SeqAt.EqAt.none_int b t
  |str b=>obtain⟨t,rfl⟩:=c;show SeqAt.EqAt.none_str b t
  |_=>show MY (show MP=MO from e) aO
 |bl a=>
  cases d;cases x with
  |non=>cases c;show SeqAt.EqAt.bool_none a
  |bl b=>cases c;show SeqAt.EqAt.bool_bool a b
  |int b=>obtain⟨t,rfl⟩:=c;show SeqAt.EqAt.bool_int a b t
  |str b=>obtain⟨t,rfl⟩:=c;show SeqAt.EqAt.bool_str a b t
  |_=>show MY (show MP=MO from e) aO
 |int a=>
  obtain⟨t',rfl⟩:=d;cases x with
  |non=>cases c;show SeqAt.EqAt.int_none a t'
  |bl b=>cases c;show SeqAt.EqAt.int_bool a t' b
  |int b=>obtain⟨t,rfl⟩:=c;show SeqAt.EqAt.int_int a t' b t
  |str b=>obtain⟨t,rfl⟩:=c;show SeqAt.EqAt.int_str a t' b t
  |_=>show MY (show MP=MO from e) aO
 |str a=>
  obtain⟨t',rfl⟩:=d;cases x with
  |non=>cases c;show SeqAt.EqAt.str_none a t'
  |bl b=>cases c;show SeqAt.EqAt.str_bool a t' b
  |int b=>obtain⟨t,rfl⟩:=c;show SeqAt.EqAt.str_int a t' b t
  |str b=>obtain⟨t,rfl⟩:=c;show SeqAt.EqAt.str_str a t' b t
  |_=>show MY (show MP=MO from e) aO
 |_=>show MY (show MP=MO from f) aO
def eqU (x:V)(u:aK):Bool:=match u with
 | .none=>eqV .non x
 | .bool b=>eqV (.bl b) x
 | .int i _=>eqV (.int i) x
 | .str z _=>eqV (.str z) x
 |_=>MP
def Wh (r:RelV y u)(f:pf y=MO):eqU x u=eqV y x:=by
 cases y with
 |non=>cases r;rfl
 |bl b=>cases r;rfl
 |int i=>obtain⟨t,rfl⟩:=r;rfl
 |str z=>obtain⟨t,rfl⟩:=r;rfl
 |_=>show MY (show MP=MO from f) aO
theorem L6 (c:RelV x v)(d:pf x=MO):∀{xs us},Vals xs us->xs.all pf=MO->∀u∈us,sY A s u v (eqU x u)
 |_,_,.nil,_=>λu hu=>by cases hu
 |y::xs,u::us,.cons r t,f=>λe hu=>by
  rw[qI,cI]at f;rcases aY.mp hu with rfl | hu;{rw[Wh r f.1];show Wg r c f.1 d};{show L6 c d t f.2 e hu}
def uq:i9 X (.builtin "len") (λxs H Q=>∃p ys,xs=[.ref p]/\(SqL X.K H p ys\/SqT X.K H p ys)/\Q (.int ys.length) H):=by
 intro f s g H xs us Q I r h;obtain⟨p,ys,rfl,hq,q⟩:=h;obtain⟨u,rfl,e⟩:=jg r;cases e;have i:=ng;rcases hq with hq | hq;{obtain⟨its,c,pl,hz⟩:=I.list hq;have d:=c.length;show Calls.call_len_list pl.isList (by simp only[aL]<;>lia) {.int ys.length,H,I.tok _,{s.toks+1,by rw[aL,d]},q}};{obtain⟨its,c,pl,hz⟩:=I.tuple hq;have d:=c.length;show len_tuple pl (by simp only[aL]<;>lia) {.int ys.length,H,I.tok _,{s.toks+1,by rw[aL,d]},q}}
def L7:i9 X (.builtin "len") (λxs H Q=>∃z,xs=[.str z]/\z.length<=sizeLine/\Q (.int z.length) H):=by
 intro c s d H xs us Q I r h;obtain⟨z,rfl,hz,q⟩:=h;obtain⟨u,rfl,t,rfl⟩:=jg r;have e:=ng;show len_str () {.int z.length,H,I.tok _,{_,rfl},q}
def Al:i9 X (.type "list") (λxs H Q=>∃p ys,xs=[.ref p]/\(SqL X.K H p ys\/SqT X.K H p ys)/\∀l,H l=MN->Q (.ref l) (upd H l (.lst ys))):=by
 intro j s m H xs us Q I r h;obtain⟨p,ys,rfl,hq,q⟩:=h;obtain⟨u,rfl,x⟩:=jg r;cases x;have fin:∀its,Vals ys its->ys.length<=sizeLine->∀h' c,(∀b i,s.heap.get? b=KE i->h'.get? b=KE i)->
   h'.get? ‹s›=KE { cls:=.type "list",dict:=MN,data:=.seq its.toArray c,slots:=#[] }->EP X j m Q (.ref ‹s›) { s with heap:=h' }:=λits d hz h' c kp e=>
  {.ref ‹s›,_,I.laid (t':=s.toks) kp (aI _) (show ObjOk X.p X.w _ h' _ (.lst ys)from#v[hz,its,c,d,e]),rfl,q _ (I.hok.fresh (aI _))}
 rcases hq with hq | hq;{obtain⟨its,d,pl,hz⟩:=I.list hq;have y:=d.length;obtain⟨o,f,g,n,hd⟩:=pl.isList;show call_list_seq p (.inl rfl) f g hd (λh' c kp e=>fin its d hz h' c kp e) (by simp only[aL]<;>lia)};{obtain⟨its,d,pl,hz⟩:=I.tuple hq;have y:=d.length;obtain⟨o,f,g,n,hd⟩:=pl;show call_list_seq p (.inr rfl) f g hd (λh' c kp e=>fin its d hz h' c kp e) (by simp only[aL]<;>lia)}
def z7:i9 X (.type "tuple") (λxs H Q=>∃p ys,xs=[.ref p]/\((SqL X.K H p ys/\∀l,H l=MN->Q (.ref l) (upd H l (.tup ys)))\/(SqT X.K H p ys/\Q (.ref p) H))):=by
 intro f s g H xs us Q I r h;obtain⟨p,ys,rfl,h⟩:=h;obtain⟨u,rfl,j⟩:=jg r;cases j;rcases h with⟨c,q⟩ | ⟨c,q⟩
 ·obtain⟨its,d,pl,hz⟩:=I.list c;have m:=d.length;show call_tuple_list pl.isList (λh' kp=>?_) (by simp only[aL]<;>lia);have i:Inv X f g H { s with heap:=h' }:=I.kept (t':=s.toks) kp;have I2:Inv X f g (upd H h'.objs.size (.tup ys)) { s with heap:=h'.push { cls:=.type "tuple",data:=.seq its.toArray } }:=
   i.laid (t':=s.toks) (λb o e=>aE _ e) (aI _) (show ObjOk X.p X.w _ _ _ (.tup ys)from{hz,its,d,uG _ _})
  show{.ref h'.objs.size,_,I2,rfl,q _ (i.hok.fresh (aI _))}
 ·obtain⟨its,d,pl,hz⟩:=I.tuple c;show call_tuple_same pl {.ref p,H,I,rfl,q}
def tyV (K:aF)(T:String)(x:V)(H:Hp):Prop:=match x with
 | .str _=>T="str"
 | .int _=>T="int"
 | .ref p=>(T="list"/\∃xs,SqL K H p xs)\/(T="tuple"/\∃o,K.lookup p=KE o/\o.cls=.type "tuple"/\o.dict=MN)\/
   (T="dict"/\((∃kvs,H p=KE (.dK kvs))\/∃kvs,H p=KE (.dT kvs)))\/(T="set"/\∃S n,H p=KE (.set S n))
 |_=>False
def Wi (I:Inv X l m H s)(r:RelV x v)(ty:tyV X.K T x H) :
  s.TypeIs v T/\∀a,v=.ref a->∃f,s.heap.get? a=KE f/\f.dict=MN:=by
 cases x with
 |str z=>
  obtain⟨t,rfl⟩:=r;cases(show T="str" from ty);show{vE s z t,λ_ e=>nomatch e}
 |int i=>
  obtain⟨t,rfl⟩:=r;cases(show T="int" from ty);show{tD s i t,λ_ e=>nomatch e}
 |ref p=>
  cases r;rcases ty with⟨rfl,xs,g⟩ | ⟨rfl,o,hk,j,hd⟩ | ⟨rfl,hk⟩ | ⟨rfl,S,n,hk⟩;{obtain⟨its,_,pl,_⟩:=I.list g;show{pl.isList.typeIs,λa e=>?_};cases e;obtain⟨o,n,e,c,hd,_⟩:=pl;show#v[o,e,hd]};{show{{o,I.kIn p o hk,j},λa e=>?_};cases e;show{o,I.kIn _ o hk,hd}}
  ·have z:∃o,s.heap.get? p=KE o/\o.ExactDict:=by
    rcases hk with⟨kvs,hk⟩ | ⟨kvs,hk⟩;{obtain⟨_,_,_,_,o,_,_,e,ex,_⟩:=I.hok p _ hk;show#v[o,e,ex]};{obtain⟨_,_,_,_,o,_,_,e,ex,_⟩:=I.hok p _ hk;show#v[o,e,ex]}
   obtain⟨o,e,ex⟩:=z;show{#v[o,e,ex.1],λa d=>?_};cases d;show#v[o,e,ex.2.1]
  ·obtain⟨o,_,_,_,e,ex,_⟩:=I.hok p _ hk;show{#v[o,e,ex.1],λa d=>?_};cases d;show#v[o,e,ex.2.1]
 |_=>show hV ty
def tBM0 (K:aF)(T:String)(r:V->DK->Hp->VK->Prop)(to:TE):TE:=λd H Q=>to d H λx c=>tyV K T x c/\r x [] c Q
def tBM (K:aF)(T:String)(r:V->DK->Hp->VK->Prop)(to:TE)(t:TA):TE:=λc H Q=>to c H λx d=>tyV K T x d/\t c d λxs e=>r x xs e Q
variable {o e:MS}{es:BW}{to:TE}{t:TA}{name:Str}{wM wO:Pos}{T id:String}{r:V->DK->Hp->VK->Prop}
def Wj (i:oX T)(slot:Slot T name id)(j:uH (.builtin id)=pure (.type "method_descriptor"))(l:MtR X id r)(m:PE X o to)
  (n:↥(iA o name X.e (eval o X.e)=eval o X.e)) (p:↥((wM.endLine == wO.line)=MO)):PE X (.Call (.Attribute o name wM) [] [] wO) (tBM0 X.K T r to):=by
 intro c s d H Q I h;show wpAny_Call_method0_late n p (thn (m c s d H _ I h) λv q u=>?_);obtain⟨x,w,f,g,ty,y⟩:=u;obtain⟨z,A⟩:=Wi f g ty;show{T,id,i,slot,j,z,A,Calls.callWith_builtin rfl (PySem.evalArgs_none (l c q d w x [] v [] Q f g .nil y))}
def T5 (l:oX T)(slot:Slot T name id)(m:uH (.builtin id)=pure (.type "method_descriptor"))(n:MtR X id r)(p:PE X o to)(q:PA X (e::es) t)
  (u:↥(iA o name X.e (eval o X.e)=eval o X.e))
  (w:↥(((dS wO (aM (e::es) X.e)).all (λx=>!x.1) && (lM wO (jG [] X.e)).all (λx=>x.1.isSome) && decide ((e::es).length+([]:List oK).length+(if ([]:List oK).isEmpty then 0 else 1) < 30))=MO))
  (y:↥((wM.endLine == wO.line)=MO)) (hs:↥(aM (e::es) X.e=(MP,eval e X.e)::aM es X.e)) (z:↥((dS wO (aM es X.e)).any (·.1)=MP)) :
  PE X (.Call (.Attribute o name wM) (e::es) [] wO) (tBM X.K T r to t):=by
 intro c s d H Q I h;show wpAny_Call_method_late u w y rfl (thn (p c s d H _ I h) λv A f=>?_);obtain⟨x,C,g,i,ty,D⟩:=f;obtain⟨E,G⟩:=Wi g i ty;show{T,id,l,slot,m,E,G,?_};have j:=q wO c A d C _ g D;rw[hs]at j ⊢;show Calls.callWith_builtin (by change(MP || (dS wO (aM es X.e)).any (·.1))=MP;rw[z]<;>rfl) (Calls.evalArgs_plain ?_);show thn j λus J f=>by obtain⟨vs,L,I2,N,O⟩:=f;show n c J d L x vs v us Q I2 i N O
end
def MtM (X:Cx)(id:String)(r:V->DK->Hp->VK->Prop):Prop:=
 ∀a s b H x xs v us Q,Inv X a b H s->RelV x v->Vals xs us->r x xs H Q->
  aJ (aV X.p X.w) X.A (call (.builtin id) (v::us)) (EP X a b Q) X.xe s
theorem Vals.one:∀{x:V}{us:AJ},Vals [x] us->∃u,us=[u]/\RelV x u
 |_,_,.cons r .nil=>{_,rfl,r}
theorem Vals.zero:∀{us:AJ},Vals [] us->us=[]
 |_,.nil=>rfl
theorem Vals.dropLast {xs:DK}{us:AJ}(h:Vals xs us):Vals xs.dropLast us.dropLast:=by
 induction h with
 |nil=>show .nil
 |cons r t a=>
  cases t with
  |nil=>show .nil
  |cons q t'=>show .cons r a
theorem Vals.eraseIdx:∀{xs:DK}{us:AJ}(i:Nat),Vals xs us->Vals (xs.eraseIdx i) (us.eraseIdx i)
 |_,_,_,.nil=>.nil
 |_,_,0,.cons _ t=>t
 |_,_,i+1,.cons r t=>.cons r (Vals.eraseIdx i t)
theorem Vals.reverse {xs:DK}{us:AJ}(h:Vals xs us):Vals xs.reverse us.reverse:=by
 induction h with
 |nil=>show .nil
 |cons r t a=>rw[iX,iX];show Vals.append a (.cons r .nil)
theorem Vals.rep (h:Vals xs us):∀k:Nat,Vals (bC k xs).flatten (bC k us).flatten
 |0=>.nil
 |k+1=>by
  rw[fG,fG,iY,iY];show Vals.append h (Vals.rep h k)
def T6 {c:Type}(l:List c):l.eraseIdx (l.length - 1)=l.dropLast:=by
 induction l with
 |nil=>rfl
 |cons a r d=>
  cases r with
  |nil=>rfl
  |cons b r=>
   have e:(a::b::r).length - 1=((b::r).length - 1)+1:=by
    have f:(a::b::r).length=r.length+2:=rfl;have g:(b::r).length=r.length+1:=rfl;lia
   rw[e,List.eraseIdx_cons_succ,d]
   all_goals rfl
theorem Je {a:Type}:∀(l:List a)(i:Nat),(l.eraseIdx i).length<=l.length
 | [],_=>aI _
 |_::_,0=>pS _
 |_::r,i+1=>Nat.succ_le_succ (Je r i)
theorem Jf (its:AJ):∀k a,
  vF (λb c=>b++c) a.toArray (bC k its.toArray)=(a++(bC k its).flatten).toArray
 |0,a=>by simp
 |k+1,a=>by
  have e:a.toArray++its.toArray=(a++its).toArray:=∅;have d:(a++its)++(bC k its).flatten=a++(bC (k+1) its).flatten:=by
   rw[fG,iY,eO]
  rw[<-d,<-Jf its k (a++its),<-e,fG,rW]
section
variable {X:Cx}{f':BK}{σ:St}{H:Hp}{s:aG}{l b:MQ}{xs ys zs:DK}
def Inv.lset {its its':AJ}{n:Nat}{f:AW->AW}{t':Nat}(I:Inv X f' σ H s)(a:H l=KE (.lst xs))
  (e:s.heap.get? l=KE { cls:=.type "list",data:=.seq its.toArray n }) (c:f its.toArray=its'.toArray) (d:Vals ys its') (hz:ys.length<=sizeLine) :
  Inv X f' σ (upd H l (.lst ys)) { s with heap:=s.heap.update l (fA f),toks:=t' }:=by
 have q:=PySem.IsL.update e f;rw[c]at q;show I.write (x:=l) (e:=l) (by rw[a];show trivial) (.inl rfl) (λj u g i=>(Heap.get?_update_other s.heap (fA f) (Ne.symm g)).trans i) {_,q} ?_;show{hz,its',_,d,q}
def Inv.lnew (I:Inv X f' σ H s)(a:Vals ys its)(hz:ys.length<=sizeLine) :
  Inv X f' σ (upd H ‹s› (.lst ys)) { s with heap:=s.heap.push { cls:=.type "list",data:=.seq its.toArray },toks:=t' }:=
 I.laid (λ_ _ q=>aE _ q) (aI _) {hz,its,0,a,aZ _ rfl}
theorem Inv.fresh (I:Inv X f' σ H s):H ‹s›=MN:=I.hok.fresh (aI _)
def Inv.lstM (I:Inv X f' σ H s)(a:H l=KE (.lst xs)):xs.length<=sizeLine/\∃(its:AJ)(n:Nat),Vals xs its/\xs.length=its.length/\s.heap.get? l=KE { cls:=.type "list",data:=.seq its.toArray n }:=by
 obtain⟨z,its,n,r,e⟩:=I.hok l _ a;show#v[z,its,n,r,r.length,e]
def Dc {n:Nat}(h:n<=sizeLine):gK n=MP:=by
 unfold gK;show MW ()
end
section
variable {X:Cx}
def ael:V->DK->Hp->VK->Prop:=λx vs H Q=>∃l xs y,x=.ref l/\vs=[y]/\H l=KE (.lst xs)/\xs.length < sizeLine/\Q .non (upd H l (.lst (xs++[y])))
def Am:MtM X "list.append" ael:=by
 intro f s g H x vs v us Q I b c h;obtain⟨l,xs,y,rfl,rfl,a,hz,q⟩:=h;cases b;obtain⟨u,rfl,d⟩:=c.one;obtain⟨z,its,n,r,i,e⟩:=I.lstM a;show jH F.slot_list_append {_,e,rfl} F.entry_list_append (F.args_list_append_2 _ _) (PySem.list_append l its.toArray n u (by rw[aL];lia)) {e,?_};show{.non,_,I.lset (its':=its++[u]) a e ∅ (r.append (.cons d .nil)) ?_,rfl,q};rw[aH,cG];lia
def aem:V->DK->Hp->VK->Prop:=λx vs H Q=>∃l b xs a,x=.ref l/\vs=[.ref b]/\H l=KE (.lst xs)/\H b=KE (.lst a)/\xs.length+a.length<=sizeLine/\Q .non (upd H l (.lst (xs++a)))
def Wk:MtM X "list.extend" aem:=by
 intro w s y H x vs v us Q I d f h;obtain⟨l,b,xs,A,rfl,rfl,c,g,hz,q⟩:=h;cases d;obtain⟨u,rfl,i⟩:=f.one;cases i;obtain⟨z,its,n,r,C,e⟩:=I.lstM c;obtain⟨D,a,j,m,E,o⟩:=I.lstM g;have hsz:its.toArray.size+a.toArray.size<=sizeLine:=(by rw[aL,aL];lia);have p:¬(!its.toArray.isEmpty && gK (its.toArray.size+a.toArray.size))=MO:=by
  rw[Dc hsz,lG];show aO
 show jH F.slot_list_extend {_,e,rfl} F.entry_list_extend (F.args_list_extend_2 _ _)
  (AutoSeq1.list_extend_list_list_0 l its.toArray n b a.toArray j p (by rw[aL];lia) ()) {e,o,?_}
 show{.non,_,I.lset (its':=its++a) c e ∅ (r.append m) ?_,rfl,q};rw[aH];lia
def rPop:V->DK->Hp->VK->Prop:=λx vs H Q=>∃l xs y,x=.ref l/\vs=[]/\H l=KE (.lst xs)/\xs[xs.length - 1]?=KE y/\Q y (upd H l (.lst xs.dropLast))
def aip:MtM X "list.pop" rPop:=by
 intro o s p H x vs v us Q I b c h;obtain⟨l,xs,y,rfl,rfl,a,d,q⟩:=h;cases b;have f:=c.zero;subst f;obtain⟨z,its,n,r,g,e⟩:=I.lstM a;obtain⟨u,i,j⟩:=r.get d;have m:its.toArray[its.toArray.size - 1]?=KE u:=by
  change its.toArray[its.length - 1]?=KE u;rw[<-bS,<-g];show i
 show jH F.slot_list_pop {_,e,rfl} F.entry_list_pop (F.args_list_pop_1 _) (MeetsSeq.list_pop_last l its.toArray n u m (by rw[aL];lia)) {e,?_};show{y,_,I.lset (its':=its.dropLast) a e ?_ r.dropLast ?_,j,q};{change its.toArray.eraseIdxIfInBounds (its.toArray.size - 1)=its.dropLast.toArray;rw[aL,List.eraseIdxIfInBounds_toArray,T6]};{rw[List.length_dropLast];lia}
def aiq:V->DK->Hp->VK->Prop:=λx vs H Q=>∃l xs i k y,x=.ref l/\vs=[.int i]/\H l=KE (.lst xs)/\-(2 ^ 63)<=i/\i < 2 ^ 63/\seqIndex? i xs.length=KE k/\xs[k]?=KE y/\Q y (upd H l (.lst (xs.eraseIdx k)))
def Zy:MtM X "list.pop" aiq:=by
 intro p s A H x vs v us Q I b c h;obtain⟨l,xs,i,k,y,rfl,rfl,a,d,f,hk,g,q⟩:=h;cases b;obtain⟨u,rfl,j⟩:=c.one;obtain⟨t,rfl⟩:=j;obtain⟨z,its,n,r,m,e⟩:=I.lstM a;obtain⟨w,hw,o⟩:=r.get g;show jH F.slot_list_pop {_,e,rfl} F.entry_list_pop (F.args_list_pop_2 _ _)
  (MeetsSeq.list_pop_at l its.toArray n i t k w (fitsIndex_both d f) (by rw[aL,<-m];show hk) (by rw[<-bS];show hw) (by rw[aL];lia)) {e,?_}
 show{y,_,I.lset (its':=its.eraseIdx k) a e ?_ (r.eraseIdx k) ?_,o,q};{change its.toArray.eraseIdxIfInBounds k=(its.eraseIdx k).toArray;rw[List.eraseIdxIfInBounds_toArray]};{have:=Je xs k;lia}
def air:V->DK->Hp->VK->Prop:=λx vs H Q=>∃l xs,x=.ref l/\vs=[]/\H l=KE (.lst xs)/\Q .non (upd H l (.lst []))
def Zz:MtM X "list.clear" air:=by
 intro f s g H x vs v us Q I b c h;obtain⟨l,xs,rfl,rfl,a,q⟩:=h;cases b;have d:=c.zero;subst d;obtain⟨z,its,n,r,i,e⟩:=I.lstM a;show jH F.slot_list_clear {_,e,rfl} F.entry_list_clear (F.args_list_clear_1 _) (AutoSeq1.list_clear_list_0 l its.toArray n (by rw[aL];lia)) {e,?_};show{.non,_,I.lset (its':=[]) (ys:=[]) a e rfl .nil (cH _),rfl,q}
def rCat:R2:=λx y H Q=>∃l b xs a,x=.ref l/\y=.ref b/\H l=KE (.lst xs)/\H b=KE (.lst a)/\xs.length+a.length<=sizeLine/\∀p,H p=MN->Q (.ref p) (upd H p (.lst (xs++a)))
def ais:OpR X (eC .Add) rCat:=by
 intro o s p H x y v u Q I c d h;obtain⟨l,b,xs,w,rfl,rfl,f,g,hz,q⟩:=h;cases c;cases d;obtain⟨z,its,n,r,A,e⟩:=I.lstM f;obtain⟨C,a,D,i,E,j⟩:=I.lstM g;show PySem.P.add_list e j ?_ (by rw[aL,aL];lia);have m:its.toArray++a.toArray=(its++a).toArray:=∅;rw[m];show{.ref _,_,I.lnew (t':=s.toks) (r.append i) (by rw[aH];lia),rfl,q _ I.fresh}
def rRep:R2:=λx y H Q=>∃l k xs,x=.ref l/\y=.int k/\H l=KE (.lst xs)/\-(2 ^ 63)<=k/\k < 2 ^ 63/\xs.length * k.toNat<=sizeLine/\
 ∀p,H p=MN->Q (.ref p) (upd H p (.lst (bC k.toNat xs).flatten))
def aen (xs:List b)(k:Nat):(bC k xs).flatten.length=k * xs.length:=by
 induction k with
 |zero=>simp
 |succ k a=>rw[fG,iY,aH,a,uI,oY]
def ait:OpR X (eC .Mult) rRep:=by
 intro G s J H x y v u Q I f g h;obtain⟨l,k,xs,rfl,rfl,i,j,o,hz,q⟩:=h;cases f;obtain⟨t,rfl⟩:=g;obtain⟨z,its,n,r,p,e⟩:=I.lstM i;have w:its.toArray.size * k.toNat<=sizeLine:=(by rw[aL,<-p];show hz);have b:¬its.toArray.size * k.toNat > (2 ^ 63 - 1) / 8:=by
  have:(sizeLine:Nat)<=(2 ^ 63 - 1) / 8:=#v[];lia
 have A:¬(!Builtin.List.listFitsIndex k)=MO:=by
  rw[fitsIndex_both j o];show aO
 have C:¬gK (its.toArray.size * k.toNat)=MO:=by
  rw[Dc w];show aO
 have D:vF (λc d=>c++d) #[] (bC (if its.toArray.isEmpty=MO then 0 else k.toNat) its.toArray)=(bC k.toNat its).flatten.toArray:=by
  have E:∀m:Nat,vF (λc d=>c++d) #[] (bC m its.toArray)=(bC m its).flatten.toArray:=λm=>by
   have:=Jf its m [];rw[bL]at this;show this
  rw[E];cases its with
  |nil=>simp
  |cons a L=>rw[MV ∅]
 show wpAny_binaryOp_repeat_ref (T:="list") (U:="int") #v[] {_,e,rfl} (λs'=>tD s' k t) noFill_list_mul F.fills_int_mul F.slot_int_rmul repeat_list F.slot_int_index.lookup
  (jH F.slot_int_rmul (tD s k t) F.entry_int_rmul (F.args_int_rmul_2 _ _) (int___rmul___int_list k t l its.toArray n) {e,rfl,{_,e,rfl},jH F.slot_list_mul {_,e,rfl} F.entry_list_mul (F.args_list_mul_2 _ _) (AutoListH.list___mul___list_int_3 l its.toArray n k t A b C) {e,?_}})
 rw[D];show{.ref _,_,I.lnew (t':=s.toks) (r.rep k.toNat) (by rw[aen,mP];show hz),rfl,q _ I.fresh}
end
end L2
namespace Att
open PySem PySem.W PySem.Calls PyProof.Rows
def Es:∀ns vs,WellAll P h vs (ns.map WData.int)->lF vs ns:=by
 intro ns
 induction ns with
 |nil=>
  intro vs w;rw[iO]at w;cases w;show .nil
 |cons n ns c=>
  intro vs w;rw[bE]at w;cases w with
  |cons a b=>
   cases a;show .cons _ _ (c _ b)
def Wl {l:nV}(i:l.most=KE n){h:MR}
  (f:l.row.toRowW.claim.pre args=MO) (j:WellAll P h m args) :
  ∃a vs ns,m=[bQ a]/\args=[WData.list (ns.map WData.int)]/\h.get? a=KE { cls:=.type "list",data:=.seq vs.toArray }/\lF vs ns/\ns.length<=n:=by
 have e:WShape.hasAll [] args [.list .int]=MO:=(pre_splitW f).1;have g:l.pre.holds [] { args:=args }=MO:=(pre_splitW f).2;obtain⟨d,r,rfl,o,p⟩:=hasAllW_cons e;obtain rfl:=hasAllW_nil p;obtain⟨xs,rfl,s⟩:=hasW_list o;obtain⟨ns,rfl⟩:=items_int s;have u:ns.length<=n:=by
  unfold OpenLaw.pre at g;have b:(WTm.not (.lt (.lit (.int (n:Int))) (.len (.arg 0)))).holds [] { args:=[.list (ns.map .int)] }=MO:=by
   have b:=(holds_andW g).1;rw[i]at b;show b
  have c:=condW_of b (w_not (w_lt w_lit (w_len_list (w_arg rfl))));rw[aC]at c;show oC λq=>?_;have w:(n:Int) < ((ns.length:Nat):Int):=by lia
  first
   | (rw[MX w]at c;show MY c #v[])
   | (simp at c;lia)
 cases j with
 |cons x y=>
  cases y;cases x with
  |list z A=>show{_,_,ns,rfl,rfl,z,Es ns _ A,u}
def Wm (l:nV)(args:List WData):l.row.toRowW.claim.post args (.bool MO) args=MO:=
 postW_of (r:=l.row.toRowW) (X:=(MO == MO))
  (show WShape.has [] (.bool MO) .bool=MO by first | rfl | decide | simp[WShape.has,WShape.arms,WShape.armsAll])
  (show(WTm.eq .res (.lit (.bool MO))).value [] { args:=args,res:=KE (.bool MO),after:=args }=KE (.bool (MO == MO))from w_eq_bool (w_res rfl) w_lit) rfl
def attach_call {l:nV}{d:DefRec}
  (m:l.most=KE n) (p:d.params.defaults=[])
  (call:∀(w:bB)(s₀ b:aG) (mg c:Str->AX) (fa:MQ) (o:Obj) (e cd g:aK) (a:MQ) (vs:AJ) (ns:LQ),Ground q s [] u w s₀ mg c b.heap->x w b.heap->b.heap.get? fa=KE o->o.data=.func (docDef d.name d.params d.body d.scope e cd g)->b.heap.CodeRec cd d.name->mg d.name=KE (.ref fa)->b.heap.get? a=KE { cls:=.type "list",data:=.seq vs.toArray }->lF vs ns->ns.length<=n->b.gens=#[]->kQ (aV l.prog w) pQ (.call (.ref fa) {[.ref a],[]}) (λr s'=>r=.ok (.ret (.bool MO))/\OldK b.heap s'.heap/\s'.os=b.os/\oH s'.gens) b) :
  WalkO q s u x l.row.toRowW d [] (λf vs=>vG f vs):=by
 intro w s₀ b mg c G Y fa o e cd g y kV z hd A i C D args DG as E j H I J;obtain rfl:y=.none:=Dflts.none i p;obtain rfl:kV=.none:=Dflts.noKw i;obtain⟨a,vs,ns,rfl,rfl,L,N,O⟩:=Wl m E I;show enter_call (mL (call w s₀ b mg c fa o e cd g a vs ns G Y z (fd_plain hd) A C L N O D) λr s' T=>?_);obtain⟨rfl,U,h3,h4⟩:=T;show{.inl {.bool MO,.bool MO,[],rfl,λ_=>rfl,.bool MO,Wm l _,λ_=>{qS,λ_ hm=>(nomatch hm)}},U,h3,h4}
section
variable {prog:aQ}{w:bB}{A:bX}{E:aK->aG->Prop}{s:aG}{K:Frag}
def ledger (h:MR)(L d:MQ):BK:=(bA h.objs.size).filterMap λa=>if a=L\/a=d then MN else (h.get? a).map λo=>(a,o)
end
end Att
namespace L2
open PySem PySem.Spec PyProof.Rows
theorem Jg:∀{vs ns},lF vs ns->Vals (ns.map V.int) vs
 |_,_,.nil=>.nil
 |_,_,.cons n t h=>.cons #v[t,rfl] (Jg h)
def Z0 (H:Hp):Prop:=∀b,H b=MN\/∃o xs,H b=KE (.frz o (.lst xs))
def Z3 {P:aQ}{w:bB}{K:aF}{mg E:Str->AX}{CX:CXT}{k:Nat}{fa a:MQ}{fd:gY}{x:Str}{sp:Sp}{c:aG}{vs:AJ}{ns:LQ}
  (KX:K.In c.heap) (J:c.heap.Ns bJ mg) (f:c.heap.Ns uY E) (G:∀x:Str,x≠"__name__"->E x=dY x) (i:c.heap.NoLimit) (hg:c.gens=#[])
  (C:c.heap.get? a=KE { cls:=.type "list",data:=.seq vs.toArray }) (hi:lF vs ns) (L:ns.length<=sizeLine) (hr:Room k pQ)
  (F:∀base:MR,K.In base->base.Ns bJ mg->ir P w K mg base CX k fa fd [x] sp) (g:∀(s:aG)(u:aK),rA s fd {[u],[]} [(x,u)])
  (DW:∀H:Hp,Z0 H->SqL K H a (ns.map V.int)->sp [.ref a] H (λv _=>v=.bl MO) λ_ _ _=>False)
  (IV:∀H e s',CX [] H c (λ_ _ _=>False) e s'->False) :
  kQ (aV P w) pQ (.call (.ref fa) {[.ref a],[]}) (λr s'=>r=.ok (.ret (.bool MO))/\OldK c.heap s'.heap/\s'.os=c.os/\oH s'.gens) c:=by
 have N:=Jg hi;have j:=hi.length;have O:∀H:Hp,Z0 H->SqL K H a (ns.map V.int)->HOk P w H c.heap->(∀b,H b≠MN->b=a)->(H a≠MN->K.lookup a=MN)->
   kQ (aV P w) pQ (.call (.ref fa) {[.ref a],[]}) (λr s'=>r=.ok (.ret (.bool MO))/\OldK c.heap s'.heap/\s'.os=c.os/\oH s'.gens) c:=by
  intro H T hS hok U hK;have Y:∀{b:MQ}{o:Obj},c.heap.get? b=KE o->H b=MN->(yq c.heap H).get? b=KE o:=λe n=>Zd e n;have GF:∀{b:MQ}{o:Obj}{l:Array DictEntry}{p:Nat},c.heap.get? b=KE o->o.data=.dict l p->H b=MN:=λ{b o l p} e d=>by
   cases q:H b with
   |none=>rfl
   |some u=>
    have I:b=a:=U b (by rw[q];simp);subst I;rw[C]at e;cases e;have d':vS vs.toArray _=Data.dict l p:=d;cases d'
  have D:∀{b:MQ}{m:Str->AX},c.heap.Ns b m->(yq c.heap H).Ns b m:=λ{b m} vR=>(by obtain⟨o,l,p,e,d,r⟩:=vR;show{o,l,p,Y e (GF e d),d,r});have KS:K.In (yq c.heap H):=λb o e=>Y (KX b o e) (by
    cases q:H b with
    |none=>rfl
    |some u=>
      have I:b=a:=U b (by rw[q];simp);subst I;rw[hK (by rw[q];simp)]at e;cases e)
  have hM:Mod K mg (yq c.heap H):=⟨KS,D J,{E,D f,G},let ⟨mc,h1,h2⟩:=i;{mc,D h1,h2}⟩;have e0:Env0 P w K mg (yq c.heap H) pQ [] c H:={rfl,hM,λb o e=>ado e,Nat.le_of_eq (Vy _ _),trivial,λb f=>MY (show b∈([]:CZ)from f) ∅,hok,.of_eq hg};show mL ((F _ KS (D J)).run pQ [] c H {[.ref a],[]} [.ref a] [.ref a] _ _ hr e0 (g c (.ref a)) (.cons rfl .nil) (DW H T hS)) λr s' h=>?_;cases r with
  |error e=>show(IV H e s' h).elim
  |ok fl=>
   cases fl with
   |next=>show hV h
   |brk=>show hV h
   |cont=>show hV h
   |ret u=>
    obtain⟨v,H',os,bare,un,y,r',q⟩:=h;have q':v=.bl MO:=q;subst q';obtain rfl:u=mT MO:=r';show{rfl,OldK.of_keep λb o e=>?_,os,bare};cases q:H b with
    |none=>show un.keep b o e q (by intro z;show MY (show b∈([]:CZ)from z) ∅) ∅
    |some u=>
     rcases T b with z | ⟨ob,xs,z⟩;{rw[q]at z;cases z};{have z2:=un.frzs b ob _ z;obtain⟨e1,_⟩:=hok b _ z;obtain⟨e2,_⟩:=y b _ z2;rw[e]at e1;cases e1;show e2}
 cases hk:K.lookup a with
 |some o=>
  have e:=KX a o hk;rw[C]at e;cases e;show O (λ_=>MN) (λ_=>.inl rfl) (.inr {_,vs.toArray,_,hk,rfl,rfl,rfl,by rw[aL,j];show L,by simpa using N}) (λb u z=>by have A:(MN:Option HO)=KE u:=z;cases A) (λb z=>MY rfl z) λz=>MY rfl z
 |none=>
  show O (λb=>if b=a then KE (.frz { cls:=.type "list",data:=.seq vs.toArray } (.lst (ns.map V.int)))else MN) (λb=>?_) (.inl (.inr ⟨{ cls:=.type "list",data:=.seq vs.toArray },MU rfl⟩)) (λb u z=>?_) (λb z=>?_) λ_=>hk;{by_cases f:b=a;{show .inr {_,_,MU f}};{show .inl (MV f)}};{by_cases f:b=a;{have A:=(MU f).symm.trans z;cases A;subst f;show{C,by rw[aC];show L,vs,_,N,C}};{have A:=(MV f).symm.trans z;cases A}};{by_cases f:b=a;{show f};{show MY (MV f) z}}
abbrev KOf {K:aF}{h:MR}(_:K.In h):aF:=K
def walk_of {l:nV}{n k:Nat}{m:AQ}{p:(Str->AX)->MR->Prop}{i:bB->MR->Prop}{d:DefRec}{K:Params->aF}{CX:bB->CXT}{sp:bB->Sp}
  (r:l.most=KE n) (y:n<=sizeLine) (z:d.params.defaults=[]) (A:Room k pQ)
  (C:∀(w:bB)(h:MR),i w h->(K w.params).In h)
  (F:∀(w:bB)(mg:Str->AX) (fa:MQ) (h:MR),(K w.params).In h->h.Ns bJ mg->mg d.name=KE (.ref fa)->∃fd:gY,(∀(s:aG)(u:aK),rA s fd {[u],[]} [(x,u)])/\∀base:MR,(K w.params).In base->base.Ns bJ mg->ir l.prog w (K w.params) mg base (CX w) k fa fd [x] (sp w))
  (D:∀(w:bB)(H:Hp) (a:MQ) (ns:LQ),ns.length<=n->Z0 H->SqL (K w.params) H a (ns.map V.int)->sp w [.ref a] H (λv _=>v=.bl MO) λ_ _ _=>False)
  (E:∀(w:bB)(H:Hp) (s:aG) (e:aK) (s':aG),CX w [] H s (λ_ _ _=>False) e s'->False) :
  PySem.W.WalkO q m p i l.row.toRowW d [] (λf vs=>vG f vs):=by
 show Att.attach_call r z λw s₀ c mg mb fa o pm cd zA a vs ns G Y ho hd zN I J L j N=>?_;have KX:=C w _ Y;obtain⟨fd,O,U⟩:=F w mg fa _ KX G.T.g I;show Z3 KX G.T.g G.T.b G.T.builtins G.T.nolimit N J L (aX j y) A U O (λH hO hS=>D w H a ns j hO hS) λH e s'=>E w H c e s'
end L2
namespace L2
open PySem PySem.Spec PyProof.Rows
def gc (s:MT)(j:Nat):MT:=match s with
 | .ClassDef _ _ _ body _ _ _ _ _ _ _=>body.getD j (.Pass {0,0,0,0})
 |_=>.Pass {0,0,0,0}
def jj (s:MT):Arguments:=match s with
 | .FunctionDef _ a _ _ _ _ _ _ _ _=>a
 |_=>{ posonlyargs:=[],args:=[],vararg:=MN,kwonlyargs:=[],kw_defaults:=[],kwarg:=MN,defaults:=[] }
def ij (s:MT):List MT:=match s with
 | .FunctionDef _ _ b _ _ _ _ _ _ _=>b
 |_=>[]
def bt (s:MT):mW:=match s with
 | .FunctionDef _ _ _ _ _ _ a _ _ _=>a
 |_=>{ kind:=.function,names:=[],isGenerator:=MP,isCoroutine:=MP }
abbrev CX0:CXT:=λ_ _ _ _ _ _=>False
abbrev E0:XK:=λ_ _ _=>False
def Bu:r8 CX0 X E0:=λ_ _ _ _ _ _ _ h=>h.elim
structure Fun (K:aF)(x wB:Str)(st:MT)(f:MQ)(fd:gY):Prop where
 ex:∃oc od kV zA pm an wA ct DC,
  fd=fV x wB (jj st) (ij st) (bt st) .none kV zA pm an wA ct/\K.lookup f=KE {oc,od,.func fd,DC}/\mY K wA wB=MO
 kp:fK K (.ref f)=MO
section
variable {P:aQ}{w:bB}{K:aF}{mg:Str->AX}{base:MR}
def Fun.ok {x b:Str}{st:MT}{f:MQ}{fd:gY}{N ps:AQ}{k:Nat}{sp:Sp}(F:Fun K x b st f fd)(S:fj N ps (bt st))(len:∀vs H Q E,sp vs H Q E->vs.length=ps.length)
  (c:∀a A outer s H vs Q E,Room k (A.deeper (oV b (bt st) ‹s› f a))->sp vs H Q E->∃t,PSs (C9 CX0 P w K mg base N b (bt st) f a A outer s H E).nox (ij st) t/\t { nx:=λ_ H'=>Q .non H',rt:=Q } (start N vs) H):ir P w K mg base CX0 (k+1) f fd ps sp:=by
 obtain⟨i,j,kV,l,m,n,a,ct,o,rfl,lk,d⟩:=F.ex;show fn_of lk d S len λA outer s H vs Q E e g=>?_;obtain⟨t,h,q⟩:=c a A outer s H vs Q E e g;show#v[t,h.nox,q]
def Fun.binds {x e:Str}{st:MT}{f:MQ}{fd:gY}{ps:AQ}(F:Fun K x e st f fd)
  (h:∀(kV a b:aK)(c:Option MQ) (d ct:aK) (us:AJ),us.length=ps.length->pO (fV x e (jj st) (ij st) (bt st) .none kV a b c d ct) {us,[]}=pure (ps.zip us)):Binds K fd ps []:=by
 obtain⟨g,i,kV,a,b,c,d,ct,j,rfl,lk,l⟩:=F.ex;show .all (h kV a b c d ct)
def aiu {x a:Str}{st:MT}{f:MQ}{i:aK}{j d:Option MQ}{m:Array AX}{kV e g b ct:aK}(l:K.lookup f=KE {i,j,.func (fV x a (jj st) (ij st) (bt st) .none kV e g d b ct),m})
  (c:mY K b a=MO) (k:fK K (.ref f)=MO):Fun K x a st f (fV x a (jj st) (ij st) (bt st) .none kV e g d b ct):={#v[i,j,kV,e,g,d,b,ct,m,rfl,l,c],k}
end
section
variable {X:Cx}
def pv (i:Nat)(a:↥(X.N[i]?=KE x))(b:autoParam (Vis X.e.scope x) JV._auto_1)(hd:↑((x == ("__debug__":Str))=MP))
  (c:↑((x == ("__classdict__":Str))=MP)):PE X (.Name x d) (Ti i):=um a b hd c
end
def Same (H H':Hp):Prop:=∀b o,H b=KE o->H' b=KE o
end L2
set_option maxHeartbeats 4000000
namespace L2
open PySem PySem.Spec PyProof.Rows
section
variable {prog:aQ}{w:bB}{A:bX}{R:vC->aG->Prop}{s:aG}
theorem Wn (J:Nat->aG->Prop)
  (turn:∀n s,J n s->aJ (aV prog w) A (iM it) (λr a=>match r with
    |none=>R (.ok .next) a
    |some v=>aJ (aV prog w) A (oT b it v) (λ_ g=>aJ (aV prog w) A (mH b env v) (λ_ i=>
        aJ (aV prog w) A (forIn j MO λc r=>if r=MO then do let ok <-uA c env (eval c env);pure (oZ ok)else pure (oZ r)) (λok d=>
          if ok=MO then aJ (aV prog w) A (eval l env) (λy o=>aJ (aV prog w) A (call (.builtin "list.append") [p,y]) (λ_ q=>∃m,m < n/\J m q) (λ_ _=>False) o) (λ_ _=>False) d
          else ∃m,m < n/\J m d) (λ_ _=>False) i) (λ_ _=>False) g) (λ_ _=>False) a) (λ_ _=>False) s)
  (n:Nat) (h:J n s):kQ (aV prog w) A (.compLoop (.ListComp l [{b,iter,j,0}] C e) 0 it p env) R s:=by
 show codeAny_loop rfl J (λn s D=>?_) n h;change aJ _ A ((compTurn (.ListComp l [{b,iter,j,0}] C e) 0 it p env).onRaise (λx=>do noteFrame x env;theTreesLotGoes x)) _ _ s
 show wpAny_noted ?_;rw[compTurn_list];show aA (qG (aA (jF (turn n s D) (λr a u=>?_) λ_ _ f=>f.elim)));cases r with
 |none=>show wpAny_pure u
 |some v=>
  show aA (jF u (λ_ g E=>?_) λ_ _ f=>f.elim);show aA (jF E (λ_ i G=>aA (jF G (λok d z=>?_) λ_ _ f=>f.elim)) λ_ _ f=>f.elim);cases ok with
  |false=>show wpAny_pure #v[rfl,z]
  |true=>
   show aA (aA (jF z (λy o H=>aA (jF H (λ_ q I=>wpAny_pure (wpAny_pure #v[rfl,I])) λ_ _ f=>f.elim)) λ_ _ f=>f.elim))
end
def cxC (X:Cx)(N:AQ)(sc:mW)(cl:List (Str×MQ))(C:MQ)(s:aG)(H:Hp)(fp:CZ):Cx where
 p:=X.p
 w:=X.w
 K:=X.K
 mg:=X.mg
 base:=X.base
 A:=X.A
 N:=N
 s₀:=s
 H₀:=H
 e:=compEnvC sc cl C X.e
 outer:=X.stack
 stack:=X.stack
 ex:=fp
 fn:=λ_=>MP
 calm:=X.calm
 pn:=[]
 xe:=λ_ _=>False
def pick (a:St)(fr:L1):St:=fr.map λi=>(a[i]?).getD MN
structure pj (X:Cx)(ns ys:AQ)(fr:L1)(sc:mW)(cl:List (Str×MQ)):Prop where
 clos:vH sc X.e=pure cl
 kind:sc.kind=.function
 nocell:∀y∈sc.names,y.2≠.cell
 locs:∀y∈sc.names,y.2=.local->sc.names.lookup y.1=KE .local
 sub:∀p∈cl,X.e.cells.lookup p.1=KE p.2
 has:∀y,((mB sc X.e).names.lookup y=KE .cell\/(mB sc X.e).names.lookup y=KE .free)->∃c,cl.lookup y=KE c
 len:fr.length=ys.length
 outs:∀(j:Nat)(y:Str),ys[j]?=KE y->∃i:Nat,fr[j]?=KE i/\X.N[i]?=KE y/\(X.e.kindOf y=KE .cell\/X.e.kindOf y=KE .free)/\
  ((mB sc X.e).names.lookup y=KE .cell\/(mB sc X.e).names.lookup y=KE .free)
theorem fm {a:Type}:∀{l:List (Str×a)}{x:Str}{c:a},l.lookup x=KE c->(x,c)∈l
 | [],_,_,h=>by cases h
 | (y,d)::r,x,c,h=>by
  rw[rH]at h;cases q:x == y with
  |true=>
   rw[q]at h;have b:x=y:=eq_of_beq q;have e:d=c:=cB h;rw[b,e];show aP
  |false=>
   rw[q]at h;show aT _ (fm h)
def PTs (X:Cx)(d:BW)(t:TT):Prop:=
 ∀b s a H Q,Inv X b a H s->t a H Q->
  aJ (aV X.p X.w) X.A (forIn d MO λc r=>if r=MO then do let ok <-uA c X.e (eval c X.e);pure (oZ ok)else pure (oZ r)) (TP X b a Q) X.xe s
def tYes:TT:=λ_ H Q=>Q MO H
def aeo:PTs X [] tYes:=λ_ _ _ H _ I h=>wpAny_tests_nil #v[H,I,h]
def aep (h:PT X c t):PTs X [c] t:=λa s b H Q I q=>wpAny_tests_one (h a s b H Q I q)
def T7 (k:Nat)(fr:L1)(g:TG)(tt:TT)(te:TE)(c:St)(D:MQ)(ys:DK)(N:DK->Hp->Prop)(x:V)(H:Hp):Prop:=
 g x (bC k MN++pick c fr) H λa i=>(∃d,a=d++pick c fr/\d.length=k)/\tt a i λb e=>if b=MO then te a e λy f=>f D=KE (.lst ys)/\N (ys++[y]) (upd f D (.lst (ys++[y])))else N ys e
def Comps (k:Nat)(fr:L1)(g:TG)(tt:TT)(te:TE)(e:St)(Q:VK)(J:It)(H:Hp)(D:MQ):Prop:=∃W:Nat->Nat->DK->Hp->Prop,(∃m,W 0 m [] (upd H D (.lst [])))/\
 ∀i m ys a,W i m ys a->a D=KE (.lst ys)/\((J.stop i a/\Q (.ref D) a)\/(J.go i a/\ys.length < sizeLine/\∃N:DK->Hp->Prop,(∀b H',N b H'->∃c,c < m/\W (i+1) c b H')/\∀x d,J.yld i a x d->T7 k fr g tt te e D ys N x d))
def Lh (k:Nat)(fr:L1)(c:TI)(g:TG)(tt:TT)(te:TE):TE:=λa H Q=>c a H λJ b=>∀D,b D=MN->Comps k fr g tt te a Q J b D
section
variable {X:Cx}{f':BK}{σ:St}{H H':Hp}{s s':aG}{ns ys:AQ}{fr:L1}{sc:mW}{cl:List (Str×MQ)}{C:MQ}{fp:CZ}
def aiv (I:Inv X f' σ H s)(S:pj X ns ys fr sc cl)(hf:∀b∈fp,kq X f' H b)(hl:∀b∈fp,b < ‹s›)(hC:‹s›<=C):(cxC X (ns++ys) sc cl C s H fp).Ok where
 mod:=I.ok.mod
 kind:=S.kind
 glob:=I.ok.glob
 blt:=I.ok.blt
 above:=hC
 inj:=λx y c e1 e2=>I.ok.inj x y c (S.sub _ (fm e1)) (S.sub _ (fm e2))
 has:=λx h=>S.has x h
 cab:=λx c h=>nomatch h
 hd:=λh=>I.ok.hd h
 frames:=I.ok.frames
 stk:=.inl rfl
 exf:=λb hb=>{bH (bU (hl b hb) hC),λx c e=>(hf b hb).2.2.2.2.1 x c (S.sub _ (fm e))}
 bs:=I.bs
 bsz:=aX I.ok.bsz I.sz
 noex:=λb o e hb=>by
  rcases(hf b hb).2.2.2.1 with z | z;{show I.ok.noex b o e z};{show MY (bU (aS e) (aX I.ok.bsz z)) (fU _)}
 exfs:=λb hb hs=>by
  rcases aY.mp (I.stkSub b hs)with z | z;{show(hf b hb).2.1 z};{show(hf b hb).2.2.1 z}
 funs:=I.stack
 frf:=I.stkFree
def Jh {h':MR}(I:Inv X f' σ H s)(S:pj X ns ys fr sc cl)(N:∀b∈fp,kq X f' H b)(O:∀b∈fp,b < ‹s›)(j:‹s› < C)
  (k:∀b o,s.heap.get? b=KE o->h'.get? b=KE o) (T:h'.get? ‹s›=KE { cls:=.type "list",data:=.seq ([]:AJ).toArray n }) (U:h'.Ns C m) :
  Inv (cxC X (ns++ys) sc cl C s H fp) [] (bC ns.length MN++pick σ fr) (upd H ‹s› (.lst [])) { s with heap:=h',toks:=t' }:=by
 have Y:H ‹s›=MN:=I.hok.fresh (aI _);have fC:H C=MN:=I.hok.fresh (iK j);have l:∀x c,cl.lookup x=KE c->c < ‹s›:=λx c e=>by
  obtain⟨v,q⟩:=I.cell x c (S.sub _ (fm e));show q.lt
 show{aiv I S N O (iK j),rfl,I.bare,Un.laid k (aI _) Y,{m,U,λi y v d a e3=>?_},λx c e=>?_,?_,λx c e=>?_,λp hp=>(nomatch hp),?_,?_}
 ·have d:(ns++ys)[i]?=KE y:=d;by_cases hi:i < ns.length;{rw[cA (⇑hi),dN,MU hi]at a;cases a}
  ·have D:ns.length<=i:=oC hi;rw[cN D]at d;rw[cN (⇑D),cY]at a;obtain⟨f,f1,f2,E,G⟩:=S.outs _ y d;unfold pick at a;rw[aN,f1]at a;have g:(σ[f]?).getD MN=KE v:=cB a;have e4:σ[f]?=KE (KE v):=by
    cases q:σ[f]? with
    |none=>rw[q]at g;cases g
    |some o=>
     rw[q]at g;have e5:o=KE v:=g;rw[e5]
   obtain⟨m0,hn0,w⟩:=I.loc;obtain⟨u,r,lk⟩:=w f y v f2 e4 (E.elim (λz=>.inr (.inl z)) λz=>.inr (.inr z));show{u,r,.inr {G,?_}};rcases lk with⟨z,_⟩ | ⟨_,c,ec,hc⟩;{rcases E with z' | z'<;>(rw[z]at z';cases z')};{obtain⟨c',J⟩:=S.has y G;have L:=S.sub _ (fm J);rw[ec]at L;have A:c=c':=cB L;subst A;show{c,J,hc.keeps k}}
 {obtain⟨v,q⟩:=I.cell x c (S.sub _ (fm e));show{v,q.keeps k}};{change upd H ‹s› (.lst []) C=MN;rw[bc (eX j)];show fC};{rw[bc (bH (l x c e))];show I.freeC x c (S.sub _ (fm e))};{show I.hok.laid k (aI _) {cH _,[],n,.nil,T}};{change(bC ns.length MN++pick σ fr).length=(ns++ys).length;rw[aH,aH,cY];unfold pick;rw[aC,S.len]}
def L8 (I:Inv X f' σ H s)(i:∀b∈fp,kq X f' H b)(j:‹s›<=C)(a:Inv (cxC X (ns++ys) sc cl C s H fp) [] l H' s')(hs:eN C s'.heap h') :
  Inv X f' σ H' { s' with heap:=h' }:=by
 have U:Un (frs X.stack) fp H H' s.heap s'.heap:=a.base;have ne:∀b o,s.heap.get? b=KE o->b≠C:=λb o e=>bH (bU (aS e) j);show I.call' (s':={ s' with heap:=h' }) (ch:=fp) a.os {λb o e n d f=>?_,λb o e n d f=>?_,U.free,λb o e f=>?_,U.tups,U.frzs,U.tbls} (λb u e=>?_) a.bare λb d=>?_;{show(hs.2 b (ne b o e)).trans (U.keep b o e n d f)};{obtain⟨m,q⟩:=U.slot b o e n d f;show{m,(hs.2 b (ne b o e)).trans q}};{obtain⟨p,q⟩:=U.there b o e f;show{p,(hs.2 b (ne b o e)).trans q}};{have g:H' C=MN:=a.free;show(a.hok b u e).stay (λc v r q=>(hs.2 c ?_).trans q) (λ_ q=>q) λ_ _ q=>q;intro z;rcases r with z' | z';{rw[<-z',z,g]at e;cases e};{rw[z,g]at z';cases z'}};{obtain⟨D,w,E,x,y,A⟩:=i b d;show#v[x,w,y,A]}
end
def aeq (S:pj X ns ys fr D cl)(hc:X.calm=MO)
  (hi:PI X tg iter wi) (hg:∀C s H f,PG (cxC X (ns++ys) D cl C s H f) tg g) (ht:∀C s H f,PTs (cxC X (ns++ys) D cl C s H f) AL tt) (he:∀C s H f,PE (cxC X (ns++ys) D cl C s H f) AD te)
  (hs:autoParam (∀x,iW iter X.e x=pure x) XW._auto_1):PE X (.ListComp AD [{tg,iter,AL,0}] D pos) (Lh ns.length fr wi g tt te):=by
 intro f' s σ H Q I h;rw[eval_ListComp];show wpAny_comprehension_free (use:=MN) rfl hs S.clos S.kind S.locs (thn (hi f' s σ H _ I h) λv s1 h1=>thn h1 λHU a h2=>?_);obtain⟨it,f,tn,J,O,e,I2,T,AR,f2,rest⟩:=h2;subst e;obtain⟨W,⟨m0,w0⟩,turn⟩:=rest ‹a› (I2.hok.fresh (aI _));show dW (wpAny_newFunctionEnv S.nocell (by intro y hy;simp at hy) (λh3 DY DH=>?_) S.kind);dsimp only at DY DH ⊢;generalize hG:a.heap.push { cls:=.type "list",dict:=MN,data:=.seq ([]:AJ).toArray }=G at DY DH ⊢;have zG:G.objs.size=‹a›+1:=(by rw[<-hG,eU]);have AM:‹a› < G.objs.size:=(by rw[zG];show jD _);have old:∀b o,a.heap.get? b=KE o->h3.get? b=KE o:=λb o e=>
  DH.extBut b o (bH (fW (aS e) AM)) (aE _ (hG ▸ aE _ e))
 have hD:=DH.extBut _ _ (bH AM) (aE _ (hG ▸ aZ _ rfl));have below:∀b∈f,b < ‹a›:=λb l=>by
  obtain⟨o,eo,_⟩:=T.obj _ _ AR b l;show aS eo
 have I3:=Jh (ns:=ns) (ys:=ys) (fr:=fr) (t':=a.toks+([]:List (Str×aK)).length) I2 S f2 below AM old hD DY;have zQ:∀{H':Hp},(∀b∈f,H' b=MN)->∀b∈f,kq (cxC X (ns++ys) D cl G.objs.size a O f) [] H' b:=λhn b l=>
  {hn b l,bH (fW (below b l) AM),I3.ok.exfs b l,.inl l,λx c e=>(I3.ok.exf b l).2 x c e,λp hp=>nomatch hp}
 have DV:tn 0 h3:=T.keep _ _ _ AR λb _ o e=>old b o e;have FN:∀b∈f,upd O ‹a› (.lst []) b=MN:=λb l=>by
  rw[bc (bH (below b l))];show(f2 b l).1
 have L:∀s3:aG,s3={ a with heap:=h3,toks:=a.toks+([]:List (Str×aK)).length }->
   kQ (aV X.p X.w) X.A (.compLoop (.ListComp AD [{tg,iter,AL,0}] D pos) 0 (.ref it) (.ref ‹a›) (compEnvC D cl G.objs.size X.e))
    (compPost (aV X.p X.w) X.A X.xe MN (EP X f' σ Q) (.ref ‹a›) G.objs.size) s3:=by
  intro s3 vP;subst vP;show Wn (λn s'=>∃i U H',Inv (cxC X (ns++ys) D cl G.objs.size a O f) [] (bC ns.length MN++pick σ fr) H' s'/\tn i s'.heap/\(∀b∈f,H' b=MN)/\W i n U H') ?_ m0 {0,[],_,I3,DV,FN,w0};intro n s5 vP;obtain⟨i,U,H5,I5,DB,EN,w5⟩:=vP;obtain⟨d5,IW⟩:=turn i n U H5 w5;rcases IW with⟨stop,q⟩ | ⟨go,hz,N,hN,step⟩;{show thn (T.done (cxC X (ns++ys) D cl G.objs.size a O f) rfl rfl rfl hc i [] s5 _ H5 _ I5 (zQ EN) DB stop) λr s6 z=>?_;obtain⟨hr,I6⟩:=z;subst hr;obtain⟨m6,IX,_⟩:=I6.loc;show{m6,IX,λh7 hs7=>{.ref ‹a›,H5,L8 I2 f2 (iK AM) I6 hs7,rfl,q}}}
  ·show thn (T.item (cxC X (ns++ys) D cl G.objs.size a O f) rfl rfl rfl hc i [] s5 _ H5 _ I5 (zQ EN) DB go) λr s6 z=>?_;obtain⟨u,hr,h6⟩:=z;subst hr;show thn h6 λ_ s7 z=>?_;obtain⟨x,H7,I7,r7,y7,EU,IY⟩:=z;have IZ:=I7.pinned (zQ IY) (T.obj _ _ EU);show thn (hg _ _ _ _ _ s7 _ H7 x u _ IZ r7 (step x H7 y7)) λ_ s8 z=>?_;obtain⟨E,H8,I8,⟨ts,eσ,EV⟩,q8⟩:=z;have again:∀{Y:Hp}{s9:aG}{EW:DK}{m':Nat},m' < n->Inv (cxC X (ns++ys) D cl G.objs.size a O f) ([]++xx f s7.heap) E Y s9->W (i+1) m' EW Y->
     ∃m,m < n/\∃i U H',Inv (cxC X (ns++ys) D cl G.objs.size a O f) [] (bC ns.length MN++pick σ fr) H' s9/\tn i s9.heap/\(∀b∈f,H' b=MN)/\W i m U H':=λ{Y s9 EW m'} hm I9 w9=>by
    show{m',hm,i+1,EW,Y,I9.unpinned.weak ?_ ?_,T.keep _ _ _ EU λb l o e=>(I9.pin (b,o) (bY _ (bY _ (ma l e)))).1,λb l=>?_,w9};{rw[eσ,aH,aH,cY,EV]};{intro j v e;rw[eσ];by_cases hj:j < ns.length;{rw[cA (⇑hj),dN,MU hj]at e;cases e};{have DZ:ns.length<=j:=oC hj;rw[cN (⇑DZ),cY]at e;rw[cN (by rw[EV];show DZ),EV];show e}};{obtain⟨o,e,d⟩:=T.obj _ _ EU b l;show(I9.pin (b,o) (bY _ (bY _ (ma l e)))).2.1}
   show thn (ht _ _ _ _ _ s8 E H8 _ I8 q8) λok s9 z=>?_;obtain⟨Y,I9,q9⟩:=z;cases ok with
   |false=>
    rw[MV aO]at q9 ⊢;obtain⟨m',hm,w9⟩:=hN _ _ q9;show again hm I9 w9
   |true=>
    rw[MU rfl]at q9 ⊢;show thn (he _ _ _ _ _ s9 E Y _ I9 q9) λyv HZ z=>?_;obtain⟨y,JA,JB,GU,JC,JD⟩:=z;show thn (Am _ HZ E JA (.ref ‹a›) [y] (.ref ‹a›) [yv] (λ_ GV=>N (U++[y]) GV) JB rfl (.cons GU .nil) {_,U,y,rfl,rfl,JC,hz,JD}) λ_ s11 z=>?_;obtain⟨_,GV,JE,_,JF⟩:=z;obtain⟨m',hm,JG⟩:=hN _ _ JF;show again hm JE JG
 show codeAny_compStart_list (L _ rfl) (T.self X.A 0 _ _ _ DV (L _ rfl))
section
variable {X:Cx}{f':BK}{σ:St}{H:Hp}{s:aG}{h':MR}
def Inv.track (I:Inv X f' σ H s)(f:kq X f' H a)(i:X.s₀.heap.objs.size<=a)(new:ObjOk X.p X.w (upd H a o) s.heap a o):Inv X f' σ (upd H a o) s:=by
 obtain⟨j,l,E,G,m,r⟩:=f;have old:∀b u,H b=KE u->upd H a o b=KE u:=λb u e=>by
  rw[bc (b7 e j)];show e
 show{I.ok,I.os,I.bare,{I.base.keep,I.base.slot,λb d e n y=>?_,I.base.there,λb xs e=>old _ _ (I.base.tups b xs e),λb d u e=>old _ _ (I.base.frzs b d u e),λb ps e=>?_},I.loc,I.cell,?_,λx c e=>?_,λp g=>?_,λb u e=>?_,I.len};{rw[bc (bH (bU (aS e) i))];show I.base.free b d e n y};{obtain⟨more,q⟩:=I.base.tbls b ps e;show{more,old _ _ q}};{rw[bc (Ne.symm l)];show I.free};{rw[bc (m x c e)];show I.freeC x c e};{obtain⟨A,C,D⟩:=I.pin p g;show{A,?_,D};rw[bc (r p g)];show C};{by_cases q:b=a;{subst q;rw[bh]at e;cases e;show new};{rw[bc q]at e;show(I.hok b u e).stay (λ_ _ _ z=>z) (λc z=>old _ _ z) λc xs z=>old _ _ z}}
def Inv.turnedAll {t':Nat}{ch:CZ}(I:Inv X f' σ H s)(d:∀b∈ch,kq X f' H b)(k:∀b o,b ∉ ch->s.heap.get? b=KE o->h'.get? b=KE o):Inv X f' σ H { s with heap:=h',toks:=t' }:=by
 have f:∀b u,H b=KE u->b ∉ ch:=λb u e z=>by
  rw[(d b z).1]at e;cases e
 show I.step (g':=s.gens) (d':=s.drawn) (ch:=ch) (λb g=>?_) (λb o _ _ a e _=>k b o a e) (λb o _ _ a e _=>{o.slots,k b o a e}) (λ_ _ _ _ n=>n) (λb o a e=>{o,k b o a e})
  (λ_ _ e=>e) (λ_ _ _ e=>e) (λb ps e=>{#[],by rw[e];simp}) (λm i=>?_) (λb u e=>?_) I.bare
 {obtain⟨C,j,D,l,p,w⟩:=d b g;show#v[l,j,p,w]};{obtain⟨o,x,y,A,r⟩:=i;show{o,x,y,k _ o (λz=>(d _ z).2.1 rfl) A,r}};{show(I.hok b u e).stay (λc v a q=>k c v ?_ q) (λ_ q=>q) λ_ _ q=>q;rcases a with z | z;{rw[z];show f b u e};{show f c _ z}}
end
section
variable {X:Cx}
def Wo (K:aF):R2:=λx y H Q=>∃a b ys,x=.ref a/\y=.ref b/\SqT K H a []/\SqT K H b ys/\Q (.ref b) H
def Z4:OpR X (eC .Add) (Wo X.K):=by
 intro E s G H x y v u Q I j l h;obtain⟨a,b,ys,rfl,rfl,m,n,q⟩:=h;cases j;cases l;obtain⟨its,o,p,_⟩:=I.tuple m;obtain⟨r,J,w,_⟩:=I.tuple n;cases o;obtain⟨⟨L,z,N,l1⟩,c,d,A,e⟩:=id p;obtain⟨⟨O,C,T,l2⟩,f,g,D,i⟩:=id w;simp only at d e g i;subst d e g i;show uE {_,c,rfl} {_,f,rfl} rE tQ nT nI (mN _ _)
  (tuple_addW0 a b #[] r.toArray A D z C l1 l2 rfl) {c,f,{.ref b,H,I,rfl,q}}
def Z5:OpR X (eC .Add) (λx y H Q=>acq X.K x y H Q\/Wo X.K x y H Q):=aek.or Z4
def rSlS:V->AK->AK->Hp->VK->Prop:=λx lo hi H Q=>∃z,x=.str z/\z.length<=sizeLine/\Q (.str (qC z lo hi)) H
def aiw:SlR X rSlS:=by
 intro f s g H x v n p lo hi r Q I m hs pl d h;obtain⟨z,rfl,hz,q⟩:=h;obtain⟨t,rfl⟩:=m;obtain⟨o,a,b,hd⟩:=hs;show{"str",_,F.slot_str_getitem.lookup,vE _ _ _,?_};have fin:∀t' k,EP X f g Q (.str (qC z lo hi) t') { s with toks:=k }:=λt' k=>{.str (qC z lo hi),H,I.tok k,#v[t',rfl],q};cases pl with
 |none=>
  cases d with
  |none=>show kN (l:=MN) (u:=MN) (st:=MN) #v[o,a,b,hd] rfl (pA {aX (rJ z _ _) hz,fin})
  |int j c=>show kN (l:=MN) (u:=KE (j,c)) (st:=MN) #v[o,a,b,hd] rfl (pA {aX (rJ z _ _) hz,fin})
 |int i e=>
  cases d with
  |none=>show kN (l:=KE (i,e)) (u:=MN) (st:=MN) #v[o,a,b,hd] rfl (pA {aX (rJ z _ _) hz,fin})
  |int j c=>show kN (l:=KE (i,e)) (u:=KE (j,c)) (st:=MN) #v[o,a,b,hd] rfl (pA {aX (rJ z _ _) hz,fin})
end
end L2
namespace L2
open PySem PySem.Spec PyProof.Rows
inductive Da where
 |flat (v:V)
 |tup (xs:List Da)
 |lst (xs:List Da)
mutual
inductive T8 (K:aF)(H:Hp):V->Da->Prop where
 |flat {v:V}:pf v=MO->T8 K H v (.flat v)
 |tup {a:MQ}{xs:DK}{ds:List Da}:SqT K H a xs->Holds K H xs ds->T8 K H (.ref a) (.tup ds)
 |lst {a:MQ}{xs:DK}{ds:List Da}:SqL K H a xs->Holds K H xs ds->T8 K H (.ref a) (.lst ds)
inductive Holds (K:aF)(H:Hp):DK->List Da->Prop where
 |nil:Holds K H [] []
 |cons {x:V}{xs:DK}{d:Da}{ds:List Da}:T8 K H x d->Holds K H xs ds->Holds K H (x::xs) (d::ds)
end
mutual
def Da.dep:Da->Nat
 | .flat _=>0
 | .tup xs=>depL xs+1
 | .lst xs=>depL xs+1
def depL:List Da->Nat
 | []=>0
 |d::r=>max d.dep (depL r)
end
section
variable {K:aF}{H H':Hp}
def SqT.same (h:SqT K H a xs)(e:Same H H'):SqT K H' a xs:=by
 rcases h with(h | ⟨o,h⟩) | h;{show .inl (.inl (e _ _ h))};{show .inl (.inr {o,e _ _ h})};{show .inr h}
end
section
variable {X:Cx}
inductive TyQ (K:aF)(H:Hp):V->aK->Prop where
 |of {x:V}{t:aK}:qp K H x t->TyQ K H x t
 |sqt {a:MQ}{xs:DK}:SqT K H a xs->TyQ K H (.ref a) (.type "tuple")
 |sql {a:MQ}{xs:DK}:SqL K H a xs->TyQ K H (.ref a) (.type "list")
def rIsq (K:aF):DK->Hp->VK->Prop:=λxs H Q=>∃x t n b,xs=[x,.ty n]/\TyQ K H x t/\eF K t (.type n)=KE b/\Q (.bl b) H
def Z6:i9 X (.builtin "isinstance") (rIsq X.K):=by
 intro j s l H xs us Q I r h;obtain⟨x,t,n,b,rfl,ty,e,q⟩:=h;obtain⟨u,c,rfl,d,rc⟩:=En r;cases(show c=mU n from rc);have fin:∀f,EP X j l Q (.bool b) { s with toks:=f }:=λf=>{.bl b,H,I.tok f,rfl,q};cases ty with
 |of ty=>show Wc I d ty e fin
 |@sqt a xs h=>
  cases(show u=bQ a from d);obtain⟨its,_,⟨o,g,i,_⟩,_⟩:=I.tuple h;show eV PySem.W.kitx_tuple I.kIn #v[o,g,i] e (λz=>nomatch z) fin
 |@sql a xs h=>
  cases(show u=bQ a from d);obtain⟨its,_,pl,_⟩:=I.list h;obtain⟨o,g,i,_⟩:=pl.isList;show eV qQ I.kIn #v[o,g,i] e (λz=>nomatch z) fin
end
mutual
def Da.fix:Da->Bool
 | .flat _=>MO
 | .tup xs=>fixL xs
 | .lst _=>MP
def fixL:List Da->Bool
 | []=>MO
 |d::r=>d.fix && fixL r
end
def Tups (H H':Hp):Prop:=(∀b xs,H b=KE (.tup xs)->H' b=KE (.tup xs))/\∀b o u,H b=KE (.frz o u)->H' b=KE (.frz o u)
def Tups.of (e:Same H H'):Tups H H':={λ_ _ h=>e _ _ h,λ_ _ _ h=>e _ _ h}
section
variable {K:aF}{H H':Hp}
def SqT.tups (h:SqT K H a xs)(e:Tups H H'):SqT K H' a xs:=by
 rcases h with(h | ⟨o,h⟩) | h;{show .inl (.inl (e.1 _ _ h))};{show .inl (.inr {o,e.2 _ _ _ h})};{show .inr h}
end
open Sem (wp)
section
variable {prog:aQ}{w:bB}{A:bX}{E:aK->aG->Prop}{s:aG}
def drawT (hi:s.heap.IsTupleIter it t k)(c:s.heap.IsTuple t its)(d:its[k]?=KE y)
  (e:∀h',h'.IsTupleIter it t (k+1)->eN it s.heap h'->Q y { s with heap:=h' }):aJ (aV prog w) A (dQ (.ref it)) Q E s:=by
 obtain⟨j,b,f,a⟩:=id hi;obtain⟨l,g,_,m,i⟩:=c;unfold dQ;show aA (dO (name:=dG "__next__") hi.typeIs F.slot_tuple_iterator_next (dD F.slot_tuple_iterator_next hi.typeIs F.entry_tuple_iterator_next ?_ (F.args_tuple_iterator_next_1 _)));change aJ _ _ (pB (.ref it) 0 >>= _) _ _ s;show aA (dF b a (x:=.ref t) rfl ?_);change aJ _ _ (if (bQ t == fR)=MO then _ else _) _ _ s
 rw[MV (show ¬((bQ t == fR)=MO)from aO)];change aJ _ _ (pB (.ref it) 1 >>= _) _ _ s;show aA (dF b a (x:=.int k 0) rfl ?_);change aJ _ _ (seqItems? (.ref t) >>= _) _ _ s;show aA (eI g i ?_);simp only[bT,d];show aA (nA b a ∅ (wpAny_pure {y,rfl,wpAny_pure (e _ ?_ (eM ..))}));show{_,gH _ b (oM (gL a _)),(qT ..).trans f,by rw[gL a];simp[kU]}
def Wp (d:A.handled=MN)(hi:s.heap.IsTupleIter it t k)(f:s.heap.IsTuple t its)(g:its[k]?=MN)
  (i:∀h' e,mD it s.heap h'->(∃o,h'.get? e=KE o/\o.cls=.type "StopIteration")->E (.ref e) { s with heap:=h' }):aJ (aV prog w) A (dQ (.ref it)) Q E s:=by
 obtain⟨n,b,p,c⟩:=id hi;obtain⟨q,j,_,r,l⟩:=f;unfold dQ;show aA (dO (name:=dG "__next__") hi.typeIs F.slot_tuple_iterator_next (dD F.slot_tuple_iterator_next hi.typeIs F.entry_tuple_iterator_next ?_ (F.args_tuple_iterator_next_1 _)));change aJ _ _ (pB (.ref it) 0 >>= _) _ _ s;show aA (dF b c (x:=.ref t) rfl ?_);change aJ _ _ (if (bQ t == fR)=MO then _ else _) _ _ s
 rw[MV (show ¬((bQ t == fR)=MO)from aO)];change aJ _ _ (pB (.ref it) 1 >>= _) _ _ s;show aA (dF b c (x:=.int k 0) rfl ?_);change aJ _ _ (seqItems? (.ref t) >>= _) _ _ s;show aA (eI j l ?_);simp only[bT,g];show aA (lN (aA (nA b c ∅ ?_)));change aJ _ _ (newExc (.type "StopIteration") [] >>= _) _ _ _;show aA ?_;simp only[newExc,newTuple];show aA (dW ?_ (by size_fits));show aA (m:=pR _ _) (uU (a:=fR) (by first | rfl | (simp only[pR];rfl)) ?_)
 show dW ?_ (by size_fits);simp only[raiseNew];show aA (wpAny_handled ?_)
 first | rw[show A.in1.handled=MN from d] | rw[d]
 show aA (wpAny_pure (wpAny_throw ?_));show i _ _ (((eM ..).extBut.push _).push _) {_,aZ _ rfl,rfl}
end
open Sem (wp)
section
variable {prog:aQ}{w:bB}{A:bX}{E:aK->aG->Prop}
theorem acs (ne:l≠it):∀n k s Q,s.heap.IsListIter it l k->s.heap.IsList l its->k+n<=its.size->
  (∀h',h'.IsListIter it l (k+n)->eN it s.heap h'->Q ((its.toList.drop k).take n) { s with heap:=h' })->aJ (aV prog w) A (draw (.ref it) n) Q E s
 |0,k,s,Q,hi,_,_,q=>by
  change aJ _ _ (pure []) Q E s;show wpAny_pure (⇑(q s.heap hi (qU ..)))
 |n+1,k,s,Q,hi,a,le,q=>by
  have lt:k < its.size:=();change aJ _ _ (iM (.ref it) >>= _) Q E s;show aA (nS hi a (x:=its[k]) (by simp[lt]) λi c b=>?_);show aA (dA (acs ne n (k+1) _ _ c (a.extBut b.extBut ne) () λd f g=>wpAny_pure ?_));have e:its.toList.drop k=its[k]::its.toList.drop (k+1):=(by simp[gF,lt]);have z:=q d (by rw[show k+(n+1)=k+1+n by lia];show f) (b.trans g);rw[e,List.take_succ_cons]at z;show z
def aer (f:A.handled=MN)(a:s.heap.IsList l its)
  (q:∀h',mD ‹s› s.heap h'->Q its.toList { s with heap:=h' }):aJ (aV prog w) A (unpackItems (.ref l) its.size MN) Q E s:=by
 have ne:l≠‹s›:=(by obtain⟨o,g,_⟩:=a;show bH (aS g));unfold unpackItems;show aA ?_
 ·unfold notIterableAtAll;show aA (gG a.typeIs slot_list_iter.lookup ?_);show wpAny_pure ?_;simp only[bM,if_false];show aA (dA (dJ a ?_));show aA (dA (acs ne its.size 0 _ _ {_,aZ _ rfl,rfl,rfl} (jE a _) () λi j c=>?_));have e:List.take its.size (List.drop 0 its.toList)=its.toList:=by
   rw[sJ];show fY ∅
  rw[e];rw[MV ∅];have m:i.IsList l its:=(jE a _).extBut c.extBut ne;show aA (dA (oI f j m ∅ λn p=>?_));simp only[Option.isSome_none,bM,if_false];show wpAny_pure (q n λb o d z=>p b o d (c.extBut b o d (aE _ z)))
end
section
variable {X:Cx}{pos:Pos}
def gLst (K:aF)(n:Nat)(t:TGs):TG:=λv b H Q=>∃a xs,v=.ref a/\SqL K H a xs/\xs.length=n/\t xs b H Q
def aix (i:X.calm=MO)(h:PGs X c t)
  (j:↥((jW c X.e).length=n)) (l:↥((jW c X.e).findIdx? (·.1)=MN)):PG X (.Tuple c k pos) (gLst X.K n t):=by
 intro d s f H v u Q I r hw;obtain⟨a,xs,rfl,m,p,hw⟩:=hw;cases r;obtain⟨its,g,q,hz⟩:=I.list m;have hsz:its.toArray.size=n:=(by rw[aL,<-g.length,p]);rw[arm_assign_Tuple];show aA (qG ?_);unfold unpack;rw[j,l,<-hsz];show aA (dA (aer (I.ok.hd i) q.isList λh' w=>?_));have x:Inv X d f H { s with heap:=h' }:=I.kept (t':=s.toks) λb o e=>w b o (bH (aS e)) e;show h d _ f H xs _ Q x (⇑g) hw
theorem Ji {val:Nat->Int}{n:Nat}(h:∀j,j < n->-1000000<=val j/\val j<=1000000):∀j,j<=n->-(1000000 * (j:Int))<=rK val j/\rK val j<=1000000 * (j:Int)
 |0,_=>{by change _<=(0:Int);lia,by change(0:Int)<=_;lia}
 |j+1,a=>by
  have z:=Ji h j ();have y:=h j ();change _<=rK val j+val j/\rK val j+val j<=_;lia
def rAllB (K:aF):DK->Hp->VK->Prop:=λxs H Q=>∃(a:MQ)(bs:List Bool),xs=[.ref a]/\SqL K H a (bs.map V.bl)/\Q (.bl (bs.all id)) H
def Wq (D:X.calm=MO):i9 X (.builtin "all") (rAllB X.K):=by
 intro j s E H xs us Q I r h;obtain⟨a,bs,rfl,G,q⟩:=h;obtain⟨u,rfl,f⟩:=jg r;cases f;obtain⟨its,l,pl,hz⟩:=I.list G;have g:=pl.isList;have lt:a < ‹s›:=(by obtain⟨o,J,_⟩:=g;show aS J);have L:Inv X j E H { s with heap:=s.heap.push { cls:=.type "list_iterator",data:=.fields #[.ref a,.int 0 0] } }:=I.kept (t':=s.toks) λb o e=>aE _ e;have c:kq X j H ‹s›:=I.fpOk (aI _) (I.hok.fresh (aI _));have len:its.length=bs.length:=(by rw[<-l.length,aC]);have tr:TruthOf X.p X.w X.A.in1 (λi v=>its.toArray[i]?=KE v) (λi=>bs.getD i MO):=λi v s' N E' e O=>by
  have m:its[i]?=KE v:=(⇑e);have hi:i < bs.length:=(by rw[<-len];show(bK.mp m).1);obtain⟨u,n,f⟩:=l.get (i:=i) (x:=.bl bs[i]) (by rw[aN,aB hi];rfl);rw[m]at n;cases n;cases(show v=mT bs[i]from f);show jU ?_;have z:bs.getD i MO=bs[i]:=(by rw[bN,aB hi];rfl);have p:N (bs.getD i MO) s':=O;rw[z]at p;show p
 show call_all_walk (dJ g {‹s›,[‹s›,a],[‹s›],its.toArray.size,_,_,λi=>bs.getD i MO,rfl,tF (show X.A.in1.handled=MN from I.ok.hd D) ‹s› a (bH lt) its.toArray,{{_,aZ _ rfl,rfl,rfl},jE g _},tr,λh' T U=>?_});have Y:(bA its.toArray.size).all (λi=>bs.getD i MO)=bs.all id:=by
  rw[aL,len,fO,List.all_eq_true,List.all_eq_true];constructor;{intro z b d;obtain⟨i,hi,rfl⟩:=List.mem_iff_getElem.mp d;have y:=z i (bW.mpr hi);rw[bN,aB hi]at y;show y};{intro z i hi;have C:=bW.mp hi;rw[bN,aB C];show z _ (fS C)}
 rw[Y];show{.bl _,H,L.turnedAll (t':=T) (ch:=[‹s›]) (λb d=>?_) (λb o d e=>U b o d e),rfl,q};cases aR.mp d;show#v[c.1,c.2.1,c.2.2.1,c.2.2.2.1,c.2.2.2.2.1,c.2.2.2.2.2]
end
end L2
namespace HT
open PySem PyProof.Rows
section
variable {prog:aQ}{w:bB}{A:bX}{E:aK->aG->Prop}{s:aG}
def Dd {n:Nat}{Q:Int×Int×Nat->aG->Prop}(hs:s.heap.IsSliceOf d .none .none (.int (-1) t))
  (h:Q ((n:Int) - 1,-1,n) s):aJ (aV prog w) A (jR (.ref d) (pure (n:Int))) Q E s:=by
 obtain⟨os,a,g,b⟩:=id hs;unfold jR Builtin.Slice.sliceFields;show aA (aA (dF a b (x:=.none) rfl (aA (dF a b (x:=.none) rfl (aA (dF a b (x:=.int (-1) t) rfl (wpAny_pure ?_)))))));show aA (slicePart_int ?_);change aJ _ _ (if ((-1:Int) == 0)=MO then _ else _) _ _ s
 rw[MV #v[]];show aA (pP (aA (pP (aA (wpAny_pure ?_)))));change aJ _ _ (match gE MN MN (-1) (n:Int)with | (lo,hi)=>pure (lo,(-1:Int),eQ lo hi (-1))) _ _ s
 have e:gE MN MN (-1) (n:Int)=((n:Int) - 1,-1):=by
  unfold gE;have c:(-1:Int) < 0:=();simp only[c,if_true]
 rw[e];change aJ _ _ (pure ((n:Int) - 1,(-1:Int),eQ ((n:Int) - 1) (-1) (-1))) _ _ s;have f:eQ ((n:Int) - 1) (-1) (-1)=n:=by
  unfold eQ;have c:¬((-1:Int) > 0):=();simp only[c,if_false,Int.neg_neg,uF]
  split<;>lia
 rw[f];show wpAny_pure h
def Z7 (xs:AJ):((bA xs.length).filterMap λ(m:Nat)=>xs.toArray[(((xs.length:Nat):Int) - 1+(m:Int) * (-1)).toNat]?)=xs.reverse:=by
 have e:∀(l:L1),(∀m∈l,m < xs.length)->(l.filterMap λ(m:Nat)=>xs.toArray[(((xs.length:Nat):Int) - 1+(m:Int) * (-1)).toNat]?)=l.filterMap λm=>xs.reverse[m]?:=by
  intro l
  induction l with
  |nil=>intro _;rfl
  |cons m r b=>
   intro a;have c:m < xs.length:=a m aP;have q:(((xs.length:Nat):Int) - 1+(m:Int) * (-1)).toNat=xs.length - 1 - m:=();rw[gB,gB,b λk hk=>a k (aT _ hk),q];have z:xs.toArray[xs.length - 1 - m]?=xs.reverse[m]?:=by
    rw[List.getElem?_reverse c];simp
   rw[z]
 rw[e _ λm a=>bW.mp a];have f:∀(ys:AJ)(k:Nat),k<=ys.length->(bA k).filterMap (λm=>ys[m]?)=ys.take k:=by
  intro ys k
  induction k with
  |zero=>intro _;rfl
  |succ k b=>
   intro hk;rw[iP,jM,b (),cX,aB (by lia:k < ys.length)];simp[aB (by lia:k < ys.length)]
 have g:=f xs.reverse xs.length (by rw[fH];show aI _);rw[g,fY (by rw[fH];show aI _)]
def getItem_tuple_rev {its:AJ}(a:rR s.heap p its.toArray)(hs:s.heap.IsSliceOf b .none .none (.int (-1) t))
  (h:Q (.ref ‹s›) { s with heap:=s.heap.push { cls:=.type "tuple",data:=.seq its.reverse.toArray } }) (hz:its.length<=sizeLine):aJ (aV prog w) A (mZ (.ref p) (.ref b)) Q E s:=by
 have ok:sizeOk (.seq its.reverse.toArray):=by
  change its.reverse.toArray.size<=sizeLine;rw[aL,fH];show hz
 obtain⟨os,c,d,g⟩:=id hs;have e:s.TypeIs (.ref b) "slice":=#v[os,c,d];unfold mZ
 try with_reducible show dA ?_
 first | show aA (wpAny_pure ?_) | skip
 show aA (qR a.typeIs #v[] ?_);show aA (dO (name:=dG "__getitem__") a.typeIs dC (dD dC a.typeIs pK ?_ (qB _ _)));change aJ _ _ (jS (.ref p) >>= _) _ _ s;show aA (tupleItemsOf_ a ?_);show aA (iN e ?_);rw[MU #v[]];show aA (Dd hs ?_);have no:¬(((((its.toArray.size:Nat):Int) - 1) == 0 && (-1:Int) == 1 && its.toArray.size == its.toArray.size)=MO):=by
  intro q;rw[cI,cI]at q;show MY q.1.2 #v[]
 change aJ _ _ (if ((((its.toArray.size:Nat):Int) - 1) == 0 && (-1:Int) == 1 && its.toArray.size == its.toArray.size)=MO then _ else _) _ _ s
 rw[MV no];have f:((bA its.toArray.size).filterMap λ(m:Nat)=>its.toArray[(((its.toArray.size:Nat):Int) - 1+(m:Int) * (-1)).toNat]?)=its.reverse:=by
  rw[aL];show Z7 its
 rw[f]
 first
  |show aA (m:=fM _) (dW (wpAny_pure {_,rfl,wpAny_pure h}) ok)
  |show aA (aA (m:=fM _) (dW (wpAny_pure {_,rfl,wpAny_pure h}) ok))
  |show aA (aA (m:=fM _) (dW (wpAny_pure (wpAny_pure {_,rfl,wpAny_pure h})) ok))
end
end HT
namespace L2
open PySem PySem.Spec PyProof.Rows
section
variable {X:Cx}{e st:MS}{te ts:TE}{pos p2:Pos}
def tRev (K:aF)(te ts:TE):TE:=λc H Q=>te c H λx d=>ts c d λy b=>y=.int (-1)/\∃a xs,x=.ref a/\SqT K b a xs/\∀p,b p=MN->Q (.ref p) (upd b p (.tup xs.reverse))
def aes (m:PE X e te)(hs:PE X st ts):PE X (.Subscript e (.Slice MN MN (KE st) p2) pos) (tRev X.K te ts):=by
 intro d s f H Q I h;show Subscript_ (thn (m d s f H _ I h) λv n g=>?_);obtain⟨x,p,r,u,z⟩:=g;show wpAny_Slice ?_;rw[tR];show wpAny_pure (wpAny_pure ?_);rw[evalPart_some];show thn (hs d n f p _ r z) λvs c g=>?_;obtain⟨y,C,D,E,G⟩:=g;obtain⟨rfl,a,xs,rfl,J,q⟩:=G;obtain⟨t,rfl⟩:=E;cases(show v=bQ a from u);have i:Inv X d f C { c with heap:=c.heap.push { cls:=.type "slice",data:=.fields #[.none,.none,.int (-1) t] } }:=D.kept (t':=c.toks) λb L q=>aE _ q;obtain⟨its,j,l,hz⟩:=i.tuple J;have N:its.length<=sizeLine:=(by rw[<-j.length];show hz);change aJ (aV X.p X.w) X.A (tS e (.Slice MN MN (KE st) p2) (.ref a) (.ref ‹c›)) (EP X d f Q) X.xe { c with heap:=c.heap.push { cls:=.type "slice",data:=.fields #[.none,.none,.int (-1) t] } };show tail_any (ops:=[.ref a,.ref ‹c›]) l.typeIs dC.lookup (HT.getItem_tuple_rev l (Heap.IsSliceOf.new ..) ?_ N) (by with_unfolding_all rfl)
 show{.ref _,_,i.laid (t':=c.toks) (o:=.tup xs.reverse) (λb L q=>aE _ q) (aI _) ?_,rfl,q _ (i.hok.fresh (aI _))};show{by rw[fH];show hz,_,j.reverse,uG _ _}
def aet (l b:MQ)(xs ys:AW)(n k:Nat)(dd:Option MQ)(d:Array AX)(f:¬(!xs.isEmpty && gK (xs.size+ys.size))=MO)(a:xs.size<=sizeLine)(g:xs.size+ys.size<=sizeLine+1) :
  Meets (hU.«list.extend» {[.ref l,.ref b],[]}) (λ_ R s=>s.heap.get? l=KE { cls:=.type "list",dict:=MN,data:=.seq xs n,slots:=#[] }/\s.heap.get? b=KE { cls:=.type "tuple",dict:=dd,data:=.seq ys k,slots:=d }/\R (.ok (.ret fR)) { s with heap:=s.heap.update l (fA λx=>x++ys),toks:=s.toks }):=
 .of_wp λprog w A R s h=>by
  obtain⟨m,o,p,q,os⟩:=s;obtain⟨c,i,h⟩:=h;have r:=AutoSeq1.idx_int;have u:=AutoSeq1.sub_tuple_tuple;have y:=AutoSeq1.sub_list_list;have z:=AutoSeq1.sub_tuple_list;have C:=AutoSeq1.sub_list_tuple;have j:(xs++ys).size<=sizeLine+1:=by rw[Array.size_append];show g
  wp_walk using(wpAny_updateSeq c rfl (hz:=a) (_hz':=j)),AutoSeq1.wpAny_loadPart' c,AutoSeq1.wpAny_loadPart' i
  show{_,rfl,h}
def rExtT (K:aF):V->DK->Hp->VK->Prop:=λx vs H Q=>∃l b xs a,x=.ref l/\vs=[.ref b]/\H l=KE (.lst xs)/\SqT K H b a/\xs.length+a.length<=sizeLine/\Q .non (upd H l (.lst (xs++a)))
def aeu:MtM X "list.extend" (rExtT X.K):=by
 intro C s D H x vs v us Q I i j h;obtain⟨l,b,xs,E,rfl,rfl,c,m,hz,q⟩:=h;cases i;obtain⟨u,rfl,o⟩:=j.one;cases o;obtain⟨z,its,n,r,G,e⟩:=I.lstM c;obtain⟨a,d,p2,_⟩:=I.tuple m;have J:=d.length;obtain⟨⟨L,p,N,l2⟩,w,f,y,g⟩:=id p2;simp only at f g;subst f g;have hsz:its.toArray.size+a.toArray.size<=sizeLine:=(by rw[aL,aL];lia);have A:¬(!its.toArray.isEmpty && gK (its.toArray.size+a.toArray.size))=MO:=by
  rw[Dc hsz,lG];show aO
 show jH F.slot_list_extend {_,e,rfl} F.entry_list_extend (F.args_list_extend_2 _ _) (aet l b its.toArray a.toArray n y p l2 A (by rw[aL];lia) ()) {e,w,?_};show{.non,_,I.lset (its':=its++a) c e ∅ (r.append d) ?_,rfl,q};rw[aH];lia
end
def aev {K:aF}{o:Obj}{its:AW}(l:K.lookup a=KE o)(c:o.cls=.type "tuple")(d:o.data=.seq its n)(z:its.size<=sizeLine)(r:Vals xs its.toList):SqT K H a xs:=
 .inr #v[o,its,n,l,c,d,z,r]
open Sem (wp)
open Sem (wp)
open AutoSeq1 (wpAny_loadPart')
def cs_of (L:List (Str×rD))(clos:vH sc X.e=pure cl)(kind:sc.kind=.function)(nocell:∀y∈sc.names,y.2≠.cell)(locs:∀y∈sc.names,y.2=.local->sc.names.lookup y.1=KE .local)
  (sub:∀p∈cl,X.e.cells.lookup p.1=KE p.2) (eL:(mB sc X.e).names=L) (hL:∀p∈L,p.2=.cell\/p.2=.free->∃c,cl.lookup p.1=KE c) (len:fr.length=ys.length)
  (outs:∀(j:Nat)(y:Str),ys[j]?=KE y->∃i:Nat,fr[j]?=KE i/\X.N[i]?=KE y/\(X.e.kindOf y=KE .cell\/X.e.kindOf y=KE .free)/\((mB sc X.e).names.lookup y=KE .cell\/(mB sc X.e).names.lookup y=KE .free)):pj X ns ys fr sc cl where
 clos:=clos
 kind:=kind
 nocell:=nocell
 locs:=locs
 sub:=sub
 has:=λy h=>by
  rw[eL]at h;rcases h with h | h;{show hL _ (fm h) (.inl rfl)};{show hL _ (fm h) (.inr rfl)}
 len:=len
 outs:=outs
section
variable {X:Cx}
def rBits:V->DK->Hp->VK->Prop:=λx vs H Q=>∃i,x=.int i/\vs=[]/\Q (.int (kJ i:Nat)) H
def aew:MtM X "int.bit_length" rBits:=by
 intro d s e H x vs v us Q I a b h;obtain⟨i,rfl,rfl,q⟩:_:=h;obtain⟨t,rfl⟩:_:=a;have c:=b.zero;subst c;show call_gives PySem.F.slot_int_bit_length (tD s i t) PySem.F.entry_int_bit_length (PySem.F.args_int_bit_length_1 _) (AutoIntG2.int_bit_length_int_0 i t) {.int _,H,I.tok _,{_,rfl},q}
def Z8 (k:Nat):kJ ((2:Int) ^ k)=k+1:=by
 have e:((2:Int) ^ k)=((2 ^ k:Nat):Int):=∅;unfold kJ;rw[e,MV (by have:=pC k;simp;lia)];rw[Int.natAbs_natCast,Nat.log2_two_pow]
end
def Itv (K:aF)(a:MQ)(n:Nat):It:=
 {λi H=>∃xs x,SqL K H a xs/\xs.length=n/\i < n/\xs[n - 1 - i]?=KE x,λi H x H'=>H'=H/\∀xs,SqL K H a xs->xs[n - 1 - i]?=KE x,λi _=>n<=i}
def Z9 {P:aQ}{w:bB}{K:aF}{tg:MS}(a it:MQ)(n:Nat):Aj P w K tg (Itv K a n) [it] it (λi h=>i<=n/\h.IsRevIter it a ((n:Int) - 1 - (i:Int))) where
 mem:=by simp
 obj:=λi h st b hb=>by
  have e:b=it:=(⇑hb);subst e;obtain⟨_,o,e,c,d⟩:=st;show{o,e,λv z=>by rw[d]at z;cases z}
 keep:=λi h h' st k=>{st.1,st.2.at λo e=>k it ∅ o e}
 item:=by
  intro X hP hw hK hc i f' s σ H E I hf st hg;subst hP hw hK;obtain⟨xs,x,hq,hl,hi,hx⟩:=hg;obtain⟨its,rv,p,hz⟩:=I.list hq;obtain⟨u,hu,ru⟩:=rv.get hx;obtain⟨f0,f1,f2,f3,f4,f5⟩:=hf it ∅;have e:(n:Int) - 1 - (i:Int)=((n - 1 - i:Nat):Int):=();have AR:=st.2;rw[e]at AR;show wpAny_pyNext_rev_item AR p.isList (x:=u) (⇑hu) λh' zZ sb=>?_;have e2:((n - 1 - i:Nat):Int) - 1=(n:Int) - 1 - ((i+1:Nat):Int):=();rw[e2]at zZ;have I1:Inv X f' σ H { s with heap:=h' }:=I.turned (t':=s.toks) (λb o hb e=>(sb.2 b hb).trans e) f0 f1 f3 f4 f5;obtain⟨o,e,c,d⟩:=id zZ;show⟨u,rfl,El (s:={ s with heap:=h' }) e c d #v[] {x,H,I1,ru,{rfl,λys hy=>by rw[I.list_inj hy hq];show hx},#v[hi,zZ],λb hb=>(hf b hb).1}⟩
 done:=by
  intro X hP hw hK hc i f' s σ H E I hf st hg;subst hP hw hK;have IA:n<=i:=hg;obtain⟨f0,f1,f2,f3,f4,f5⟩:=hf it ∅;have e:(n:Int) - 1 - (i:Int)=-1:=(by have:=st.1;lia);have AR:=st.2;rw[e]at AR;show wpAny_pyNext_rev_end (I.ok.hd hc) AR λh' eb=>{rfl,I.turned (t':=s.toks) (λb o hb e=>eb b o hb e) f0 f1 f3 f4 f5}
 self:=λ_ _ _ _ _ st h=>wpAny_pyIter_revIter st.2 h
section
variable {X:Cx}
def iRev (K:aF)(c:TA):TI:=λd H R=>c d H λvs b=>∃a xs,vs=[.ref a]/\SqL K b a xs/\R (Itv K a xs.length) b
def aiy {m f:MS}{i:TA}{p d:Pos}(n:Gl X "reversed")(r:X.mg "reversed"=MN)(w:PA X [f] i)(hs:↥(aM [f] X.e=[(MP,eval f X.e)]))
  (j:↥(aM [] X.e=[])):PI X m (.Call (.Name "reversed" p) [f] [] d) (iRev X.K i):=by
 intro x s y H R I h;show Call_ (j7 I n r (by kernel_rfl:dY (dG "reversed")=KE (.type "reversed")) (eB (thn (w d x s y H _ I h) λus c ⟨vs,z,g,A,C⟩=>?_) (by rw[hs,j]) (by rw[j];rfl)));obtain⟨a,xs,e,D,q⟩:=C;subst e;obtain⟨u,rfl,E⟩:=jg A;cases(show u=bQ a from E);obtain⟨its,G,J,_⟩:=g.list D;have l1:=G.length;show call_reversed_list (J.isList) ?_;have e:((its.toArray.size:Nat):Int) - 1=((xs.length:Nat):Int) - 1 - ((0:Nat):Int):=(by simp;lia);rw[e];have l:(c.heap.push (revObj a (((xs.length:Nat):Int) - 1 - ((0:Nat):Int)))).IsRevIter ‹c› a (((xs.length:Nat):Int) - 1 - ((0:Nat):Int)):={_,aZ _ rfl,rfl,rfl};show wpAny_pyIter_revIter l ?_;show{‹c›,[‹c›],_,_,z,rfl,g.kept (t':=c.toks) λb o e=>aE _ e,Z9 a _ xs.length,{cH _,l},λb L=>?_,q};have e:b=‹c›:=(⇑L);subst e;show g.fpOk (aI _) (g.hok.fresh (aI _))
end
section
variable {X:Cx}{f':BK}{σ:St}{H:Hp}{s:aG}
theorem Et:∀{x its},Vals (x.map V.int) its->PySem.ItemsAre (eZ prog w) x its
 | [],_,r=>by cases r;show .nil
 |n::x,_,r=>by
  cases r with
  |cons h t=>
   obtain⟨a,rfl⟩:=(show ∃t,_=jZ n t from h);show .cons (by change fE n (jZ n a)=MO;simp[fE]) (Et t)
def Inv.key (I:Inv X f' σ H s)(prog:aQ)(w:bB)(h:SqT X.K H a (x.map V.int)):jI (eZ prog w) s.heap x a:=by
 obtain⟨its,r,p,_⟩:=I.tuple h;obtain⟨o,b,c,n,d⟩:=p;show{o,its.toArray,n,b,c,d,by simpa using Et r}
def Inv.eqT (I:Inv X f' σ H s){A:bX}(c:A.units < cK){x y:LQ}(d:SqT X.K H a (x.map V.int))(e:SqT X.K H b (y.map V.int)):sY A s (.ref a) (.ref b) (decide (x=y)):=
 λprog w _ _ f=>wpAny_eqBool_tuple c (I.key prog w d) (I.key prog w e) f
def Inv.tup_inj (I:Inv X f' σ H s){x y:LQ}(b:SqT X.K H a (x.map V.int))(c:SqT X.K H a (y.map V.int)):x=y:=
 (I.key X.p X.w b).inj (I.key X.p X.w c)
def aex (K:aF):V->DK->Hp->VK->Prop:=λx vs H Q=>∃(a b:MQ)(xs:DK) (ls:LJ) (l:LQ),x=.ref a/\vs=[.ref b]/\SqL K H a xs/\Paired (λy m=>∃c,y=.ref c/\SqT K H c (m.map V.int)) xs ls/\
 SqT K H b (l.map V.int)/\l∈ls/\Q (.int (ls.idxOf l:Nat)) H
theorem wg:∀{xs:List a}{ys:List b},Paired F xs ys->∀{i:Nat}{x:a},xs[i]?=KE x->∃y,ys[i]?=KE y/\F x y
 |_,_,.nil,i,x,e=>by simp at e
 |_,_,.cons h _,0,x,e=>by simp at e;subst e;show{_,rfl,h}
 |_,_,.cons _ t,i+1,x,e=>by simpa using wg t (i:=i) (x:=x) (⇑e)
theorem L9 [BEq b][LawfulBEq b]:∀{ls:List b}{m:Nat},m < ls.idxOf l->∀(a:m < ls.length),ls[m]≠l
 | [],m,h,a=>MY a (jN _)
 |x::xs,m,h,a=>by
  rw[List.idxOf_cons]at h;by_cases e:x == l;{rw[e]at h;show MY h (jN _)}
  ·have c:(x == l)=MP:=(⇑e);rw[c]at h;cases m with
   |zero=>simpa using e
   |succ m=>show L9 (ls:=xs) (m:=m) (⇑h) (⇑a)
open Classical in
def aaa (hu:X.A.units+8 < cK):MtM X "list.index" (aex X.K):=by
 intro f' s σ H x vs v us Q I U Y h;obtain⟨a,b,xs,ls,l,rfl,rfl,hx,z,hb,d,q⟩:=h;cases U;obtain⟨u,rfl,ru⟩:=jg Y;cases(show u=bQ b from ru);obtain⟨its,r,p,hz⟩:=I.list hx;obtain⟨⟨cls,dd,data,sl⟩,C,D,n,hd⟩:=p.isList;simp only at D hd;subst D hd;have vT:xs.length=ls.length:=Paired.length z;have KY:=r.length;have hj:ls.idxOf l < ls.length:=dH.mpr d
 let e:aK->Bool:=λy=>decide (∃c,y=.ref c/\SqT X.K H c (l.map V.int))
 have key:∀(m:Nat)(d:m < its.length) (E:m < ls.length),(∃c,its[m]=.ref c/\SqT X.K H c (ls[m].map V.int))/\e its[m]=decide (ls[m]=l):=λm d E=>by
  have G:xs[m]?=KE (xs[m]'()):=aB ();obtain⟨y,J,c,i,f⟩:=wg z G;obtain⟨w,L,N⟩:=r.get G;rw[aB E]at J;rw[aB d]at L;cases J;have j:its[m]=w:=cB L;rw[i]at N;have O:its[m]=.ref c:=j.trans N;show{#v[c,O,f],?_};change decide (∃o,its[m]=.ref o/\SqT X.K H o (l.map V.int))=decide (ls[m]=l);rw[decide_eq_decide,O];constructor;{intro vP;obtain⟨o,g,s1⟩:=vP;cases g;show I.tup_inj f s1};{intro g;show{c,rfl,by rw[<-g];show f}}
 have T:=ng;show jH jA {_,C,rfl} PySem.F.entry_list_index (PySem.F.args_list_index_2 _ _)
  (SeqAt.list_indexAt a its.toArray n dd sl (.ref b) e (ls.idxOf l) (by simp;lia) () ?_ ?_) {C,λy hy=>?_,{.int _,H,I.tok _,{_,rfl},q}}
 {rw[jX,(key _ () hj).2];simp[iE]};{intro m JH zB;rw[jX,(key m (⇑JH) ()).2];rw[decide_eq_false_iff_not];show λg=>L9 zB () g};{obtain⟨m,d,rfl⟩:=Array.mem_iff_getElem.mp hy;have BI:m < its.length:=(⇑d);obtain⟨⟨c,i,f⟩,ee⟩:=key m BI ();rw[jX,ee,i];show I.eqT ?_ f hb;change X.A.units+1 < cK;lia}
end
structure ClsM (K:aF)(C:MQ)(m:Str)(f:MQ):Prop where
 ga:nM K (.ref C) "__getattribute__"=KE (KE (.builtin "type.__getattribute__"))
 rd:rX K C (.type "type")=MO
 fc:rY K (.ref C) (.type "type") m=KE (.val (.ref f))
 kp:fK K (.ref f)=MO
section
variable {X:Cx}{CX:CXT}{k:Nat}{f C:MQ}{fd:gY}{ps:AQ}{sp:Sp}{zO:DK}{ds:AJ}{E:XK}{x m:Str}{p pos ap:Pos}{a:MS}{es:BW}{t:TA}
def aac (c:ClsM X.K C m f)(F:ir X.p X.w X.K X.mg X.base CX k f fd ps sp)(e:Room k X.A)(g:Gl X x)(i:X.mg x=KE (.ref C))(j:Binds X.K fd ps ds)(hd:Vals zO ds)(l:r8 CX X E)(n:PA X (a::es) t)
  (o:↑((x == ("__debug__":Str))=MP)) (u:↥(aM (a::es) X.e=(MP,eval a X.e)::aM es X.e)) (y:↥((dS pos (aM es X.e)).any (·.1)=MP))
  (z:eval (.Call (.Attribute (.Name x p) m ap) (a::es) [] pos) X.e=(do
    let b <-eval (.Name x p) X.e
    mX ap.atName
    let (f,first) <-iV [b] (mJ b m pl)
    rC pos f first (dS pos (aM (a::es) X.e)) (lM pos (jG [] X.e))):=by rfl) :
  PE X (.Call (.Attribute (.Name x p) m ap) (a::es) [] pos) (aco sp zO E t):=by
 intro D s G H Q I h;show oJ (pl:=pl) (Br I g i ?_ o) z;show PySem.W.method_cls I.kIn c.ga (PySem.W.cls_value I.kIn c.rd c.fc rfl ?_);show mM (h₀:=X.base) I.ok.mod.kin c.kp (thn (n pos D _ G H _ (I.tok (s.toks+1)) h) λus L J=>?_) u y;obtain⟨vs,N,d,r,q⟩:=J;show{d.kIn,?_};show Ep F e j hd l d r q
end
end L2
namespace PySem
namespace Deep
abbrev I2:=Sum Int LQ
section
variable (prog:aQ)(w:bB)
abbrev _root_.CY:=List (List I2)
abbrev _root_.CW:=List I2
def sh (h:MR):I2->aK->Prop
 | .inl i,v=>(eZ prog w).is i v=MO
 | .inr l,v=>∃b,v=.ref b/\jI (eZ prog w) h l b
def oh:I2->Int
 | .inl i=>(eZ prog w).hash i
 | .inr l=>tupleKeyHash (eZ prog w) l
def An:I2->Nat
 | .inl _=>1
 | .inr l=>l.length+1
def ItemsR (h:MR):CW->AJ->Prop
 | [],[]=>True
 |k::ks,v::vs=>sh prog w h k v/\ItemsR h ks vs
 |_,_=>False
def IsDeep (h:MR)(ks:CW)(a:MQ):Prop:=∃o its n,h.get? a=KE o/\o.cls=.type "tuple"/\o.data=.seq its n/\ItemsR prog w h ks its.toList
def ay (ks:CW):Int:=tG (eR (ks.map (oh prog w)))
def lh:CW->Nat
 | []=>0
 |k::ks=>An k+lh ks
end
def Ws (ks:CW)(k:I2):lh (ks++[k])=lh ks+An k:=by
 induction ks with
 |nil=>simp[lh]
 |cons x xs a=>rw[lO,lh,lh,a,qJ]
section
variable {prog:aQ}{w:bB}{A:bX}{E:aK->aG->Prop}{s:aG}
def aad (a:sh prog w h x v)(d:sh prog w h y v):x=y:=by
 cases x with
 |inl i=>cases y with
  |inl j=>rw[(eZ prog w).inj _ _ _ a d]
  |inr l=>
   obtain⟨b,rfl,_⟩:_:=d;show MY a (by change ¬fE i (.ref b)=MO;simp[fE])
 |inr l=>cases y with
  |inl j=>
   obtain⟨b,rfl,_⟩:_:=a;show MY d (by change ¬fE j (.ref b)=MO;simp[fE])
  |inr m=>
   obtain⟨b,rfl,f⟩:_:=a;obtain⟨c,e,g⟩:_:=d;cases e;rw[f.inj g]
theorem ItemsR.inj:∀{vs x y},ItemsR prog w h x vs->ItemsR prog w h y vs->x=y
 | [],[],[],_,_=>rfl
 | [],[],_::_,_,q=>q.elim
 | [],_::_,_,q,_=>q.elim
 |_::_,[],_,q,_=>q.elim
 |_::_,_::_,[],_,q=>q.elim
 |_::vs,_::xs,_::ys,a,b=>by rw[aad a.1 b.1,ItemsR.inj (vs:=vs) a.2 b.2]
theorem ItemsR.length:∀{vs x},ItemsR prog w h x vs->x.length=vs.length
 | [],[],_=>rfl
 | [],_::_,q=>q.elim
 |_::_,[],q=>q.elim
 |_::vs,_::xs,a=>by rw[aW,aW,ItemsR.length (vs:=vs) a.2]
theorem ItemsR.imp (f:∀l b,jI (eZ prog w) h l b->jI (eZ prog w) h' l b):∀{vs x},ItemsR prog w h x vs->ItemsR prog w h' x vs
 | [],[],_=>trivial
 | [],_::_,q=>q.elim
 |_::_,[],q=>q.elim
 |_::vs,k::xs,a=>⟨by
     cases k with
     |inl i=>show a.1
     |inr l=>obtain⟨b,e,c⟩:_:=a.1;show{b,e,f _ _ c},ItemsR.imp f (vs:=vs) a.2⟩
def IsDeep.typeIs (x:IsDeep prog w s.heap ks a):s.TypeIs (.ref a) "tuple":=by
 obtain⟨o,_,_,e,c,_⟩:_:=x;show#v[o,e,c]
theorem IsDeep.inj (d:IsDeep prog w h x a)(e:IsDeep prog w h y a):x=y:=by
 obtain⟨o,l,m,f,_,g,i⟩:_:=d;obtain⟨n,p,q,b,_,c,j⟩:_:=e;rw[f]at b;cases b;rw[g]at c;cases c;show i.inj j
theorem IsDeep.keeps (x:IsDeep prog w h ks a)(f:h.get? d=KE o)(hd:o.data=.dict j m)(hs:eN d h h'):IsDeep prog w h' ks a:=by
 obtain⟨g,its,n,c,i,e,r⟩:_:=x;have ne:a≠d:=λz=>by
  subst z;rw[f]at c;cases c;rw[hd]at e;cases e
 show{g,its,n,(hs.2 a ne).trans c,i,e,r.imp λl b k=>k.keeps f hd hs}
def Wu (h:(eZ prog w).is i v=MO):∃t,v=.int i t:=Value.isInt_shape (k:=i) (v:=v) h
def Wv (k:jI (eZ prog w) h l b):∃its,h.IsTuple b its:=by
 obtain⟨o,its,n,e,c,d,_⟩:_:=k;show#v[its,o,e,c,n,d]
def Ww (a:A.units < cK)(hk:sh prog w s.heap k v)(h:Q (oh prog w k) { s with toks:=s.toks+An k }):aJ (aV prog w) A (pyHash v) Q E s:=by
 cases k with
 |inl i=>show(eZ prog w).pyHash hk h
 |inr l=>
  obtain⟨b,rfl,c⟩:_:=hk;show wpAny_pyHash_tuple a c h
def G6 (n:A.units+1 < cK)(f:sh prog w s.heap x u)(g:sh prog w s.heap y v)(h:Q (decide (x=y)) s):aJ (aV prog w) A (eqBool u v) Q E s:=by
 cases x with
 |inl i=>cases y with
  |inl j=>
   show(eZ prog w).eqBool f g ?_;have e:decide ((Sum.inl i:I2)=Sum.inl j)=decide (i=j):=(by rw[decide_eq_decide];show{λz=>Sum.inl.inj z,λz=>by rw[z]});rw[<-e];show h
  |inr l=>
   obtain⟨b,rfl,a⟩:_:=g;obtain⟨t,rfl⟩:_:=Wu f;have e:decide ((Sum.inl i:I2)=Sum.inr l)=MP:=MW (λz=>nomatch z);rw[e]at h;obtain⟨its,d⟩:_:=Wv a;show SeqAt.EqAt.int_tuple i t d (qV n) prog w E Q h
 |inr l=>cases y with
  |inl j=>
   obtain⟨b,rfl,a⟩:_:=f;obtain⟨t,rfl⟩:_:=Wu g;have e:decide ((Sum.inr l:I2)=Sum.inl j)=MP:=MW (λz=>nomatch z);rw[e]at h;obtain⟨its,d⟩:_:=Wv a;show SeqAt.EqAt.tuple_int j t d (qV n) prog w E Q h
  |inr m=>
   obtain⟨b,rfl,a⟩:_:=f;obtain⟨c,rfl,d⟩:_:=g;show wpAny_eqBool_tuple (qV n) a d ?_;have e:decide ((Sum.inr l:I2)=Sum.inr m)=decide (l=m):=(by rw[decide_eq_decide];show{λz=>Sum.inr.inj z,λz=>by rw[z]});rw[<-e];show h
def Jj (l:A.units+2 < cK)(hk:IsDeep prog w s.heap ks a)(h:Q (ay prog w ks) { s with toks:=s.toks+(lh ks+1) }):aJ (aV prog w) A (pyHash (.ref a)) Q E s:=by
 have ty:=hk.typeIs;obtain⟨o,its,n,g,_,i,j⟩:=hk;unfold pyHash
 first | unfold pyHashByItsType | skip
 first | show aA (wpAny_cRoomFor_or (.inr ()) ?_) | skip
 show aA (gG ty F.slot_tuple_hash.lookup ?_);change aJ _ _ (if (KE (qK "tuple.__hash__") == KE fR)=MO then _ else _) Q E s
 rw[MV (by rw[beq_builtin_none];show aO)];show aA (gG ty F.slot_tuple_hash.lookup ?_);change aJ _ _ (callSpecialIfBoundUnlessNone? (.ref a) "__hash__" _ >>= _) Q E s;show aA (wpAny_callSpecialIfBoundUnlessNone?_slot ty F.slot_tuple_hash (dD F.slot_tuple_hash ty F.entry_tuple_hash ?_ (F.args_tuple_hash_1 _)));change aJ _ _ (jS (.ref a) >>= _) _ _ s;show aA (qD g i ?_);show aA ?_;rw[<-gM];show eY _ (λrest b s'=>∃pre left,ks=pre++left/\ItemsR prog w s.heap left rest/\b.toList=pre.map (oh prog w)/\s'={ s with toks:=s.toks+lh pre }) _ ?_ ?_ _ _ {[],ks,rfl,j,rfl,rfl}
 ·intro x rest b s' e;obtain⟨pre,left,rfl,d,f,rfl⟩:=e;cases left with
  |nil=>show d.elim
  |cons k left=>
   show aA (Ww (by change A.units+1 < cK;lia) d.1 ?_);show wpAny_pure {pre++[k],left,by simp,d.2,by simp[f],by rw[Ws,qJ]}
 ·intro b s' e;obtain⟨pre,left,rfl,d,f,rfl⟩:=e;cases left with
  |cons k left=>show d.elim
  |nil=>
   rw[cE]at h;change aJ _ _ (retInt (eR b.toList)) _ _ _;rw[f];show wpAny_ret_mkInt ?_;change aJ _ _ (if (decide (-(2:Int) ^ 63<=eR (pre.map (oh prog w))) && decide (eR (pre.map (oh prog w)) < 2 ^ 63))=MO then _ else _) Q E _
   unfold ay tG at h;by_cases c:(decide (-(2:Int) ^ 63<=eR (pre.map (oh prog w))) && decide (eR (pre.map (oh prog w)) < 2 ^ 63))=MO;{rw[MU c]at h ⊢;show wpAny_pure (by simpa[qJ]using h)};{rw[MV c]at h ⊢;show aA (lN (wpAny_pure (by simpa[qJ]using h)))}
def Bv (G:A.units+1 < cK)(H:IsDeep prog w s.heap x a)(D:IsDeep prog w s.heap y b)(h:P (.done (.ret (.bool (decide (x=y))))) s) :
  aJ (aV prog w) A (hU.«tuple.__eq__» {[.ref a,.ref b],[]}) P E s:=by
 have ty:=D.typeIs;obtain⟨o1,m,n1,I,_,J,L⟩:_:=H;obtain⟨o2,n,n2,N,_,O,T⟩:_:=D;change aJ _ _ (vJ (.ref b) (.type "tuple") >>= _) _ _ s;show aA (iC ty oN ?_);simp only[fJ,bM,if_false];show aA (qD I J ?_);show aA (qD N O ?_);show aA ?_;show eY _ (λrest r s'=>r.1=MN/\s'=s/\∃g f e d,rest=List.zip e d/\ItemsR prog w s.heap g e/\ItemsR prog w s.heap f d/\(g=f↔x=y)/\(e.length=d.length↔m.size=n.size)) _ ?_ ?_ _ _
  {rfl,rfl,x,y,m.toList,n.toList,rfl,L,T,kA,by simp}
 ·rintro⟨p,q⟩ rest r s' ⟨o,rfl,g,f,e,d,hz,i,j,hd,l⟩;cases e with
  |nil=>simp at hz
  |cons u e=>
   cases d with
   |nil=>simp at hz
   |cons v d=>
    simp only[kX,List.cons.injEq,Prod.mk.injEq]at hz;obtain⟨⟨rfl,rfl⟩,rfl⟩:_:=hz;cases g with
    |nil=>show i.elim
    |cons U g=>
     cases f with
     |nil=>show j.elim
     |cons Y f=>
      show aA (G6 G i.1 j.1 ?_);by_cases c:U=Y;{subst c;rw[MX rfl];simp only[fJ,bM,if_false];show wpAny_pure {rfl,rfl,g,f,e,d,rfl,i.2,j.2,by rw[<-hd];simp,by rw[<-l];simp}};{rw[MW c];simp only[Bool.not_false,if_true];have hf:decide (x=y)=MP:=MW λz=>c (iB (hd.mpr z)).1;rw[hf]at h;show aA (wpAny_pure (wpAny_pure (wpAny_pure h)))}
 ·rintro⟨c1,c2⟩ s' ⟨o,rfl,g,f,e,d,hz,i,j,hd,l⟩;simp only at o;subst o;show wpAny_pure ?_;have fin:(m.size == n.size)=decide (x=y):=by
   have l1:=i.length;have l2:=j.length;cases e with
   |nil=>
    have ex:g=[]:=jB.mp l1;subst ex;cases d with
    |nil=>
     have C:f=[]:=jB.mp l2;subst C;rw[MX (hd.mp rfl),beq_iff_eq];show l.mp rfl
    |cons v d=>
     have ne:¬x=y:=λz=>(by rw[<-hd.mpr z]at l2;simp at l2);rw[MW ne,beq_eq_false_iff_ne];intro z;have:=l.mpr z;simp at this
   |cons u e=>
    cases d with
    |nil=>
     have C:f=[]:=jB.mp l2;subst C;have ne:¬x=y:=λz=>(by rw[hd.mpr z]at l1;simp at l1);rw[MW ne,beq_eq_false_iff_ne];intro z;have:=l.mpr z;simp at this
    |cons v d=>simp at hz
  change P (.done (.ret (.bool (m.size == n.size)))) s';rw[fin];show h
def G7 (g:A.units+2 < cK)(d:IsDeep prog w s.heap x a)(f:IsDeep prog w s.heap y b)(h:Q (decide (x=y)) s):aJ (aV prog w) A (eqBool (.ref a) (.ref b)) Q E s:=by
 unfold eqBool
 try with_reducible show dA ?_
 change aJ _ _ (if (bQ a == bQ b)=MO then _ else _) Q E s
 by_cases c:(bQ a == bQ b)=MO;{rw[MU c];have e:a=b:=(by have:=eq_of_beq c;injection this);subst e;rw[d.inj f]at h;show aA (lN (wpAny_pure (⇑h)))};{rw[MV c];show aA (wpAny_richCompare_same_room (op:=.Eq) d.typeIs f.typeIs F.slot_tuple_eq (dD F.slot_tuple_eq d.typeIs F.entry_tuple_eq ?_ (F.args_tuple_eq_2 _ _)) ());show Bv (by change A.units+1+1 < cK;omega) d f {_,rfl,(λe=>nomatch e),jU h}}
def Wx (hk:jI (eZ prog w) s.heap l b)(h:Q MO s):aJ (aV prog w) A (rZ (n+1) (.ref b)) Q E s:=by
 have ty:=hk.typeIs;obtain⟨o,its,m,c,_,d,e⟩:_:=hk;unfold rZ;show aA (gG ty F.slot_tuple_eq.lookup ?_);change aJ _ _ (vJ (.ref b) (.type "tuple") >>= _) _ _ s;show aA (iC ty oN ?_);simp only[fJ,bM,if_false];show aA (eI c d (aA ?_));change aJ _ _ (forIn its _ _) _ _ s;rw[<-gM];show eY _ (λrest r s'=>r.1=MN/\s'=s/\∀v∈rest,carriedByValue v=MO) _ ?_ ?_ _ _ #v[rfl,rfl,e.byValue];{rintro v rest r s' ⟨a,rfl,all⟩;rw[eqIsQuiet_byValue _ (all v aP)];show aA (wpAny_pure ?_);simp only[fJ,bM,if_false];show wpAny_pure {rfl,rfl,λu q=>all u (aT _ q)}};{rintro⟨f,g⟩ s' ⟨a,rfl,_⟩;simp only at a;subst a;show wpAny_pure h}
def yr (hk:IsDeep prog w s.heap ks a)(h:Q MO s):aJ (aV prog w) A (rZ 8 (.ref a)) Q E s:=by
 have ty:=hk.typeIs;obtain⟨o,its,m,e,_,f,g⟩:_:=hk;unfold rZ;show aA (gG ty F.slot_tuple_eq.lookup ?_);change aJ _ _ (vJ (.ref a) (.type "tuple") >>= _) _ _ s;show aA (iC ty oN ?_);simp only[fJ,bM,if_false];show aA (eI e f (aA ?_));change aJ _ _ (forIn its _ _) _ _ s;rw[<-gM];show eY _ (λrest r s'=>r.1=MN/\s'=s/\∃left,ItemsR prog w s.heap left rest) _ ?_ ?_ _ _ #v[rfl,rfl,ks,g]
 ·rintro v rest r s' ⟨d,rfl,left,c⟩;cases left with
  |nil=>show c.elim
  |cons k left=>
   have go:∀{R},R MO s'->aJ (aV prog w) A (rZ 7 v) R E s':=λ{R} q=>by
    cases k with
    |inl i=>
     rw[eqIsQuiet_byValue _ ((eZ prog w).byValue _ _ c.1)];show wpAny_pure q
    |inr l=>
     obtain⟨b,rfl,j⟩:_:=c.1;show Wx j q
   show aA (go ?_);simp only[fJ,bM,if_false];show wpAny_pure #v[rfl,rfl,left,c.2]
 ·rintro⟨n,p⟩ s' ⟨d,rfl,_⟩;simp only at d;subst d;show wpAny_pure h
end
def cv (prog:aQ)(w:bB):HeapKind prog w CW where
 is:=IsDeep prog w
 hash:=ay prog w
 draws:=λks=>lh ks+1
 room:=λA=>A.units+2 < cK
 inj:=λhx hy=>hx.inj hy
 keeps:=λx ho hd hs=>x.keeps ho hd hs
 pyHash:=λhu hk h=>Jj hu hk h
 eqBool:=λhu hx hy h=>G7 hu hx hy h
 quiet:=λhk h=>yr hk h
end Deep
namespace Deep
def aey:typeLookup (.type "list") "keys"=pure MN:=by rw[sA,oO];kernel_rfl
section
variable {prog:aQ}{w:bB}{A:bX}{E:aK->aG->Prop}{s:aG}
def Ma (f:s.heap.get? a=KE o)(i:o.cls=.type "list")(j:o.data=.seq xs k)(hd:o.dict=MN)(r:A.handled=MN)
  (h:∀h' l,(∀b q,s.heap.get? b=KE q->h'.get? b=KE q)->Q MN { s with heap:=h',toks:=l }):aJ (aV prog w) A (getAttr? (.ref a) "keys") Q E s:=by
 obtain⟨c,dct,u,x⟩:=o;simp only at i j hd;subst i j hd;obtain⟨y,g,d,l,os⟩:=s;have m:∀n,(⟨y,g,d,n,os⟩:aG).TypeIs (.ref a) "list":=λ_=>{_,f,rfl};have z:=sub_AttributeError;have C:=F.slot_list_getattribute.lookup;have D:=F.slot_list_getattribute.bind (.ref a);have G:=am_list_getattr_none;unfold getAttr? getAttrBy? getAttrBy
 repeat (any_goals (first | assumption | show m _ | ((with_reducible change aJ _ _ (call (qK "list.__getattribute__") _ _) _ _ _);show jH F.slot_list_getattribute (m _) am_entry_list_getattribute (F.args_list_getattribute_2 _ _) (meets_getattribute_miss_list a xs k x "keys" _ aey ⋯ ⋯) {f,r,λh' n e p=>?_}) | wp_step))
 obtain⟨t',H,I⟩:=p.there;change aJ _ _ (getattributeRaised _ _ _ _ _ _ _) _ _ _;unfold getattributeRaised
 repeat (any_goals (first | assumption | wp_step))
 show h _ _ p.of.keeps
def Eu:uW table "dict.update.loop"=KE hU.«dict.update.loop»:=entryFor_of_tree (by kernel_rfl)
def t7:plainId "dict.update.loop"=MO:=by decide +kernel
def IsDeep.mono (f:∀b q,h.get? b=KE q->q.cls=.type "tuple"->h'.get? b=KE q)(x:IsDeep prog w h ks a):IsDeep prog w h' ks a:=by
 obtain⟨o,its,n,e,c,d,r⟩:=x;show{o,its,n,f _ _ e c,c,d,r.imp λl b k=>?_};obtain⟨i,j,m,p,g,u,y⟩:=k;show{i,j,m,f _ _ p g,g,u,y}
def Mb (prog:aQ)(w:bB)(h:MR)(v:aK)(e:CW×MQ×aK):Prop:=∃p o n,v=.ref p/\h.get? p=KE o/\o.cls=.type "tuple"/\o.data=.seq #[.ref e.2.1,e.2.2] n/\IsDeep prog w h e.1 e.2.1
def pq (xs ks:List (CW×MQ×aK)):List (CW×MQ×aK):=ks.foldl (λa e=>nB a e.1 e.2.1 e.2.2) xs
def Pp (xs:List (CW×MQ×aK))(k:CW)(a:MQ)(v:aK):(nB xs k a v).length<=xs.length+1:=by
 unfold nB
 split;{rw[aC];lia};{rw[aH];show aI _}
theorem Ew:∀ks xs,(pq xs ks).length<=xs.length+ks.length
 | [],xs=>aI _
 |e::ks,xs=>by
  have a:=Ew ks (nB xs e.1 e.2.1 e.2.2);have b:=Pp xs e.1 e.2.1 e.2.2;change(pq (nB xs e.1 e.2.1 e.2.2) ks).length<=_;rw[aW];lia
theorem R9:∀{xs:List a}{ys:List b},Paired F xs ys->∀{i:Nat}{x:a},xs[i]?=KE x->∃y,ys[i]?=KE y/\F x y
 |_,_,.nil,i,x,e=>by simp at e
 |_,_,.cons h _,0,x,e=>by simp at e;subst e;show{_,rfl,h}
 |_,_,.cons _ t,i+1,x,e=>by simpa using R9 t (i:=i) (x:=x) (⇑e)
def T9 (hh:A.handled=MN)(hu:A.units+8 < cK)(hl:h0.IsList l items)(ld:l≠d)(li:l≠it)(J:d≠it)(EX:∃o j m,h0.get? d=KE o/\o.cls=.type "dict"/\o.data=.dict j m)
  (CU:∃o,h0.get? it=KE o/\o.cls=.type "list_iterator") (hp:Paired (Mb prog w h0) items.toList ks) (hz:ks.length<=sizeLine) :
  ∀(n i:Nat)(s:aG),ks.length - i=n->i<=ks.length->(∀b q,b≠d->b≠it->h0.get? b=KE q->s.heap.get? b=KE q)->s.heap.IsListIter it l i->s.heap.DictOfH (cv prog w) d (pq [] (ks.take i))->
   (∀h' L,(∀b q,b≠d->b≠it->s.heap.get? b=KE q->h'.get? b=KE q)->h'.DictOfH (cv prog w) d (pq [] ks)->R (.ok (.ret .none)) { s with heap:=h',toks:=L })->
   kQ (aV prog w) A (.builtin "dict.update.loop" {[.ref d,.ref it,kU i,.none],[]}) R s:=by
 have vT:items.toList.length=ks.length:=Paired.length hp;have LA:∀{b:MQ}{q:Obj},h0.get? b=KE q->q.cls=.type "tuple"->b≠d/\b≠it:=λ{b q} e c=>by
  obtain⟨o,_,_,u,c1,_⟩:=EX;obtain⟨o2,y,c2⟩:=CU;show{λz=>?_,λz=>?_};{subst z;rw[u]at e;cases e;rw[c1]at c;injection c with c;show MY c #v[]};{subst z;rw[y]at e;cases e;rw[c2]at c;injection c with c;show MY c #v[]}
 intro n
 induction n with
 |zero=>
  intro i s hn hi keep C dd hR;have a:i=ks.length:=();subst a;rw[dE]at dd;have N:s.heap.IsList l items:=by
   obtain⟨o,e,r⟩:=hl;show{o,keep _ _ ld li e,r}
  show iQ Eu ?_;rw[iR t7 _];change aJ _ A.in1 (iM (.ref it) >>= _) _ _ s;show aA (oI hh C N (by rw[<-vT];simp) λh' O=>?_);change aJ _ A.in1 (Builtin.Dict.addKeywords d [] >>= _) _ _ _;show aA (wpAny_pure (wpAny_pure (hR h' s.toks (λb q _ hb e=>O b q hb e) ?_)));obtain⟨o,j,m,u,y,T,U,Y,e6⟩:=dd;show{o,j,m,O _ _ J u,y,T,U,λx g=>?_,e6};show IsDeep.mono (λb q e c=>O b q (λz=>?_) e) (Y x g);obtain⟨oi,a,ci,_⟩:=C;subst z;rw[a]at e;cases e;rw[ci]at c;injection c with c;show MY c #v[]
 |succ n ih=>
  intro i s hn hi keep C dd hR;have zB:i < ks.length:=();have N:s.heap.IsList l items:=by
   obtain⟨o,e,r⟩:=hl;show{o,keep _ _ ld li e,r}
  have g:items.toList[i]?=KE (items.toList[i]'()):=aB ();obtain⟨e,ee,p,op,np,ev,ep1,LB,ep3,dk⟩:=R9 hp g;show iQ Eu ?_;rw[iR t7 _];change aJ _ A.in1 (iM (.ref it) >>= _) _ _ s;show aA (nS C N (x:=.ref p) (by rw[<-bS,g,ev]) λD G H=>?_);have AN:∀b q,b≠d->b≠it->h0.get? b=KE q->D.get? b=KE q:=λb q h2 f e=>(H.2 b f).trans (keep b q h2 f e);have EY:∀b q,h0.get? b=KE q->q.cls=.type "tuple"->D.get? b=KE q:=λb q e c=>AN b q (LA e c).1 (LA e c).2 e;have gp:=EY _ _ ep1 LB;have dk1:=IsDeep.mono EY dk;have dd1:D.DictOfH (cv prog w) d (pq [] (ks.take i)):=by
   obtain⟨o,j,m,u,y,T,U,Y,e6⟩:=dd;show{o,j,m,(H.2 d J).trans u,y,T,U,λx g=>?_,e6};show IsDeep.mono (λb q e c=>(H.2 b (λz=>?_)).trans e) (Y x g);obtain⟨oi,a,ci,_⟩:=C;subst z;rw[a]at e;cases e;rw[ci]at c;injection c with c;show MY c #v[]
  have hTp:({ s with heap:=D }:aG).TypeIs (.ref p) "tuple":=#v[op,gp,LB];change aJ _ A.in1 (iV [bQ p] _ >>= _) _ _ _;show aA (dA (aA (wpAny_tryCatch ?_)));unfold Builtin.Dict.pairItems;show aA (iN hTp ?_);rw[MU #v[]];show aA (eI (s:={ s with heap:=D }) gp ep3 (wpAny_pure ?_));change aJ _ A.in1 (iV [bQ e.2.1,e.2.2] (dictSet d (.ref e.2.1) e.2.2)) _ _ _;have hsz:(pq [] (ks.take i)).length<=sizeLine:=by
   have:=Ew (ks.take i) [];rw[eW,bR]at this;lia
  show dA (wpAny_dictSet_heap (knd:=cv prog w) (hsz:=hsz) (by change A.units+1+2 < cK;lia) dk1 dd1 λh2 DX JI=>?_);have L:ks.take (i+1)=ks.take i++[e]:=(by rw[cX,ee];rfl);show wpAny_pure {qL t7 _,?_};have a:((i:Int))+1=((i+1:Nat):Int):=();change kQ _ _ (.builtin "dict.update.loop" {[.ref d,.ref it,kU ((i:Int)+1),.none],[]}) _ _;rw[a];show ih (i+1) _ () zB (λb q f I e=>(JI.2 b f).trans (AN b q f I e)) ?_ ?_ λh' tkn kp BM=>hR h' tkn (λb q f I e=>kp b q f I ((JI.2 b f).trans ((H.2 b I).trans e))) BM;{obtain⟨oi,a,r⟩:=G;show{oi,(JI.2 it (Ne.symm J)).trans a,r}};{rw[L];unfold pq;rw[qW];show DX}
end
end Deep
namespace Deep
section
variable {prog:aQ}{w:bB}{A:bX}{E:aK->aG->Prop}{s:aG}
theorem Ex:∀{xs ys},Paired F xs ys->(∀x y,F x y->G x y)->Paired G xs ys
 |_,_,.nil,_=>.nil
 |_,_,.cons h t,f=>.cons (f _ _ h) (Ex t f)
def Ua (g:s.heap.get? l=KE { cls:=.type "list",data:=.seq items k })(N:Paired (Mb prog w s.heap) items.toList ks)(hz:ks.length<=sizeLine)
  (I:A.handled=MN) (hu:A.units+16 < cK)
  (h:∀h' i,(∀b q,s.heap.get? b=KE q->h'.get? b=KE q)->h'.DictOfH (cv prog w) ‹s› (pq [] ks)->Q (.ref ‹s›) { s with heap:=h',toks:=i }) :
  aJ (aV prog w) A (call (.type "dict") [.ref l]) Q E s:=by
 show callType_codes (Q₁:=λobj c=>obj=.ref ‹s›/\c={ s with heap:=s.heap.push { cls:=.type "dict",data:=.dict #[] } }) F.kt_called_dict (F.kt_typeCall_dict_1 _) F.entry_dict_init (kt_code_dict_new _ #v[rfl,rfl]) ?_;intro obj c O;obtain⟨rfl,rfl⟩:=O;have j:(s.heap.push { cls:=.type "dict",data:=.dict #[] }).DictOfH (cv prog w) ‹s› []:=Heap.DictOfH.new s.heap;have J:l < ‹s›:=aS g;have m:(s.heap.push { cls:=.type "dict",data:=.dict #[] }).get? l=KE { cls:=.type "list",data:=.seq items k }:=aE _ g;have r:({ s with heap:=s.heap.push { cls:=.type "dict",data:=.dict #[] } }:aG).TypeIs (.ref l) "list":={_,m,rfl};show{j.typeIs,F.args_dict_init_2 _ _,?_};unfold hU.«dict.__init__»;show aA ?_;unfold Builtin.Dict.selfAndRest;show aA (wpAny_notOrdered_dict j.typeIs ?_);change aJ _ _ (pure (‹s›,[bQ l])) _ _ _;show wpAny_pure ?_;change aJ _ _ (kO "dict.__init__" ‹s› (.ref l) [] .none) _ _ _;unfold kO;show aA (iN r ?_);rw[MU #v[]];show aA (Ma (s:={ s with heap:=s.heap.push { cls:=.type "dict",data:=.dict #[] } }) m rfl rfl rfl I λa EY u=>?_);simp only[Option.isNone_none,if_true];show aA (lN ?_);have T:a.IsList l items:={_,u _ _ m,rfl,k,rfl};show aA (dJ T (wpAny_pure {qL t7 _,?_}));have L:∀b q,(s.heap.push { cls:=.type "dict",data:=.dict #[] }).get? b=KE q->(a.push { cls:=.type "list_iterator",data:=.fields #[.ref l,.int 0 0] }).get? b=KE q:=λb q e=>aE _ (u _ _ e);have f:∀b q,s.heap.get? b=KE q->(a.push { cls:=.type "list_iterator",data:=.fields #[.ref l,.int 0 0] }).get? b=KE q:=λb q e=>L _ _ (aE _ e);have y:‹s› < a.objs.size:=aS (u _ _ (aZ _ rfl));have dd:(a.push { cls:=.type "list_iterator",data:=.fields #[.ref l,.int 0 0] }).DictOfH (cv prog w) ‹s› []:=by
  obtain⟨o,z,C,D,G,H,U,e5,Y⟩:=j;show{o,z,C,L _ _ D,G,H,U,(λx hx=>by cases hx),Y}
 show T9 (A:=A.in1) (d:=‹s›) (it:=a.objs.size) (l:=l) (items:=items) (h0:=a.push { cls:=.type "list_iterator",data:=.fields #[.ref l,.int 0 0] }) (ks:=ks) I (by change A.units+1+8 < cK;lia) {_,f _ _ g,rfl,k,rfl} (bH J) (bH (fW J y)) (bH y) ?_ {_,aZ _ rfl,rfl} ?_ hz
  ks.length 0 _ rfl (cH _) (λ_ _ _ _ e=>e) {_,aZ _ rfl,rfl,rfl} dd λh' i kp BM=>{rfl,h h' i (λb q e=>kp b q ?_ ?_ (f _ _ e)) BM}
 {obtain⟨o,z,C,D,G,H,_⟩:=dd;show#v[o,z,C,D,G.1,H]};{show Ex N λv e vR=>by obtain⟨p,o,n,a,h2,h3,h4,h5⟩:=vR;show{p,o,n,a,f _ _ h2,h3,h4,IsDeep.mono (λb q e _=>f b q e) h5}};{show bH (aS e)};{show bH (fW (aS e) y)}
end
end Deep
namespace Deep
section
variable {prog:aQ}{w:bB}{A:bX}{E:aK->aG->Prop}{s:aG}
theorem Ey:∀{xs:List g},(xs.map f).Nodup->∀(z:Int),(xs.filter λx=>f x == z).length<=1
 | [],_,_=>by simp
 |x::xs,h,z=>by
  rw[bE,eG]at h;rw[List.filter_cons];by_cases e:(f x == z)=MO
  ·rw[MU e];have a:f x=z:=(⇑e);have:(xs.filter λx=>f x == z)=[]:=by
    rw[List.filter_eq_nil_iff];intro y b c;have d:f y=z:=(⇑c);show h.1 (bI.mpr {y,b,d.trans a.symm})
   rw[this];simp
  ·rw[MV e];show Ey h.2 z
def Ub {o:Obj}{a:Array DictEntry}{xs:List (CW×MQ×aK)}(l:s.heap.get? d=KE o)(hd:o.data=.dict a p)(j:a.toList=xs.map (mV (cv prog w)))
  (f:∀x∈xs,(cv prog w).is s.heap x.1 x.2.1) (m:(xs.map λx=>ay prog w x.1).Nodup) (h:Q a s):aJ (aV prog w) A (Builtin.Dict.entriesForEmpty q d) Q E s:=by
 unfold Builtin.Dict.entriesForEmpty;show aA (nO l hd (aA ?_));rw[<-gM,j];show eY _ (λrest _ s'=>s'=s/\∀y∈rest,∃x∈xs,y=mV (cv prog w) x) _ ?_ ?_ _ _ ⟨rfl,λy g=>by obtain⟨x,i,e⟩:_:=bI.mp g;show#v[x,i,e.symm]⟩
 ·rintro y rest b s' ⟨rfl,all⟩;obtain⟨x,i,rfl⟩:_:=all y aP;have ty:s'.TypeIs (.ref x.2.1) "tuple":=IsDeep.typeIs (prog:=prog) (w:=w) (f x i);change aJ _ _ (Builtin.Dict.quietEq (.ref x.2.1) >>= _) _ _ _;unfold Builtin.Dict.quietEq;show aA (aA (gG ty F.slot_tuple_eq.lookup (wpAny_pure ?_)));have hsz:¬(a.filter λy=>y.hash == (mV (cv prog w) x).hash).size > 1:=by
   have n:(a.filter λy=>y.hash == (mV (cv prog w) x).hash).size=(xs.filter λy=>ay prog w y.1 == ay prog w x.1).length:=by
    rw[<-cM,Array.toList_filter,j,sC,aC];rfl
   rw[n];have:=Ey m (ay prog w x.1);omega
  have done:s'=s'/\∀y∈rest,∃x∈xs,y=mV (cv prog w) x:={rfl,λy g=>all y (aT _ g)};by_cases c:(!KE (qK "tuple.__eq__") == KE (qK "object.__eq__"))=MO;{rw[MU c,MV hsz];show wpAny_pure done};{rw[MV c];show wpAny_pure done}
 ·rintro b s' ⟨rfl,_⟩;show wpAny_pure h
def aez (a:MQ):(keyPart (.ref a)).isSome=MP:=rfl
def Wy {xs:List (CW×MQ×aK)}(u:(o == gD)=MP)(T:s.heap.DictOfH (cv prog w) o xs)(hz:xs.length<=sizeLine)(U:(xs.map λx=>ay prog w x.1).Nodup)
  (h:∀h',(∀b q,s.heap.get? b=KE q->h'.get? b=KE q)->h'.DictOfH (cv prog w) ‹s› xs->Q (.ref ‹s›) { s with heap:=h' }) :
  aJ (aV prog w) A (call (.type "dict") [.ref o]) Q E s:=by
 show callType_codes (Q₁:=λobj f=>obj=.ref ‹s›/\f={ s with heap:=s.heap.push { cls:=.type "dict",data:=.dict #[] } }) F.kt_called_dict (F.kt_typeCall_dict_1 _) F.entry_dict_init (kt_code_dict_new _ #v[rfl,rfl]) ?_;intro obj f i;obtain⟨rfl,rfl⟩:=i;have m:(s.heap.push { cls:=.type "dict",data:=.dict #[] }).DictOfH (cv prog w) ‹s› []:=Heap.DictOfH.new s.heap;have kp:∀b q,s.heap.get? b=KE q->(s.heap.push { cls:=.type "dict",data:=.dict #[] }).get? b=KE q:=λb q e=>aE _ e;obtain⟨oo,d,ep,J,Y,n,g,e5,e6⟩:=T;have C:o < ‹s›:=aS J;have j:=kp _ _ J;have D:({ s with heap:=s.heap.push { cls:=.type "dict",data:=.dict #[] } }:aG).TypeIs (.ref o) "dict":={_,j,Y.1};have L:∀x∈xs,(cv prog w).is (s.heap.push { cls:=.type "dict",data:=.dict #[] }) x.1 x.2.1:=λx hx=>IsDeep.mono (λb q e _=>kp b q e) (e5 x hx);show{m.typeIs,F.args_dict_init_2 _ _,?_};unfold hU.«dict.__init__»;show aA ?_;unfold Builtin.Dict.selfAndRest;show aA (wpAny_notOrdered_dict m.typeIs ?_);change aJ _ _ (pure (‹s›,[bQ o])) _ _ _;show wpAny_pure ?_;change aJ _ _ (kO "dict.__init__" ‹s› (.ref o) [] .none) _ _ _;unfold kO;show aA (iN D ?_);rw[MV #v[]];show aA ?_;unfold Builtin.Dict.merge;show aA ?_;unfold Builtin.Dict.readDirectly;show aA (iC D isSubtype_dict_dict ?_);simp only[fJ,bM,if_false];show aA (gG D F.slot_dict_iter.lookup (wpAny_pure ?_));simp only[beq_self_eq_true,if_true];show aA (wpAny_pure ?_);unfold Builtin.Dict.mergeDict;rw[MV (⇑(eX C))];unfold Builtin.Dict.showsAll;rw[MV (by rw[u];show aO)];show aA (wpAny_pure (aA (nO (s:={ s with heap:=s.heap.push { cls:=.type "dict",data:=.dict #[] } }) j n ?_)));cases xs with
 |nil=>
  have G:d=#[]:=by
   have:d.toList=[]:=g;simpa using this
  subst G;dsimp only;rw[MV ∅];show aA (wpAny_dictEpoch (s:={ s with heap:=s.heap.push { cls:=.type "dict",data:=.dict #[] } }) j n (aA (nO (s:={ s with heap:=s.heap.push { cls:=.type "dict",data:=.dict #[] } }) j n (aA ?_))));rw[Std.Legacy.Range.forIn_eq_forIn_range'];simp only[Std.Legacy.Range.size,rL,qE,Nat.div_one];show eY _ (λrest _ s'=>rest=[]/\s'={ s with heap:=s.heap.push { cls:=.type "dict",data:=.dict #[] } }) _ ?_ ?_ _ _ #v[rfl,rfl];{intro x rest b s' i;obtain⟨z,_⟩:=i;cases z};{intro b s' i;obtain⟨_,rfl⟩:=i;show wpAny_pure (aA (wpAny_pure (wpAny_pure {rfl,h _ kp m})))}
 |cons x xs=>
  have hf:(decide (d.size<=8) && d.all λe=>(keyPart e.key).isSome)=MP:=by
   rw[<-Array.all_toList,g,bE,qI];change(decide (d.size<=8) && ((keyPart (.ref x.2.1)).isSome && _))=MP;rw[aez,Bool.false_and,lG]
  dsimp only;rw[hf,MU #v[]];obtain⟨od,N,H,p,O,r,d4,d5,d6⟩:=id m;have l:N=#[]:=by
   have:N.toList=[]:=d4;simpa using this
  subst l;show aA (nO (s:={ s with heap:=s.heap.push { cls:=.type "dict",data:=.dict #[] } }) p r ?_);rw[MU (show((#[]:Array DictEntry).isEmpty=MO)from rfl)];show aA (Ub (s:={ s with heap:=s.heap.push { cls:=.type "dict",data:=.dict #[] } }) j n g L U ?_);have xN:(!d.isEmpty)=MO:=by
   have:d.toList.length≠0:=(by rw[g];simp);rw[cM]at this;simp[Array.isEmpty];intro z;rw[z]at this;show this rfl
  rw[MU xN];have hsz:d.size<=sizeLine+1:=by
   rw[<-cM,g,aC];lia
  show aA (wpAny_updateDictKeysTo (s:={ s with heap:=s.heap.push { cls:=.type "dict",data:=.dict #[] } }) p r ?_ hsz);show wpAny_pure (aA (wpAny_pure (wpAny_pure {rfl,h _ (λb q e=>?_) ?_})));{have I:b≠‹s›:=bH (aS e);show((eM (h:=s.heap.push { cls:=.type "dict",data:=.dict #[] }) (a:=‹s›) ..).2 b I).trans (kp _ _ e)}
  ·show{_,d,H+1,gH _ p (Obj.isFreed_of_dict (Obj.data_mapDictKeys r _)),O.mapDictKeys _,Obj.data_mapDictKeys r _,g,λy hy=>?_,e6};show IsDeep.mono (λb q e c=>?_) (L y hy);have I:b≠‹s›:=λz=>by
    subst z;rw[p]at e;cases e;rw[O.1]at c;injection c with c;show MY c #v[]
   show((eM (h:=s.heap.push { cls:=.type "dict",data:=.dict #[] }) (a:=‹s›) ..).2 b I).trans e
end
end Deep
end PySem
namespace L2
open PySem PySem.Spec PyProof.Rows
section
variable {κ:Type}[DecidableEq κ]
def lj (kvs:List (κ×V))(k:κ):Option V:=(kvs.find? λa=>decide (a.1=k)).map (·.2)
def pw (kvs:List (κ×V))(k:κ)(v:V):List (κ×V):=
 if (kvs.any λa=>decide (a.1=k))=MO then kvs.map (λa=>if a.1=k then (a.1,v)else a)else kvs++[(k,v)]
def De {p:κ×V}{r:List (κ×V)}{k:κ}(e:p.1=k):lj (p::r) k=KE p.2:=by simp[lj,dM,e]
def Df {p:κ×V}{r:List (κ×V)}{k:κ}(e:¬p.1=k):lj (p::r) k=lj r k:=by simp[lj,dM,e]
theorem Dg (k:κ):∀kvs:List (κ×V),(kvs.any λa=>decide (a.1=k))=(lj kvs k).isSome
 | []=>rfl
 |p::r=>by
  rw[jT];by_cases e:p.1=k;{simp only[De e,MX e,Bool.true_or,Option.isSome_some]};{rw[Df e,MW e,Bool.false_or];show Dg k r}
def Cw (kvs:List (κ×V))(k:κ)(v:V):(pw kvs k v).length<=kvs.length+1:=by
 unfold pw
 split;{rw[aC];lia};{rw[aH,aW,eW];lia}
def RelO.isSome_eq (r:RelO o u):o.isSome=u.isSome:=by
 cases o with
 |none=>cases u with
  |none=>rfl
  |some _=>show(show False from r).elim
 |some _=>cases u with
  |none=>show(show False from r).elim
  |some _=>rfl
def KV.val {kvs:List (κ×V)}{vs:List (κ×aK)}(r:KV kvs vs)(k:κ):RelO (lj kvs k) (rB vs k):=by
 unfold KV at r
 induction r with
 |nil=>show hX
 |@cons p q ps a h t f=>
  obtain⟨d,g⟩:=h;by_cases e:p.1=k;{have c:q.1=k:=d.symm.trans e;have b:rB (q::a) k=KE q.2:=(by simp[rB,dM,c]);rw[De e,b];show g};{have c:¬q.1=k:=λz=>e (d.trans z);have b:rB (q::a) k=rB a k:=(by simp[rB,dM,c]);rw[Df e,b];show f}
theorem KV.any (r:KV kvs vs)(k:κ):(kvs.any λa=>decide (a.1=k))=vs.any λa=>decide (a.1=k):=by
 unfold KV at r
 induction r with
 |nil=>rfl
 |cons h t b=>rw[jT,jT,b,h.1]
def KV.repl (r:KV kvs vs)(k:κ)(c:RelV y u) :
  KV (kvs.map λa=>if a.1=k then (a.1,y)else a) (vs.map λa=>if a.1=k then (a.1,u)else a):=by
 unfold KV at r ⊢
 induction r with
 |nil=>show .nil
 |@cons p q ps g h t d=>
  rw[bE,bE];show .cons ?_ d;obtain⟨b,f⟩:=h;by_cases e:p.1=k;{rw[MU e,MU (b.symm.trans e)];show#v[b,c]};{rw[MV e,MV (λz=>e (b.trans z))];show#v[b,f]}
def KV.put (r:KV kvs vs)(k:κ)(a:RelV y u):KV (pw kvs k y) (stored vs k u):=by
 unfold pw stored;rw[r.any k];by_cases e:(vs.any λb=>decide (b.1=k))=MO;{rw[MU e,MU e];show r.repl k a};{rw[MV e,MV e];show Paired.snoc r #v[rfl,a]}
theorem KV.length (r:KV kvs vs):kvs.length=vs.length:=Paired.length r
end
def Ez (r:RelV (kV k) u):(g6 P w).is k u=MO:=by
 cases k with
 |inl i=>obtain⟨t,e⟩:=(show ∃t,u=jZ i t from r);subst e;show Pn P w i t
 |inr x=>obtain⟨t,e⟩:=(show ∃t,u=rQ x t from r);subst e;show Po P w x t
theorem Jk:∀{ks us},Vals (ks.map kV) us->ItemsAre (g6 P w) ks us
 | [],_,r=>by rw[iO]at r;cases r;show .nil
 |k::ks,_,r=>by
  rw[bE]at r;cases r with
  |cons h t=>show .cons (Ez h) (Jk t)
abbrev KT (H:Hp):List (List Key×V)->List (List Key×MQ×aK)->Prop:=Paired λp q=>p.1=q.1/\H q.2.1=KE (.tup (p.1.map kV))/\RelV p.2 q.2.2
def KT.val {kvs:List (List Key×V)}{xs:List (List Key×MQ×aK)}(r:KT H kvs xs)(k:List Key):RelO (lj kvs k) ((kY xs k).map (·.2)):=by
 induction r with
 |nil=>show hX
 |@cons p q ps a h t f=>
  obtain⟨d,_,g⟩:=h;by_cases e:p.1=k;{have c:q.1=k:=d.symm.trans e;have b:kY (q::a) k=KE q.2:=(by simp[kY,dM,c]);rw[De e,b];show g};{have c:¬q.1=k:=λz=>e (d.trans z);have b:kY (q::a) k=kY a k:=(by simp[kY,dM,c]);rw[Df e,b];show f}
def KT.repl (r:KT H kvs xs)(k:List Key)(d:RelV y u) :
  KT H (kvs.map λb=>if b.1=k then (b.1,y)else b) (xs.map (putAt k u)):=by
 induction r with
 |nil=>show .nil
 |@cons p q ps i h t f=>
  rw[bE,bE];show .cons ?_ f;obtain⟨a,c,g⟩:=h;unfold putAt;by_cases e:p.1=k;{rw[MU e,MU (a.symm.trans e)];show#v[a,c,d]};{rw[MV e,MV (λz=>e (a.trans z))];show#v[a,c,g]}
def KT.put (r:KT H kvs xs)(k:List Key)(c:H b=KE (.tup (k.map kV)))(a:RelV y u) :
  KT H (pw kvs k y) (nB xs k b u):=by
 have e:(kvs.any λd=>decide (d.1=k))=(kY xs k).isSome:=by
  rw[Dg,(r.val k).isSome_eq,eA]
 unfold pw nB;rw[e];by_cases q:(kY xs k).isSome=MO;{rw[MU q,MU q];show r.repl k a};{rw[MV q,MV q];show Paired.snoc r #v[rfl,c,a]}
def KT.keeps (r:KT H kvs xs)(a:∀b ys,H b=KE (.tup ys)->H' b=KE (.tup ys)):KT H' kvs xs:=
 Paired.mapP r λ_ _ z=>{z.1,a _ _ z.2.1,z.2.2}
section
variable {P:aQ}{w:bB}{H:Hp}{h:MR}{a:MQ}
def acu (ok:HOk P w H h)(e:Rd H a u):ObjOk P w H h a u:=e.ok ok
def E1 (ok:HOk P w H h)(e:Rd H a (.dK kvs)):kvs.length<=sizeLine/\(a == gD)=MP/\∃vs,KV kvs vs/\h.DictOf (g6 P w) a vs:=
 show ObjOk P w H h a (.dK kvs)from acu ok e
def dk_of (ok:HOk P w H h)(e:H a=KE (.dK kvs)):kvs.length<=sizeLine/\(a == gD)=MP/\∃vs,KV kvs vs/\h.DictOf (g6 P w) a vs:=E1 ok (.inl e)
def Ao (ok:HOk P w H h)(e:H a=KE (.tup (ks.map kV))):(rS (g6 P w)).is h ks a:=by
 obtain⟨_,its,r,o,b,c,n,d⟩:=(show ObjOk P w H h a (.tup (ks.map kV))from ok a _ e);show{o,its.toArray,n,b,c,d,by simpa using Jk r}
def E2 (ok:HOk P w H h)(e:Rd H a (.dT kvs)):kvs.length<=sizeLine/\(a == gD)=MP/\
  ∃xs,KT H kvs xs/\h.DictOfH (rS (g6 P w)) a xs:=by
 obtain⟨z,y,xs,r,o,c,d,f,g,i,j,n⟩:=(show ObjOk P w H h a (.dT kvs)from acu ok e);show{z,y,xs,r,o,c,d,f,g,i,j,λx hx=>?_,n};have all:∀{l m},KT H l m->∀x∈m,(rS (g6 P w)).is h x.1 x.2.1:=by
  intro l m q
  induction q with
  |nil=>intro x hx;show nomatch hx
  |@cons p q ps u b t s=>
   intro x hx;rcases aY.mp hx with e | hx;{subst e;show Ao ok (by rw[<-b.1];show b.2.1)};{show s x hx}
 show all r x hx
def dt_of (ok:HOk P w H h)(e:H a=KE (.dT kvs)):kvs.length<=sizeLine/\(a == gD)=MP/\
  ∃xs,KT H kvs xs/\h.DictOfH (rS (g6 P w)) a xs:=E2 ok (.inl e)
end
def DGet (H:Hp)(a:MQ)(y:V)(r:Option V):Prop:=
 (∃kvs k,Rd H a (.dK kvs)/\y=kV k/\r=lj kvs k)\/∃kvs k b,Rd H a (.dT kvs)/\y=.ref b/\H b=KE (.tup (k.map kV))/\r=lj kvs k
def DPut (H:Hp)(a:MQ)(y v:V)(H':Hp):Prop:=
 (∃kvs k,H a=KE (.dK kvs)/\y=kV k/\kvs.length < sizeLine/\H'=upd H a (.dK (pw kvs k v)))\/
 ∃kvs k b,H a=KE (.dT kvs)/\y=.ref b/\H b=KE (.tup (k.map kV))/\kvs.length < sizeLine/\H'=upd H a (.dT (pw kvs k v))
theorem DGet.k {H:Hp}{a:MQ}{kvs:List (Key×V)}{k:Key}(e:H a=KE (.dK kvs)):DGet H a (kV k) (lj kvs k):=.inl {kvs,k,.inl e,rfl,rfl}
theorem DPut.k {H:Hp}{a:MQ}{kvs:List (Key×V)}{k:Key}{v:V}(e:H a=KE (.dK kvs))(b:kvs.length < sizeLine):DPut H a (kV k) v (upd H a (.dK (pw kvs k v))):=.inl #v[kvs,k,e,rfl,b,rfl]
section
variable {X:Cx}{f':BK}{σ:St}{H:Hp}{s:aG}{a:MQ}{y v:V}{u r:aK}{o:Option V}{A:bX}{E:aK->aG->Prop}
def Inv.big (I:Inv X f' σ H s):gD < ‹s›:=by
 have h:bJ < ‹s›:=(I.mod.glob.keeps I.bk).lt;show fW #v[] h
def Wz (n:A.units+1 < cK)(I:Inv X f' σ H s)(g:DGet H a y (KE v))(m:RelV y u)(h:∀c s',Inv X f' σ H s'->RelV v c->Q c s') :
  aJ (aV X.p X.w) A (mZ (.ref a) u) Q E s:=by
 rcases g with⟨kvs,k,e,d,l⟩ | ⟨kvs,k,b,e,d,q,l⟩;{subst d;obtain⟨z,hd,vs,f,dd⟩:=E1 I.hok e;obtain⟨c,hw,i⟩:=RelO.some_of (v:=v) (o:=rB vs k) (by rw[l];show f.val k);show wpAny_getItem_of (Ez m) dd.mapOf hw (h c _ (I.tok _) i)};{subst d;cases(show u=bQ b from m);obtain⟨z,hd,xs,f,dd⟩:=E2 I.hok e;obtain⟨c,hw,i⟩:=RelO.some_of (v:=v) (o:=(kY xs k).map (·.2)) (by rw[l];show f.val k);obtain⟨p,x,j⟩:=dB.mp hw;show wpAny_getItem_heap (mQ n) (Ao I.hok q) dd x ?_;rw[j];show h c _ (I.tok _) i}
def d_in (i:A.units+1 < cK)(I:Inv X f' σ H s)(g:DGet H a y o)(f:RelV y u)(h:∀s',Inv X f' σ H s'->Q (.bool o.isSome) s') :
  aJ (aV X.p X.w) A (eE .In u (.ref a)) Q E s:=by
 rcases g with⟨kvs,k,e,c,l⟩ | ⟨kvs,k,b,e,c,j,l⟩;{subst c;obtain⟨z,hd,vs,d,dd⟩:=E1 I.hok e;show wpAny_in_of (Ez f) hd dd.mapOf ?_;rw[<-(d.val k).isSome_eq,<-l];show h _ (I.tok _)};{subst c;cases(show u=bQ b from f);obtain⟨z,hd,xs,d,dd⟩:=E2 I.hok e;show wpAny_in_heap (mQ i) (Ao I.hok j) hd dd ?_;have q:=(d.val k).isSome_eq;rw[eA]at q;rw[<-q,<-l];show h _ (I.tok _)}
def afa (i:A.units+1 < cK)(I:Inv X f' σ H s)(g:DGet H a y o)(f:RelV y u)(h:∀s',Inv X f' σ H s'->Q (.bool (!o.isSome)) s') :
  aJ (aV X.p X.w) A (eE .NotIn u (.ref a)) Q E s:=by
 rcases g with⟨kvs,k,e,c,l⟩ | ⟨kvs,k,b,e,c,j,l⟩;{subst c;obtain⟨z,hd,vs,d,dd⟩:=E1 I.hok e;show wpAny_notIn_of (Ez f) hd dd.mapOf ?_;rw[<-(d.val k).isSome_eq,<-l];show h _ (I.tok _)};{subst c;cases(show u=bQ b from f);obtain⟨z,hd,xs,d,dd⟩:=E2 I.hok e;show wpAny_notIn_heap (mQ i) (Ao I.hok j) hd dd ?_;have q:=(d.val k).isSome_eq;rw[eA]at q;rw[<-q,<-l];show h _ (I.tok _)}
def Sa (I:Inv X f' σ H s)(mu:Mut (H a))(hs:eN a s.heap h')(d:∃q,h'.get? a=KE q)(new:ObjOk X.p X.w (upd H a c) h' a c) :
  Inv X f' σ (upd H a c) { s with heap:=h',toks:=t' }:=
 I.write (x:=a) (e:=a) mu (.inl rfl) (λb q f z=>(hs.2 b f).trans z) d new
def aiz (z:kvs.length<=sizeLine)(hd:(a == gD)=MP)(b:KV kvs vs)(dd:h'.DictOf (g6 P w) a vs) :
  ObjOk P w H' h' a (.dK kvs):=#v[z,hd,vs,b,dd]
def W4 (G:A.units+1 < cK)(I:Inv X f' σ H s)(g:DPut H a y v H')(p:RelV y u)(x:RelV v r)(h:∀s',Inv X f' σ H' s'->Q Unit.unit s') :
  aJ (aV X.p X.w) A (vM (.ref a) u r) Q E s:=by
 rcases g with⟨kvs,k,e,j,l,m⟩ | ⟨kvs,k,b,e,j,C,l,m⟩;{subst j m;obtain⟨z,hd,vs,d,dd⟩:=dk_of I.hok e;have hz:vs.length<=sizeLine:=(by rw[<-d.length];show z);have n:(pw kvs k v).length<=sizeLine:=(by have:=Cw kvs k v;lia);show wpAny_setItem_pairs (hsz:=hz) (Ez p) dd λh' f hs=>h _ ?_;have J:∃q,h'.get? a=KE q:=let ⟨q,_,_,i,_⟩:=f;#v[q,i];show Sa I (by rw[e];show hX) hs J (aiz n hd (d.put k x) f)};{subst j m;cases(show u=bQ b from p);obtain⟨z,hd,xs,d,dd⟩:=dt_of I.hok e;have hz:xs.length<=sizeLine:=(by rw[<-Paired.length d];show z);have n:(pw kvs k v).length<=sizeLine:=(by have:=Cw kvs k v;lia);show wpAny_setItem_heap (hsz:=hz) (mQ G) (Ao I.hok C) dd λh' f hs=>h _ ?_;obtain⟨q,L,N,i,O,T,U,_,Y⟩:=f;show Sa I (by rw[e];show hX) hs #v[q,i] {n,hd,_,(d.put k C x).keeps λc ys D=>?_,q,L,N,i,O,T,U,Y};rw[bc (ne_of D e (λz=>nomatch z))];show D}
end
def Pq (I:Inv X c d H s)(g:DGet H a y o):s.TypeIs (.ref a) "dict":=by
 rcases g with⟨kvs,k,e,_,_⟩ | ⟨kvs,k,b,e,_,_,_⟩;{obtain⟨_,_,vs,_,dd⟩:=E1 I.hok e;show dd.typeIs};{obtain⟨_,_,xs,_,dd⟩:=E2 I.hok e;show dd.typeIs}
def aae (h:MR)(a:gD < h.objs.size):ObjOk P w H (h.push { cls:=.type "dict",data:=.dict #[] }) h.objs.size (.dK []):=
 {cH _,beq_eq_false_iff_ne.mpr (Ne.symm (bH a)),[],.nil,Heap.DictOf.new h}
def aja:TE:=λ_ H Q=>∀p,H p=MN->Q (.ref p) (upd H p (.dK []))
section
variable {X:Cx}{pos:Pos}
def aaf:PE X (.Dict [] [] pos) aja:=λb s c H Q I h=>
 wpAny_Dict_empty {.ref ‹s›,_,I.laid (a:=‹s›) (o:=.dK []) (t':=s.toks) (λ_ _ q=>aE _ q) (aI _) (aae s.heap I.big),rfl,h _ (I.hok.fresh (aI _))}
end
open PySem.Deep
def KeyAt (K:aF)(H:Hp)(b:MQ)(ks:CW):Prop:=∃xs,SqT K H b xs/\Paired (λv k=>match k with | Sum.inl i=>v=V.int i | Sum.inr l=>∃c,v=.ref c/\SqT K H c (l.map V.int)) xs ks
abbrev DE:=List (CW×MQ×V)
def qq:(CW×MQ×V)->(CW×MQ×aK)->Prop:=λp q=>p.1=q.1/\p.2.1=q.2.1/\RelV p.2.2 q.2.2
def me (P:aQ)(w:bB)(a:MQ)(c:Nat)(kvs:DE):HO:=.ext λh=>∃xs:List (CW×MQ×aK),Paired qq kvs xs/\∃o b,h.get? a=KE o/\o.ExactDict/\o.data=.dict b c/\b.toList=xs.map (mV (cv P w))/\(xs.map (·.1)).Nodup
structure DictAt (P:aQ)(w:bB)(K:aF)(H:Hp)(a:MQ)(kvs:DE):Prop where
 at_:∃ep,H a=KE (me P w a ep kvs)
 keys:∀e∈kvs,KeyAt K H e.2.1 e.1
 len:kvs.length<=sizeLine
 sys:(a == gD)=MP
def atK (kvs:DE)(k:CW):Option V:=(kvs.find? λe=>decide (e.1=k)).map (·.2.2)
def iu (kvs:DE)(k:CW)(b:MQ)(v:V):DE:=if (atK kvs k).isSome=MO then kvs.map (λe=>if e.1=k then (e.1,e.2.1,v)else e)else kvs++[(k,b,v)]
def kh (kvs a:DE):DE:=a.foldl (λb e=>iu b e.1 e.2.1 e.2.2) kvs
def Bw (r:Paired qq kvs xs)(k:CW):RelO (atK kvs k) ((kY xs k).map (·.2)):=by
 induction r with
 |nil=>show hX
 |@cons p q ps a h t g=>
  obtain⟨f,j,i⟩:=h;by_cases e:p.1=k;{have b:q.1=k:=f.symm.trans e;have c:atK (p::ps) k=KE p.2.2:=(by simp[atK,e]);have d:kY (q::a) k=KE q.2:=(by simp[kY,b]);rw[c,d];show i};{have b:¬q.1=k:=λz=>e (f.trans z);have c:atK (p::ps) k=atK ps k:=(by simp[atK,e]);have d:kY (q::a) k=kY a k:=(by simp[kY,b]);rw[c,d];show g}
def aag (r:Paired qq kvs xs)(k:CW)(c:RelV y u):Paired qq (kvs.map λe=>if e.1=k then (e.1,e.2.1,y)else e) (xs.map (putAt k u)):=by
 induction r with
 |nil=>show .nil
 |@cons p q ps g h t d=>
  rw[bE,bE];show .cons ?_ d;obtain⟨a,b,f⟩:=h;unfold putAt;by_cases e:p.1=k;{rw[MU e,MU (a.symm.trans e)];show#v[a,b,c]};{rw[MV e,MV (λz=>e (a.trans z))];show#v[a,b,f]}
def E3 (r:Paired qq kvs xs)(k:CW)(b:MQ)(a:RelV y u):Paired qq (iu kvs k b y) (nB xs k b u):=by
 have e:(atK kvs k).isSome=(kY xs k).isSome:=by
  have:=(Bw r k).isSome_eq
  rwa [eA]at this
 unfold iu nB;rw[e];by_cases c:(kY xs k).isSome=MO;{rw[MU c,MU c];show aag r k a};{rw[MV c,MV c];show Paired.snoc r #v[rfl,rfl,a]}
def Pt (h:Paired qq a ks):∀{kvs xs},Paired qq kvs xs->Paired qq (kh kvs a) (pq xs ks):=by
 induction h with
 |nil=>intro kvs xs r;show r
 |@cons p q ps f h t b=>
  intro kvs xs r;obtain⟨c,d,e⟩:=h;show b (kvs:=iu kvs p.1 p.2.1 p.2.2) (xs:=nB xs q.1 q.2.1 q.2.2) ?_;have:=E3 r p.1 p.2.1 e;rw[c,d]at this ⊢;show this
def E4 (kvs:DE)(k:CW)(b:MQ)(v:V):(iu kvs k b v).length<=kvs.length+1:=by
 unfold iu
 split;{rw[aC];lia};{rw[aH];show aI _}
def E5 (h:e∈iu kvs k b v):(e.1=k/\(e.2.1=b\/∃a∈kvs,a.1=k/\a.2.1=e.2.1))\/e∈kvs:=by
 unfold iu at h
 split at h;{obtain⟨x,d,rfl⟩:=bI.mp h;by_cases c:x.1=k;{rw[MU c];show .inl {c,.inr #v[x,d,c,rfl]}};{rw[MV c];show .inr d}};{rcases cT.mp h with z | z;{show .inr z};{rw[aR.mp z];show .inl {rfl,.inl rfl}}}
section
variable {X:Cx}{f':BK}{σ:St}{H:Hp}{s:aG}
theorem E6 (I:Inv X f' σ H s)(P:aQ)(w:bB):∀{xs ks its},Vals xs its->Paired (λv k=>match k with | Sum.inl i=>v=V.int i | Sum.inr l=>∃c,v=.ref c/\SqT X.K H c (l.map V.int)) xs ks->ItemsR P w s.heap ks its
 |_,_,_,.nil,.nil=>trivial
 |_,_,_,.cons r t,.cons (b:=k) h a=>by
  show{?_,E6 I P w t a};cases k with
  |inl i=>
   have h':_=V.int i:=h;subst h';obtain⟨d,rfl⟩:=(show ∃t,_=jZ i t from r);change fE i (.int i d)=MO;simp[fE]
  |inr l=>
   obtain⟨c,rfl,e⟩:=(show ∃c,_=V.ref c/\SqT X.K H c (l.map V.int)from h);cases r;show{c,rfl,I.key P w e}
def Inv.deep (I:Inv X f' σ H s)(h:KeyAt X.K H b ks):IsDeep X.p X.w s.heap ks b:=by
 obtain⟨xs,a,c⟩:=h;obtain⟨its,r,p,_⟩:=I.tuple a;obtain⟨o,d,e,n,f⟩:=p;show{o,its.toArray,n,d,e,f,by simpa using E6 I X.p X.w r c}
def Inv.dict (I:Inv X f' σ H s)(d:DictAt X.p X.w X.K H a kvs):∃xs,Paired qq kvs xs/\s.heap.DictOfH (cv X.p X.w) a xs:=by
 obtain⟨b,c⟩:=d.at_;obtain⟨⟨xs,r,o,f,g,i,j,n,u⟩,_⟩:=(show ObjOk X.p X.w H s.heap a (me X.p X.w a b kvs)from I.hok a _ c);show{xs,r,o,f,b,g,i,j,n,λx hx=>?_,u};have all:∀{l m},Paired qq l m->(∀e∈l,KeyAt X.K H e.2.1 e.1)->∀x∈m,IsDeep X.p X.w s.heap x.1 x.2.1:=by
  intro l m q
  induction q with
  |nil=>intro _ x hx;cases hx
  |@cons p q ps A h t y=>
   intro hk x hx;rcases aY.mp hx with rfl | hx;{have:=I.deep (hk p aP);rw[h.1,h.2.1]at this;show this};{show y (λe z=>hk e (aT _ z)) x hx}
 show all r d.keys x hx
def Dh (r:Paired qq kvs xs)(dd:h'.DictOfH (cv P w) a xs):∃b,∀H':Hp,ObjOk P w H' h' a (me P w a b kvs):=by
 obtain⟨o,e,b,d,f,g,i,_,j⟩:=dd;show{b,λ_=>{#v[xs,r,o,e,d,f,g,i,j],#v[o,d],λx y c k=>?_}};obtain⟨l,m,n,p,u,q⟩:=c;show{l,m,n,p,k _ u,q}
def rInD (P:aQ)(w:bB)(K:aF):R2:=λx y H Q=>∃b ks a kvs,x=.ref b/\y=.ref a/\KeyAt K H b ks/\DictAt P w K H a kvs/\Q (.bl (atK kvs ks).isSome) H
def ajb {P:aQ}{w:bB}{K:aF}(c:X.p=P)(hw:X.w=w)(f:X.K=K)(l:X.A.units+8 < cK):OpR X (eE .In) (rInD P w K):=by
 subst c hw f;intro f' s σ H x y v u Q I g i h;obtain⟨b,ks,a,kvs,rfl,rfl,j,d,q⟩:=h;cases g;cases i;obtain⟨xs,r,dd⟩:=I.dict d;show wpAny_in_heap (knd:=cv X.p X.w) (by change X.A.units+1+2 < cK;lia) (I.deep j) d.sys dd ?_;have e:=(Bw r ks).isSome_eq;rw[eA]at e;rw[<-e];show{.bl _,H,I.tok _,rfl,q}
def afb (P:aQ)(w:bB)(K:aF):R2:=λx y H Q=>∃b ks a kvs,x=.ref b/\y=.ref a/\KeyAt K H b ks/\DictAt P w K H a kvs/\Q (.bl (!(atK kvs ks).isSome)) H
def W8 {P:aQ}{w:bB}{K:aF}(c:X.p=P)(hw:X.w=w)(f:X.K=K)(l:X.A.units+8 < cK):OpR X (eE .NotIn) (afb P w K):=by
 subst c hw f;intro f' s σ H x y v u Q I g i h;obtain⟨b,ks,a,kvs,rfl,rfl,j,d,q⟩:=h;cases g;cases i;obtain⟨xs,r,dd⟩:=I.dict d;show wpAny_notIn_heap (knd:=cv X.p X.w) (by change X.A.units+1+2 < cK;lia) (I.deep j) d.sys dd ?_;have e:=(Bw r ks).isSome_eq;rw[eA]at e;rw[<-e];show{.bl _,H,I.tok _,rfl,q}
def rIxD (P:aQ)(w:bB)(K:aF):R2:=λx y H Q=>∃a kvs b ks v,x=.ref a/\y=.ref b/\DictAt P w K H a kvs/\KeyAt K H b ks/\atK kvs ks=KE v/\Q v H
def rSetD (P:aQ)(w:bB)(K:aF):V->V->V->Hp->(Hp->Prop)->Prop:=λo i v H Q=>∃a kvs b ks,o=.ref a/\i=.ref b/\DictAt P w K H a kvs/\KeyAt K H b ks/\kvs.length < sizeLine/\∀c,Q (upd H a (me P w a c (iu kvs ks b v)))
def Xa {P:aQ}{w:bB}{K:aF}(g:X.p=P)(hw:X.w=w)(j:X.K=K)(N:X.A.units+8 < cK):Tj X (rSetD P w K):=by
 subst g hw j;intro f' s σ H o i v O iv u Q I m n p h;obtain⟨a,kvs,b,ks,rfl,rfl,d,y,l,q⟩:=h;cases m;cases n;obtain⟨xs,r,dd⟩:=I.dict d;have hz:xs.length<=sizeLine:=(by rw[<-Paired.length r];show d.len);show wpAny_setItem_heap (knd:=cv X.p X.w) (hsz:=hz) (by change X.A.units+1+2 < cK;lia) (I.deep y) dd λh' f C=>?_;have D:∃c,h'.get? a=KE c:=(by obtain⟨c,_,_,e,_⟩:=f;show#v[c,e]);obtain⟨T,E⟩:=d.at_;obtain⟨G,J⟩:=Dh (E3 r ks b p) f;show{_,I.write (x:=a) (e:=a) (by rw[E];show hX) (.inl rfl) (λb q L z=>(C.2 b L).trans z) D (J _),q G}
def ajc (P:aQ)(w:bB)(K:aF):DK->Hp->VK->Prop:=λxs H Q=>∃l vs b,xs=[.ref l]/\H l=KE (.lst vs)/\Paired (λv e=>∃p,v=.ref p/\SqT K H p [.ref e.2.1,e.2.2]/\KeyAt K H e.2.1 e.1) vs b/\
 ∀a c,H a=MN->(a == gD)=MP->Q (.ref a) (upd H a (me P w a c (kh [] b)))
def Uc {P:aQ}{w:bB}{K:aF}(x:X.p=P)(hw:X.w=w)(y:X.K=K)(z:X.calm=MO)(C:X.A.units+16 < cK):i9 X (.type "dict") (ajc P w K):=by
 subst x hw y;intro f' s σ H xs us Q I c h;obtain⟨l,vs,a,rfl,D,d,q⟩:=h;obtain⟨u,rfl,E⟩:=jg c;cases(show u=bQ l from E);obtain⟨its,n,r,e,hz⟩:=I.lst D;have mk:∀{vs:DK}{its:AJ}{a:DE},Vals vs its->Paired (λv (e:CW×MQ×V)=>∃p,v=.ref p/\SqT X.K H p [.ref e.2.1,e.2.2]/\KeyAt X.K H e.2.1 e.1) vs a->∃ks,Paired (Mb X.p X.w s.heap) its ks/\Paired qq a ks:=by
  intro vs its a r
  induction r generalizing a with
  |nil=>intro h;cases h;show{[],.nil,.nil}
  |@cons v iv vs its c t G=>
   intro h;cases h with
   |@cons _ e _ a h J=>
    obtain⟨p,rfl,d,hk⟩:=h;obtain⟨ks,b,f⟩:=G J;obtain⟨pi,rp,L,_⟩:=I.tuple d;obtain⟨o,N,O,m,T⟩:=L;cases c;obtain⟨U,Y,rfl,g,i⟩:=En rp;cases(show U=bQ e.2.1 from g);show{(e.1,e.2.1,Y)::ks,.cons {p,o,m,rfl,N,O,T,I.deep hk} b,.cons #v[rfl,rfl,i] f}
 obtain⟨ks,b,f⟩:=mk r d;have kl:ks.length<=sizeLine:=by
  have h1:its.length=ks.length:=Paired.length b;have h2:=r.length;lia
 show Ua (A:=X.A) e (⇑b) kl (I.ok.hd z) C λh' tk kp dd=>?_;obtain⟨j,ho⟩:=Dh (Pt f .nil) dd;show⟨.ref ‹s›,_,I.laid (t':=tk) (o:=me X.p X.w ‹s› j (kh [] a)) kp (aI _) (ho _),rfl,q _ j (I.hok.fresh (aI _)) (beq_eq_false_iff_ne.mpr (Ne.symm (bH I.big)))⟩
def ajd (P:aQ)(w:bB)(K:aF):DK->Hp->VK->Prop:=λxs H Q=>∃a kvs,xs=[.ref a]/\DictAt P w K H a kvs/\(kvs.map λe=>ay P w e.1).Nodup/\∀b c,H b=MN->(b == gD)=MP->Q (.ref b) (upd H b (me P w b c kvs))
def Ud {P:aQ}{w:bB}{K:aF}(f:X.p=P)(hw:X.w=w)(g:X.K=K):i9 X (.type "dict") (ajd P w K):=by
 subst f hw g;intro f' s σ H xs us Q I i h;obtain⟨a,kvs,rfl,d,b,q⟩:=h;obtain⟨u,rfl,j⟩:=jg i;cases(show u=bQ a from j);obtain⟨ys,r,dd⟩:=I.dict d;have hz:ys.length<=sizeLine:=(by rw[<-Paired.length r];show d.len);have hs:(kvs.map λe=>ay X.p X.w e.1)=ys.map λe=>ay X.p X.w e.1:=by
  clear b dd hz q d
  induction r with
  |nil=>rfl
  |cons h t l=>rw[bE,bE,l,h.1]
 rw[hs]at b;show Wy d.sys dd hz b λh' kp m=>?_;obtain⟨c,n⟩:=Dh r m;show{.ref ‹s›,_,I.laid (t':=s.toks) (o:=me X.p X.w ‹s› c kvs) kp (aI _) (n _),rfl,q _ c (I.hok.fresh (aI _)) (beq_eq_false_iff_ne.mpr (Ne.symm (bH I.big)))}
end
def Itdn (hi:Int)(n:Nat):It:={λi _=>i < n,λi H x H'=>H'=H/\x=.int (hi - i),λi _=>n<=i}
def Xb {P:aQ}{w:bB}{K:aF}{tg:MS}(it:MQ)(lo:Int)(n:Nat):Aj P w K tg (Itdn lo n) [it] it (λi h=>sG h it (lo+(i:Nat) * (-1)) ((n:Int) - (i:Nat)) (-1)) where
 mem:=by simp
 obj:=λi h st b hb=>by
  have e:b=it:=(⇑hb);subst e;show⟨_,st,λv z=>by
    have z':sH _=qA v:=z;cases z'⟩
 keep:=λi h h' st k=>k it ∅ _ st
 item:=by
  intro X hP hw hK hc i f' s σ H E I hf st hg;subst hP hw hK;obtain⟨f0,f1,f2,f3,f4,f5⟩:=hf it ∅;have W:=Walks.range (prog:=X.p) (w:=X.w) (I.ok.hd hc) it lo (-1) n;show W.item i s _ _ hg st λv h' tk hv zZ kk=>?_;obtain⟨t,rfl⟩:=hv;have I1:Inv X f' σ H { s with heap:=h',toks:=tk }:=I.turned (λb o hb e=>kk b o (⇑hb) e) f0 f1 f3 f4 f5;show⟨_,rfl,El (s:={ s with heap:=h',toks:=tk }) (n:="range_iterator") zZ rfl rfl #v[] {.int (lo - i),H,I1,{t,?_},#v[rfl,rfl],zZ,λb hb=>(hf b hb).1}⟩;rw[show lo+(i:Int) * (-1)=lo - i by lia]
 done:=by
  intro X hP hw hK hc i f' s σ H E I hf st hg;subst hP hw hK;obtain⟨f0,f1,f2,f3,f4,f5⟩:=hf it ∅;show wpAny_pyNext_range_end (I.ok.hd hc) st (by have:n<=i:=hg;lia) λh' eb=>{rfl,I.turned (t':=s.toks) (λb o hb e=>eb b o hb e) f0 f1 f3 f4 f5}
 self:=λ_ _ _ _ _ st h=>wpAny_pyIter_rangeiter st h
section
variable {X:Cx}
def rAnyB (K:aF):DK->Hp->VK->Prop:=λxs H Q=>∃(a:MQ)(bs:List Bool),xs=[.ref a]/\SqL K H a (bs.map V.bl)/\Q (.bl (bs.any id)) H
def Xc (E:X.calm=MO):i9 X (.builtin "any") (rAnyB X.K):=by
 intro l s G H xs us Q I r h;obtain⟨a,bs,rfl,J,q⟩:=h;obtain⟨u,rfl,f⟩:=jg r;cases f;obtain⟨its,m,pl,hz⟩:=I.list J;have g:=pl.isList;have lt:a < ‹s›:=(by obtain⟨o,L,_⟩:=g;show aS L);have N:Inv X l G H { s with heap:=s.heap.push { cls:=.type "list_iterator",data:=.fields #[.ref a,.int 0 0] } }:=I.kept (t':=s.toks) λb o e=>aE _ e;have c:kq X l H ‹s›:=I.fpOk (aI _) (I.hok.fresh (aI _));have len:its.length=bs.length:=(by rw[<-m.length,aC]);have tr:TruthOf X.p X.w X.A.in1 (λi v=>its.toArray[i]?=KE v) (λi=>bs.getD i MO):=λi v s' O E' e T=>by
  have n:its[i]?=KE v:=(⇑e);have hi:i < bs.length:=(by rw[<-len];show(bK.mp n).1);obtain⟨u,p,f⟩:=m.get (i:=i) (x:=.bl bs[i]) (by rw[aN,aB hi];rfl);rw[n]at p;cases p;cases(show v=mT bs[i]from f);show jU ?_;have z:bs.getD i MO=bs[i]:=(by rw[bN,aB hi];rfl);have C:O (bs.getD i MO) s':=T;rw[z]at C;show C
 show call_any_walk (dJ g {‹s›,[‹s›,a],[‹s›],its.toArray.size,_,_,λi=>bs.getD i MO,rfl,tF (show X.A.in1.handled=MN from I.ok.hd E) ‹s› a (bH lt) its.toArray,{{_,aZ _ rfl,rfl,rfl},jE g _},tr,λh' U Y=>?_});have ea:(bA its.toArray.size).any (λi=>bs.getD i MO)=bs.any id:=by
  rw[aL,len,fO,oE,oE];constructor;{intro j;obtain⟨i,hi,y⟩:=j;have D:=bW.mp hi;rw[bN,aB D]at y;show{_,fS D,y}};{intro j;obtain⟨b,d,y⟩:=j;obtain⟨i,hi,rfl⟩:=List.mem_iff_getElem.mp d;show{i,bW.mpr hi,?_};rw[bN,aB hi];show y}
 rw[ea];show{.bl _,H,N.turnedAll (t':=U) (ch:=[‹s›]) (λb d=>?_) (λb o d e=>Y b o d e),rfl,q};cases aR.mp d;show#v[c.1,c.2.1,c.2.2.1,c.2.2.2.1,c.2.2.2.2.1,c.2.2.2.2.2]
end
theorem KeyAt.tups {K:aF}{H H':Hp}{b:MQ}{ks:CW}(h:KeyAt K H b ks)(e:Tups H H'):KeyAt K H' b ks:=by
 obtain⟨xs,a,d⟩:=h;show{xs,a.tups e,?_};show Paired.mapP d λv k z=>?_;cases k with
 |inl i=>show z
 |inr l=>obtain⟨c,rfl,f⟩:=z;show{c,rfl,f.tups e}
def DictAt.of {P:aQ}{w:bB}{K:aF}{H H':Hp}{a:MQ}{kvs:DE}(d:DictAt P w K H a kvs)(e:Tups H H')(b:∃c,H' a=KE (me P w a c kvs)):DictAt P w K H' a kvs:=
 {b,λx f=>(d.keys x f).tups e,d.len,d.sys}
def DictAt.mono {P:aQ}{w:bB}{K:aF}{H H':Hp}{a:MQ}{kvs:DE}(d:DictAt P w K H a kvs)(e:Same H H'):DictAt P w K H' a kvs:=d.of (Tups.of e) (d.at_.elim λb h=>{b,e _ _ h})
end L2
set_option linter.unusedVariables false
namespace L2
open PySem PySem.Spec PyProof.Rows
section
variable {X:Cx}
open Classical in
open Classical in
open Classical in
open PySem.Deep in
def aai {P:aQ}{w:bB}{K:aF}(g:X.p=P)(hw:X.w=w)(i:X.K=K)(C:X.A.units+8 < cK):IxR X (rIxD P w K):=by
 subst g hw i;intro value slice j s l H x y v u Q I m n h hs;obtain⟨a,kvs,b,ks,z,rfl,rfl,d,o,e,q⟩:=h;cases m;cases n;obtain⟨xs,r,dd⟩:=I.dict d;have c:=Bw r ks;rw[e]at c;cases f:kY xs ks with
 |none=>rw[f]at c;show c.elim
 |some p=>
  rw[f]at c;show nU (x:=p.2) dd.typeIs slot_dict_getitem.lookup
   (wpAny_getItem_heap (knd:=cv X.p X.w) (Q:=λr s'=>r=p.2/\EP X j l Q r s') (by change X.A.units+1+2 < cK;lia) (I.deep o) dd f {rfl,z,H,I.tok _,c,q}) hs
end
open PySem.Deep
section
variable {X:Cx}{pos:Pos}
def afc (K:aF):V->DK->Hp->VK->Prop:=λx vs H Q=>∃(a:MQ)(ss:AQ) (t:Str),x=.ref a/\vs=[.str t]/\SqL K H a (ss.map V.str)/\t∈ss/\Q (.int (ss.idxOf t:Nat)) H
theorem Jl:∀ss:AQ,(ss.map V.str).all pf=MO
 | []=>rfl
 |s::ss=>by rw[bE,qI,Jl ss];rfl
def Xd:MtR X "list.index" (afc X.K):=by
 intro O s T H x vs v us Q I j l h;obtain⟨a,ss,t,rfl,rfl,o,b,q⟩:=h;cases j;obtain⟨u,rfl,z⟩:=jg l;obtain⟨its,r,p,hz⟩:=I.list o;obtain⟨⟨cls,dd,data,A⟩,d,e,n,hd⟩:=p.isList;simp only at e hd;subst e hd;have C:=r.length;rw[aC]at C;have D:ss.idxOf t < ss.length:=dH.mpr b;have key:∀(m:Nat)(b:m < its.length) (f:m < ss.length),eqU (.str t) its[m]=decide (ss[m]=t):=λm b f=>by
  have E:(ss.map V.str)[m]?=KE (.str ss[m]):=(by rw[aN,aB f];rfl);obtain⟨w,g,G⟩:=r.get E;rw[aB b]at g;have c:its[m]=w:=cB g;rw[c,Wh G rfl];change(ss[m] == t)=decide (ss[m]=t);rw[fO,beq_iff_eq,decide_eq_true_iff]
 have i:=ng;rw[aC]at hz;show jH jA {_,d,rfl} PySem.F.entry_list_index (PySem.F.args_list_index_2 _ _)
  (SeqAt.list_indexAt a its.toArray n dd A u (eqU (.str t)) (ss.idxOf t) (by simp;lia) () ?_ ?_) {d,λy J=>?_,{.int _,H,I.tok _,{_,rfl},q}}
 {rw[jX,key _ () D];simp[iE]};{intro m L N;rw[jX,key m (⇑L) ()];rw[decide_eq_false_iff_not];show λc=>L9 N () c};{show L6 (x:=.str t) z rfl r (Jl ss) y (⇑J)}
end
end L2
namespace HT
open PySem PyProof.Rows
section
variable {prog:aQ}{w:bB}{A:bX}{E:aK->aG->Prop}{s:aG}
def getItem_tuple_whole {items:AW}{lo hi:AK}{Q:aK->aG->Prop}(a:rR s.heap t items)(hs:s.heap.IsSliceOf c d e .none)(pl:oW d lo)(f:oW e hi)
  (hw:sIx items.size 0 lo=0/\sIx items.size items.size hi=items.size) (h:Q (.ref t) s):aJ (aV prog w) A (mZ (.ref t) (.ref c)) Q E s:=by
 obtain⟨os,g,i,l⟩:=id hs;have j:s.TypeIs (.ref c) "slice":=#v[os,g,i];unfold mZ
 try with_reducible show dA ?_
 first | show aA (wpAny_pure ?_) | skip
 show aA (qR a.typeIs #v[] ?_);show aA (dO (name:=dG "__getitem__") a.typeIs dC (dD dC a.typeIs pK ?_ (qB _ _)));change aJ _ _ (jS (.ref t) >>= _) _ _ s;show aA (tupleItemsOf_ a ?_);show aA (iN j ?_);rw[MU #v[]];show aA (uo hs pl f ?_);have b:((((sIx items.size 0 lo:Nat):Int) == 0 && (1:Int) == 1 && (sIx items.size items.size hi - sIx items.size 0 lo) == items.size)=MO):=by
  rw[hw.1,hw.2];simp
 change aJ _ _ (if (((sIx items.size 0 lo:Nat):Int) == 0 && (1:Int) == 1 && (sIx items.size items.size hi - sIx items.size 0 lo) == items.size)=MO then _ else _) _ _ s
 rw[MU b];unfold Builtin.Tuple.tupleIsExact;show aA (aA (iN a.typeIs (wpAny_pure ?_)));rw[MU #v[]];show aA (lN (wpAny_pure {_,rfl,wpAny_pure h}))
end
end HT
namespace L2
open PySem PySem.Spec PyProof.Rows
section
variable {X:Cx}
def Xe (xs:DK)(lo hi:AK):Prop:=HT.sIx xs.length 0 lo=0/\HT.sIx xs.length xs.length hi=xs.length
def rSlT0 (K:aF):V->AK->AK->Hp->VK->Prop:=λx lo hi H Q=>∃a xs,x=.ref a/\SqT K H a xs/\Xe xs lo hi/\Q (.ref a) H
def afd:SlR X (rSlT0 X.K):=by
 intro g s i H x v j l lo hi m Q I c hs pl d h;obtain⟨a,xs,rfl,e,hw,q⟩:=h;cases c;obtain⟨its,r,b,hz⟩:=I.tuple e;have f:its.toArray.size=xs.length:=(by rw[aL];show r.length.symm);show{"tuple",_,dC.lookup,b.typeIs,?_};show HT.getItem_tuple_whole b hs pl d (by rw[f];show hw) {.ref a,H,I,rfl,q}
end
def bu {a:Type}(xs:List a)(lo hi:AK):List a:=(xs.drop (HT.sIx xs.length 0 lo)).take (HT.sIx xs.length xs.length hi - HT.sIx xs.length 0 lo)
end L2
namespace L2
open PySem PySem.Spec PyProof.Rows
section
variable {X:Cx}{pos:Pos}
theorem Jm (ns:LQ):∀n,rK (λi=>ns.getD i 0) n=(ns.take n).sum
 |0=>by simp[rK]
 |n+1=>by
  change rK (λi=>ns.getD i 0) n+ns.getD n 0=_;rw[Jm ns n,cX,sD,bN];cases ns[n]?<;>simp
def rSumS (K:aF):DK->Hp->VK->Prop:=λxs H Q=>∃(a:MQ)(ns:LQ),xs=[.ref a]/\SqL K H a (ns.map V.int)/\ns.length<=1000/\(∀n∈ns,-1000000<=n/\n<=1000000)/\Q (.int ns.sum) H
def Xf (E:X.calm=MO):i9 X (.builtin "sum") (rSumS X.K):=by
 intro p s G H xs us Q I r h;obtain⟨a,ns,rfl,J,g,L,q⟩:=h;obtain⟨u,rfl,l⟩:=jg r;cases l;obtain⟨its,w,pl,hz⟩:=I.list J;have m:=pl.isList;have lt:a < ‹s›:=(by obtain⟨o,N,_⟩:=m;show aS N);have O:Inv X p G H { s with heap:=s.heap.push { cls:=.type "list_iterator",data:=.fields #[.ref a,.int 0 0] } }:=I.kept (t':=s.toks) λb o e=>aE _ e;have c:kq X p H ‹s›:=I.fpOk (aI _) (I.hok.fresh (aI _));have len:its.length=ns.length:=(by rw[<-w.length,aC]);have T:∀(i:Nat)(v:aK),its.toArray[i]?=KE v->∃t,v=.int (ns.getD i 0) t:=λi v e=>by
  have y:its[i]?=KE v:=(⇑e);have hi:i < ns.length:=(by rw[<-len];show(bK.mp y).1);obtain⟨u,C,l⟩:=w.get (i:=i) (x:=.int ns[i]) (by rw[aN,aB hi];rfl);rw[y]at C;cases C;obtain⟨t,rfl⟩:=l;show{t,by rw[bN,aB hi];rfl}
 have D:∀j,j < ns.length->-1000000<=ns.getD j 0/\ns.getD j 0<=1000000:=λj f=>by
  rw[bN,aB f];show L _ (fS f)
 show call_sum_walk (dJ m {‹s›,[‹s›,a],[‹s›],its.toArray.size,_,_,λi=>ns.getD i 0,rfl,tF (show X.A.in1.handled=MN from I.ok.hd E) ‹s› a (bH lt) its.toArray,{{_,aZ _ rfl,rfl,rfl},jE m _},λb d=>?_,T,λj f=>?_,λh' U t' Y=>?_});{change b < (s.heap.push _).objs.size;rw[eU];simp only[aY,dU,or_false]at d;rcases d with z | z;{rw[z];show jD _};{rw[z];show qX lt}}
 {rw[aL,len]at f;have b1:=D j f;have b2:=Ji (val:=λi=>ns.getD i 0) (n:=ns.length) D (j+1) ();change InLong (ns.getD j 0)/\InLong (rK (λi=>ns.getD i 0) (j+1));show{{(),()},{(),()}}};{show{.int _,H,O.turnedAll (t':=U) (ch:=[‹s›]) (λb d=>?_) (λb o d e=>Y b o d e),#v[t',rfl],by rw[aL,len,Jm,dE];show q};cases aR.mp d;show#v[c.1,c.2.1,c.2.2.1,c.2.2.2.1,c.2.2.2.2.1,c.2.2.2.2.2]}
end
end L2
namespace PySem
namespace TupSet
open SetTable
def qr (t:eS)(hs:Nat->Int)(eq:Nat->Bool)(h:Int):Nat->Probe->Option (Option Nat)
 |0,_=>MN
 |f+1,p=>match t.probe hs h p with
  |some (.empty j MN)=>KE (KE j)
  |some (.candidate _ i next)=>if eq i then KE MN else qr t hs eq h f next
  |_=>MN
structure Ue (t:eS)(n:Nat):Prop where
 mask:t.mask=7
 dum:t.dummies=#[]
 size:t.place.size=n
 plain:t.plain=MO
theorem xg (xs:CQ)(j:Nat):∀f lo hi,lo<=hi->hi<=xs.size->below.go xs j f lo hi<=xs.size
 |0,lo,hi,b,a=>by unfold below.go;lia
 |f+1,lo,hi,b,a=>by
  unfold below.go;dsimp only
  split;{split;{show xg xs j f _ _ () a};{show xg xs j f _ _ () ()}};{lia}
def Di (xs:CQ)(j:Nat):below xs j<=xs.size:=xg xs j _ _ _ (cH _) (aI _)
def J7 (xs:Array a)(p:Nat)(x:a)(h:p<=xs.size):(insertAt xs p x).size=xs.size+1:=by
 unfold insertAt;simp;lia
end TupSet
namespace TupSet
open SetTable
section
variable (prog:aQ)(w:bB)
def E7 (x:LQ):Int:=tupleKeyHash (eZ prog w) x
def Li (h:MR)(e:Int×aK)(x:LQ):Prop:=e.1=E7 prog w x/\∃a,e.2=.ref a/\jI (eZ prog w) h x a
def EntsOf (h:MR):List (Int×aK)->LJ->Prop
 | [],[]=>True
 |e::a,x::xs=>Li prog w h e x/\EntsOf h a xs
 |_,_=>False
def Lu (h:MR)(S:MQ)(t:eS)(xs:LJ):Prop:=
 ∃o a b,h.get? S=KE o/\o.ExactSet/\o.data=.set a b t/\Ue t xs.length/\EntsOf prog w h a.toList xs
def kz (st:eS×LJ)(x:LQ):eS×LJ:=
 match qr st.1 (λi=>((st.2[i]?).map (E7 prog w)).getD 0) (λi=>decide (st.2[i]?=KE x)) (E7 prog w x) 100000 (st.1.probeStart (E7 prog w x))with
 |some (KE j)=>((st.1.put j).1,st.2.take (st.1.put j).2++x::st.2.drop (st.1.put j).2)
 |_=>st
end
section
variable {prog:aQ}{w:bB}
def oj (h:(eZ prog w).is k v=MO):∃t,v=.int k t:=by
 have h':fE k v=MO:=h;cases v<;>simp[fE]at h';show{_,by rw[h']}
variable {A:bX}{E:aK->aG->Prop}{s:aG}
def items_int (h:ItemsAre (eZ prog w) ks vs):∀v∈vs,∃k t,v=.int k t:=by
 induction h with
 |nil=>intro v hv;simp at hv
 |@cons k c ks vs a _ b=>
  intro v hv;rcases aY.mp hv with rfl | hv;{show{k,oj a}};{show b v hv}
def acv {a:Type}{M:Model}{c:Bool}{m b:Sem a}{Q:a->aG->Prop}(d:aJ M A m Q E s)(e:aJ M A b Q E s):aJ M A (if c=MO then m else b) Q E s:=by
 cases c;{show e};{show d}
def x9 (prog:aQ)(w:bB)(h0 h:MR)(S:MQ)(t:eS)(xs:LJ):Prop:=
 ∃o a b,h.get? S=KE o/\o.ExactSet/\o.data=.set a b t/\Ue t xs.length/\EntsOf prog w h0 a.toList xs
end
end TupSet
namespace TupSet
open SetTable PyProof.Rows
section
variable {prog:aQ}{w:bB}{A:bX}{E:aK->aG->Prop}{s:aG}
def E8 (w:bB):Bool:=!(w.params.followText "set-order")
def aaj (a:aK)
  (h:Q₁ (.ref ‹s›) { s with heap:=s.heap.push { cls:=.type "set",dict:=MN,data:=.set #[] 0 (.fresh 0 0 (E8 w)) } }) :
  kQ (aV prog w) A (.call (.builtin "set.__new__") {[.type "set",a],[]}) (wants Q₁ E) s:=by
 show codeAny_of_tree ?_;change aJ _ A.in1 (do checkBuiltinCall "set.__new__" {[.type "set",a],[]};again (.builtin "set.__new__" {[.type "set",a],[]})) _ _ s
 show aA (uU (F.newCall_set_1 a) (wpAny_pure {qL F.plain_set_new _,iQ F.entry_set_new ?_}));rw[iR F.plain_set_new _];unfold hU.«set.__new__» Builtin.Frozenset.newClass;have b:=sub_set_self;obtain⟨c,g,d,e,os⟩:_:=s;dsimp only
 wp_walk
 show lP (wpAny_pure ?_);dsimp only;simp only[newObj];show aA (wpAny_alloc (wpAny_pure ?_));show wpAny_pure h
end
end TupSet
namespace TupSet
open SetTable PyProof.Rows
def Rise (t:eS):Prop:=t.place.toList.Pairwise (· < ·)
theorem Sb (next:Nat->Nat):∀(f k:Nat)(left:List d) (out:Array d),left.length<=f->(uJ next f k left out).toList.Perm (out.toList++left)
 |0,k,left,out,h=>by
  have:left=[]:=List.eq_nil_of_length_eq_zero ();subst this;unfold uJ;simp
 |f+1,k,left,out,h=>by
  unfold uJ
  match b:left[next k % left.length]? with
  |none=>
   have:left=[]:=by
    cases left with
    |nil=>rfl
    |cons a l=>
     rw[List.getElem?_eq_none_iff]at b;show MY (kZ (next k) (show 0 < (a::l).length by simp)) ()
   subst this;simp
  |some x=>
   dsimp only;obtain⟨c,g⟩:=bK.mp b;have i:(left.eraseIdx (next k % left.length)).length<=f:=by
    rw[List.length_eraseIdx_of_lt c];lia
   show(Sb next f (k+1) _ _ i).trans ?_
   rw[Array.toList_push,eO];show lH _ ?_;have e:left=left.take (next k % left.length)++x::left.drop (next k % left.length+1):=by
    rw[<-g,<-gF c,iF]
   rw[List.eraseIdx_eq_take_drop_succ];show((rM (l₁:=left.take (next k % left.length))).symm.trans (List.Perm.of_eq e.symm))
def Xg {a:Type}(next:Nat->Nat)(xs:Array a):(uK next xs).toList.Perm xs.toList:=by
 have:=Sb next xs.size 0 xs.toList #[] ∅
 simpa[uK]using this
end TupSet
namespace TupSet
open SetTable PyProof.Rows
def jk:Slot "set_iterator" "__next__" "set_iterator.__next__":=
 .of (owner:="set_iterator") (n:="__next__") (by rw[sA,oO];kernel_rfl) ⋯ ⋯ ⋯
  (by first | show .inl ⋯ | show .inr ⋯) (by rw[sM];kernel_rfl)
def z8:uW table "set_iterator.__next__"=KE hU.«set_iterator.__next__»:=entryFor_of_tree (by kernel_rfl)
def Ap (a:aK):argsOk "set_iterator.__next__" {[a],[]}:=by
 unfold argsOk;rw[signature?_of (id:="set_iterator.__next__") (n:=['_','_','t','x','e','n','_','_']) (o:=['r','o','t','a','r','e','t','i','_','t','e','s']) (rows:=Manifest.sig_set_iterator) (by kernel_rfl) (by kernel_rfl)];kernel_rfl
def Mc:uW table "set.__iter__"=KE hU.«frozenset.__iter__»:=
 entryFor_alias (id':="frozenset.__iter__") (by kernel_rfl) rfl ⋯ (by kernel_rfl)
def g7 (w:bB)(S:MQ)(b:Nat)(a:Array (Int×aK)):AJ:=
 if w.params.followText "set-order" then (uK (w.params.setOrder S b) a).toList.map (·.2)else a.toList.map (·.2)
def E9 (w:bB)(S:MQ)(b:Nat)(a:Array (Int×aK)):(g7 w S b a).Perm (a.toList.map (·.2)):=by
 unfold g7
 split;{show(Xg _ _).map _};{show lI _}
def si (w:bB)(S:MQ)(b:Nat)(a:Array (Int×aK)):(g7 w S b a).length=a.size:=by
 rw[(E9 w S b a).length_eq];simp
def IsSetIter (w:bB)(h:MR)(I S:MQ)(i:Nat)(n a:Nat)(t:eS):Prop:=
 ∃(slot:Nat)(o:Obj),h.get? I=KE o/\o.cls=.type "set_iterator"/\o.data=.fields #[.int slot 0,.int i 0,.ref S,.int n 0,.int a 0]/\(w.params.followText "set-order"=MP->below t.place slot=i)
section
variable {prog:aQ}{w:bB}{A:bX}{E:aK->aG->Prop}{s:aG}
def Aq {a:Type}{M:Model}{c:Bool}{m b:Sem a}{Q:a->aG->Prop}(d:c=MP)(h:aJ M A b Q E s):aJ M A (if c=MO then m else b) Q E s:=by
 subst d;show h
def IsSetIter.typeIs {I S:MQ}{i n a:Nat}{t:eS}(x:IsSetIter w s.heap I S i n a t):s.TypeIs (.ref I) "set_iterator":=
 let ⟨_,o,b,c,_⟩:=x;#v[o,b,c]
structure SetObj (w:bB)(o:Obj)(es:Array (Int×aK))(ep:Nat)(t:eS):Prop where
 ex:o.ExactSet
 data:o.data=.set es ep t
 small:Ue t es.size
 n3:es.size<=3
 rise:Rise t
 led:w.params.followText "set-order"=MP->t.led=MO
end
end TupSet
namespace TupSet
open SetTable PyProof.Rows PySem.W
def Ar:Slot "set_iterator" "__iter__" "set_iterator.__iter__":=
 .of (owner:="set_iterator") (n:="__iter__") (by rw[sA,oO];kernel_rfl) ⋯ ⋯ ⋯
  (by first | show .inl ⋯ | show .inr ⋯) (by rw[sM];kernel_rfl)
def Me (a:aK):argsOk "set_iterator.__iter__" {[a],[]}:=by
 unfold argsOk;rw[signature?_of (id:="set_iterator.__iter__") (n:=['_','_','r','e','t','i','_','_']) (o:=['r','o','t','a','r','e','t','i','_','t','e','s']) (rows:=Manifest.sig_set_iterator) (by kernel_rfl) (by kernel_rfl)];kernel_rfl
def J8:uW table "set_iterator.__iter__"=KE hU.«dict_keyiterator.__iter__»:=
 entryFor_alias (id':="dict_keyiterator.__iter__") (by kernel_rfl) rfl ⋯ (by kernel_rfl)
section
variable {prog:aQ}{w:bB}{A:bX}{E:aK->aG->Prop}{s:aG}
def aak (a:s.TypeIs (.ref r) "set")(h:Q MP s):aJ (aV prog w) A (Builtin.List.listLengthHint (.ref r)) Q E s:=by
 unfold Builtin.List.listLengthHint;show aA (gG a PySem.F.slot_set_len.lookup ?_);generalize e:("set.__len__":String)=c
 wp_delta
 rw[show splitId c=KE ("set","__len__")from by subst e;decide +kernel];subst e;show aA (iC (T:="set") (b:=MO) a (by rw[sM];kernel_rfl) ?_);show wpAny_ite_split (λd=>MY d #v[]) (λ_=>?_);show wpAny_ite_split (λ_=>?_) (λd=>MY ⋯ d);show aA (iN a ?_);show wpAny_pure h
end
end TupSet
namespace TupSet
open SetTable PyProof.Rows PySem.W
def lexLt:LQ->LQ->Bool
 | [],[]=>MP
 | [],_::_=>MO
 |_::_,[]=>MP
 |a::c,b::bs=>if a=b then lexLt c bs else decide (a < b)
theorem mh:∀x,lexLt x x=MP
 | []=>rfl
 |a::b=>by simp[lexLt,mh b]
theorem lex_total:∀x y,lexLt x y=MP->lexLt y x=MP->x=y
 | [],[],_,_=>rfl
 | [],_::_,h,_=>nomatch h
 |_::_,[],_,h=>nomatch h
 |a::f,b::bs,c,d=>by
  by_cases e:a=b;{subst e;simp[lexLt]at c d;rw[lex_total f bs c d]};{have g:¬b=a:=λh=>e h.symm;simp[lexLt,e,g]at c d;lia}
theorem lex_trans:∀x y z,lexLt x y=MO->lexLt y z=MO->lexLt x z=MO
 | [],[],_,h,_=>nomatch h
 | [],_::_,[],_,h=>nomatch h
 | [],_::_,_::_,_,_=>rfl
 |_::_,[],_,h,_=>nomatch h
 |_::_,_::_,[],_,h=>nomatch h
 |a::i,b::bs,c::cs,d,e=>by
  by_cases g:a=b;{subst g;by_cases f:a=c;{subst f;simp[lexLt]at d e ⊢;show lex_trans i bs cs d e};{simp[lexLt,f]at d e ⊢;show e}};{by_cases f:b=c;{subst f;simp[lexLt,g]at d e ⊢;show d};{simp[lexLt,g,f]at d e;have j:¬a=c:=();simp[lexLt,j];lia}}
def lex_asymm {x y:LQ}(h:lexLt x y=MO):lexLt y x=MP:=by
 cases h':lexLt y x with
 |false=>rfl
 |true=>have:=lex_trans _ _ _ h h';rw[mh]at this;show nomatch this
def pz (x y:LQ):Prop:=lexLt y x=MP
def oy (l:LJ):Prop:=l.Pairwise pz
def yt (x:LQ):LJ->LJ
 | []=>[x]
 |y::l=>if lexLt y x=MO then y::yt x l else x::y::l
def isort:LJ->LJ
 | []=>[]
 |x::l=>yt x (isort l)
def c8 {b:Type}(lt:Nat->Nat->Bool):KasT b->b
 | .ret a=>a
 | .ask i j k=>c8 lt (k (lt i j))
def rn {a:Type}(n:Nat):KasT a->Bool
 | .ret _=>MO
 | .ask i j k=>decide (i < n) && decide (j < n) && rn n (k MO) && rn n (k MP)
def Xh {a:Type}{n i j:Nat}{k:Bool->KasT a}(h:rn n (.ask i j k)=MO):i < n/\j < n/\∀b,rn n (k b)=MO:=by
 simp only[rn,cI,decide_eq_true_eq]at h;show{h.1.1.1,h.1.1.2,λb=>by cases b;show h.2;show h.1.2}
theorem Sd {b:Type}{n:Nat}{lt:Nat->Nat->Bool}{c:Nat->Nat->(Bool->aG->Prop)->aG->Prop}(d:∀i j C,i < n->j < n->C (lt i j) s->c i j C s){Q:b->aG->Prop}:∀(t:KasT b),rn n t=MO->Q (c8 lt t) s->t.kasWp c Q s
 | .ret a,_,h=>h
 | .ask i j k,e,h=>by
  have a:=Xh e;show d i j _ a.1 a.2.1 (Sd d (k (lt i j)) (a.2.2 _) h)
def ltX (xs:LJ)(i j:Nat):Bool:=lexLt (xs.getD i []) (xs.getD j [])
end TupSet
namespace TupSet
open SetTable PyProof.Rows PySem.W
def KeysL (prog:aQ)(w:bB)(h:MR):AJ->LJ->Prop
 | [],[]=>True
 |v::vs,x::xs=>(∃a,v=.ref a/\jI (eZ prog w) h x a)/\KeysL prog w h vs xs
 |_,_=>False
end TupSet
end PySem
namespace L2
open PySem PySem.Spec PyProof.Rows PySem.TupSet
section
variable {P:aQ}{w:bB}{H H':Hp}{h h':MR}{a:MQ}{o:HO}{fs ex:CZ}
def ObjOk.has (x:ObjOk P w H h a o):∃b,h.get? a=KE b:=by
 cases o with
 |lst xs=>obtain⟨_,_,_,_,e⟩:=x;show{_,e}
 |tup xs=>obtain⟨_,_,_,b,e,_⟩:=x;show{_,e}
 |dK kvs=>obtain⟨_,_,_,_,o,_,_,e,_⟩:=x;show{_,e}
 |dT kvs=>obtain⟨_,_,_,_,o,_,_,e,_⟩:=x;show{_,e}
 |set S n=>obtain⟨o,_,_,_,e,_⟩:=x;show{_,e}
 |ins C c fs=>obtain⟨_,_,_,e,_⟩:=x;show{_,e}
 |own y=>obtain⟨_,e⟩:=x;show{_,e}
 |xd fs=>obtain⟨_,⟨_,_,_,e,_⟩,_⟩:=x;show{_,e}
 |rng lo hi=>obtain⟨_,_,_,e⟩:=x;show{_,e}
 |frz b u=>obtain⟨e,_⟩:=x;show{_,e}
 |tbl ps=>show{_,show h.get? a=KE _ from x}
 |met f y=>show{_,show h.get? a=KE _ from x}
 |ext d=>obtain⟨_,⟨_,e⟩,_⟩:=x;show{_,e}
def HOk.none_at (x:HOk P w H h)(e:h.get? a=MN):H a=MN:=by
 cases q:H a with
 |none=>rfl
 |some u=>
  obtain⟨b,z⟩:=(x a u q).has;rw[e]at z;cases z
def HOk.laidN (x:HOk P w H h)(k:∀b u,h.get? b=KE u->h'.get? b=KE u)(g:h.get? a=MN)(new:ObjOk P w (upd H a o) h' a o):HOk P w (upd H a o) h':=λb u e=>by
 have d:=x.none_at g;by_cases f:b=a;{subst f;rw[bh]at e;cases e;show new};{rw[bc f]at e;show(x b u e).stay (λc v _ q=>k c v q) (λc q=>by rw[bc (b7 q d)];show q) λc xs q=>by rw[bc (b7 q d)];show q}
def Un.laidN (k:∀b u,h.get? b=KE u->h'.get? b=KE u)(hp:h.get? a=MN)(hn:H a=MN):Un fs ex H (upd H a o) h h' where
 keep:=λb u q _ _ _=>k b u q
 slot:=λb u q _ _ _=>{u.slots,k b u q}
 free:=λb u q n _=>by rw[bc (λz=>by rw[z,hp]at q;cases q)];show n
 there:=λb u q _=>{u,k b u q}
 tups:=λb xs q=>by rw[bc (b7 q hn)];show q
 frzs:=λb u xs q=>by rw[bc (b7 q hn)];show q
 tbls:=λb ps q=>{#[],by rw[bc (b7 q hn),q];simp}
end
theorem Inv.laidN {X:Cx}{d:BK}{e:List (Option V)}{H:Hp}{s:aG}{h':MR}{a:MQ}{o:HO}{t':Nat}(I:Inv X d e H s)(k:∀b u,s.heap.get? b=KE u->h'.get? b=KE u)(c:s.heap.get? a=MN)(new:ObjOk X.p X.w (upd H a o) h' a o) :
  Inv X d e (upd H a o) { s with heap:=h',toks:=t' }:=I.un (Un.laidN k c (I.hok.none_at c)) (I.hok.laidN k c new)
def TupsV (K:aF)(H:Hp)(ys:DK)(L:LJ):Prop:=Paired (λy x=>∃a,y=.ref a/\SqT K H a (x.map V.int)) ys L
theorem Mf:∀{x its},Vals (x.map V.int) its->PySem.ItemsAre (eZ prog w) x its
 | [],_,.nil=>.nil
 |k::x,_,.cons r t=>by
  obtain⟨a,rfl⟩:=r;show .cons (by change fE k (.int k a)=MO;simp[fE]) (Mf t)
section
variable {X:Cx}{f':BK}{σ:St}{H:Hp}{s:aG}
def Inv.tkey (I:Inv X f' σ H s)(h:SqT X.K H a (x.map V.int)):jI (eZ X.p X.w) s.heap x a:=by
 obtain⟨its,r,⟨o,b,c,n,hd⟩,_⟩:=I.tuple h;show{o,its.toArray,n,b,c,hd,by simpa using Mf r}
open Classical in
end
end L2
namespace PySem
namespace TupSet
open SetTable
def jv (m:Nat)(p:Probe):Probe:=
 if p.more > 0 then { p with j:=p.j+1,more:=p.more - 1 }else
 { p with j:=(leap m p.i p.perturb).1,more:=runEnd m (leap m p.i p.perturb).1 - (leap m p.i p.perturb).1,i:=(leap m p.i p.perturb).1,perturb:=(leap m p.i p.perturb).2 }
def Xi (t:eS)(p:Probe):t.advance p=jv t.mask p:=rfl
def sj (m:Nat)(h:Int):Probe:={ j:=bits h % (m+1),more:=runEnd m (bits h % (m+1)) - bits h % (m+1),i:=bits h % (m+1),perturb:=bits h,dummy:=MN }
def Xj (m:Nat)(p:Probe):(jv m p).dummy=p.dummy:=by unfold jv;split<;>rfl
def ComesM (m a:Nat):Nat->Probe->Prop
 |0,p=>p.j=a
 |k+1,p=>p.j=a\/ComesM m a k (jv m p)
theorem ComesM.mono:∀{k n p},ComesM m a k p->k<=n->ComesM m a n p
 |0,0,_,h,_=>h
 |0,n+1,_,h,_=>.inl h
 |k+1,0,_,_,h=>MY h ()
 |k+1,n+1,_,.inl h,_=>.inl h
 |k+1,n+1,_,.inr h,b=>.inr (ComesM.mono h ())
def gr (m j:Nat):Nat->Nat->Bool
 |0,i=>i == j
 |l+1,i=>i == j || gr m j l ((i * 5+1) % (m+1))
def it (m:Nat):Nat->Nat->Nat
 |0,i=>i
 |k+1,i=>it m k ((i * 5+1) % (m+1))
theorem Fb (m:Nat):∀a b i,it m (a+b) i=it m b (it m a i)
 |0,b,i=>by rw[eP];rfl
 |a+1,b,i=>by rw[show a+1+b=(a+b)+1 by lia];show Fb m a b _
theorem xh:∀{k l i},it m k i=j->k<=l->gr m j l i=MO
 |0,0,i,h,_=>by have:i=j:=h;simp[gr,this]
 |0,l+1,i,h,_=>by have:i=j:=h;simp[gr,this]
 |k+1,0,i,_,h=>MY h ()
 |k+1,l+1,i,h,a=>by unfold gr;rw[xh (k:=k) h (),Bool.or_true]
theorem Cy:∀{l i},gr m j l i=MO->∃k,k<=l/\it m k i=j
 |0,i,h=>{0,aI _,by change i=j;simpa[gr]using h}
 |l+1,i,h=>by
  unfold gr at h;rw[mG]at h;rcases h with h | h;{show{0,cH _,by change i=j;simpa using h}};{obtain⟨k,hk,e⟩:=Cy h;show{k+1,(),e}}
def Mg (m:Nat):Bool:=(bA (m+1)).all (λj=>gr m j m 0) && it m (m+1) 0 == 0
def orb7:Mg 7=MO:=by decide +kernel
def orb31:Mg 31=MO:=by decide +kernel
def aje:Mg 127=MO:=by decide +kernel
def M3 (m:Nat):Prop:=m=7\/m=31\/m=127
def afe (a:M3 m):(∀j,j<=m->∃k,k<=m/\it m k 0=j)/\it m (m+1) 0=0:=by
 have h:Mg m=MO:=by
  rcases a with rfl | rfl | rfl;{show orb7};{show orb31};{show aje}
 unfold Mg at h;rw[cI]at h;show{λj b=>Cy (List.all_eq_true.mp h.1 j (bW.mpr ())),by simpa using h.2}
def Jn (f:M3 m)(hi:i<=m)(g:j<=m):gr m j m i=MO:=by
 obtain⟨o,c⟩:=afe f;obtain⟨a,l,d⟩:=o i hi;obtain⟨b,n,e⟩:=o j g;by_cases h:a<=b;{show xh (k:=b - a) ?_ ();rw[<-d,<-Fb,show a+(b - a)=b by lia];show e};{show xh (k:=b+(m+1) - a) ?_ ();rw[<-d,<-Fb,show a+(b+(m+1) - a)=(m+1)+b by lia,Fb,c];show e}
def Head (m:Nat)(p:Probe):Prop:=p.j=p.i/\p.i<=m/\p.more=runEnd m p.i - p.i
def Head.start (m:Nat)(h:Int):Head m (sj m h):=⟨rfl,by change bits h % (m+1)<=m;have:=kZ (bits h) (show 0 < m+1 by lia);lia,rfl⟩
def wj (m:Nat)(p:Probe):Probe:={ p with j:=(leap m p.i p.perturb).1,more:=runEnd m (leap m p.i p.perturb).1 - (leap m p.i p.perturb).1,i:=(leap m p.i p.perturb).1,perturb:=(leap m p.i p.perturb).2 }
def Head.next (p:Probe):Head m (wj m p):=⟨rfl,by change(leap m p.i p.perturb).1<=m;unfold leap;have:=kZ (p.i * 5+1+p.perturb / 32) (show 0 < m+1 by lia);dsimp only;lia,rfl⟩
theorem Dj:∀c p,p.more=c->∀k,ComesM m a k (wj m p)->ComesM m a (k+(c+1)) p
 |0,p,b,k,h=>by
  show .inr ?_;have e:jv m p=wj m p:=(by unfold jv;rw[MV ()];rfl);rw[e];show h
 |c+1,p,b,k,h=>by
  have e:jv m p={ p with j:=p.j+1,more:=p.more - 1 }:=(by unfold jv;rw[MU ()]);show .inr ?_;rw[e];show Dj c { p with j:=p.j+1,more:=p.more - 1 } (by change p.more - 1=c;lia) k h
def As (m i:Nat):runEnd m i - i<=9:=by unfold runEnd;split<;>lia
theorem Cz:∀l p,Head m p->p.perturb=0->gr m a l p.i=MO->ComesM m a (10 * l) p
 |0,p,H,h0,h=>by
  change p.j=a;rw[H.1];simpa[gr]using h
 |l+1,p,H,h0,h=>by
  by_cases e:p.i=a;{show ComesM.mono (show ComesM m a 0 p from H.1.trans e) ()}
  ·have h':gr m a l ((p.i * 5+1) % (m+1))=MO:=by
    unfold gr at h;rw[mG]at h;rcases h with h | h;{show MY (⇑h) e};{show h}
   have b:(leap m p.i p.perturb)=((p.i * 5+1) % (m+1),0):=(by unfold leap;rw[h0]);have x:=Cz l (wj m p) (Head.next p) (by change(leap m p.i p.perturb).2=0;rw[b]) (by change gr m a l (leap m p.i p.perturb).1=MO;rw[b];show h')
   show ComesM.mono (Dj p.more p rfl _ x) (by rw[H.2.2];have:=As m p.i;lia)
theorem Fc (c:M3 m)(d:a<=m):∀k p,Head m p->p.perturb < 32 ^ k->ComesM m a (10 * (k+m)) p
 |0,p,H,b=>by
  have:p.perturb=0:=(⇑b);rw[eP];show Cz m p H this (Jn c H.2.1 d)
 |k+1,p,H,b=>by
  have e:(wj m p).perturb < 32 ^ k:=by
   change p.perturb / 32 < 32 ^ k;rw[kD]at b;show Nat.div_lt_of_lt_mul (by rw[mP];show b)
  have x:=Fc c d k (wj m p) (Head.next p) e
  show ComesM.mono (Dj p.more p rfl _ x) (by rw[H.2.2];have:=As m p.i;lia)
def Se (h:Int):bits h < 2 ^ 64:=by
 unfold bits;have a:h % (2 ^ 64:Int) < 2 ^ 64:=Int.emod_lt_of_pos _ #v[];have b:0<=h % (2 ^ 64:Int):=Int.emod_nonneg _ #v[];lia
def Mh (b:M3 m)(c:a<=m)(h:Int):ComesM m a (10 * (13+m)) (sj m h):=
 Fc b c 13 _ (Head.start m h) (bU (Se h) #v[])
def Thru (m:Nat)(ne:Nat->Prop)(j:Nat):Nat->Probe->Prop
 |0,p=>p.j=j
 |k+1,p=>p.j=j\/(ne p.j/\Thru m ne j k (jv m p))
theorem Thru.mono (b:∀i,ne i->a i):∀{k n p},Thru m ne j k p->k<=n->Thru m a j n p
 |0,0,_,h,_=>h
 |0,n+1,_,h,_=>.inl h
 |k+1,0,_,_,h=>MY h ()
 |k+1,n+1,_,.inl h,_=>.inl h
 |k+1,n+1,_,.inr h,c=>.inr {b _ h.1,Thru.mono b h.2 ()}
end TupSet
namespace TupSet
open SetTable
def RiseA (xs:CQ):Prop:=xs.toList.Pairwise (· < ·)
def RiseA.lt {xs:CQ}(h:RiseA xs){a b v u:Nat}(c:xs[a]?=KE v)(d:xs[b]?=KE u)(e:a < b):v < u:=by
 rw[<-bS]at c d;obtain⟨f,rfl⟩:=bK.mp c;obtain⟨g,rfl⟩:=bK.mp d;show List.pairwise_iff_getElem.mp h a b f g e
theorem Dk {xs:CQ}(b:RiseA xs)(j:Nat):∀(f lo hi:Nat),hi - lo<=f->lo<=hi->hi<=xs.size->(∀(a v:Nat),xs[a]?=KE v->(a < lo->v < j)/\(hi<=a->j<=v))->
  ∀(a v:Nat),xs[a]?=KE v->(a < below.go xs j f lo hi->v < j)/\(below.go xs j f lo hi<=a->j<=v)
 |0,lo,hi,m,n,g,h,a,v,e=>by
  have:hi=lo:=();subst this;show h a v e
 |f+1,lo,hi,m,n,g,h,a,v,e=>by
  unfold below.go;by_cases i:lo < hi;{rw[MU i];dsimp only;have o:(lo+hi) / 2 < xs.size:=();have em:xs[(lo+hi) / 2]?=KE xs[(lo+hi) / 2]:=bV o;have p:xs.getD ((lo+hi) / 2) j=xs[(lo+hi) / 2]:=(by rw[cJ,em];rfl);rw[p];by_cases d:xs[(lo+hi) / 2] < j;{rw[MU d];show Dk b j f _ _ () () g (λa v e=>{λl=>?_,(h a v e).2}) a v e;by_cases c:a=(lo+hi) / 2;{subst c;rw[em]at e;cases e;show d};{show fW (b.lt e em ()) d}};{rw[MV d];show Dk b j f _ _ () () () (λa v e=>{(h a v e).1,λl=>?_}) a v e;by_cases c:a=(lo+hi) / 2;{subst c;rw[em]at e;cases e;lia};{have:=b.lt em e ();lia}}};{rw[MV i];show{(h a v e).1,λl=>(h a v e).2 ()}}
def jw (b:RiseA xs)(j:Nat)(e:xs[a]?=KE v):(a < below xs j->v < j)/\(below xs j<=a->j<=v):=by
 show Dk b j xs.size 0 xs.size () (cH _) (aI _) (λa v e=>{λh=>MY h (jN _),λh=>?_}) a v e;obtain⟨c,_⟩:=fX.mp e;lia
def Dl {xs:CQ}(a:RiseA xs){i j:Nat}(e:xs[i]?=KE j):below xs j=i:=by
 have d:=(jw a j e).1;by_cases c:below xs j=i;{show c}
 ·have f:below xs j < i:=by
   by_cases h:i < below xs j;{show MY (d h) (fU _)};{omega}
  obtain⟨g,_⟩:_:=fX.mp e;have b:xs[below xs j]?=KE xs[below xs j]:=bV ();have l:=a.lt b e f;have m:=(jw a j b).2 (aI _);omega
structure Tb (t:eS)(n:Nat):Prop where
 mask:M3 t.mask
 dum:t.dummies=#[]
 size:t.place.size=n
 plain:t.plain=MO
 rise:RiseA t.place
 inb:∀j∈t.place.toList,j<=t.mask
theorem Tb.fill (S:Tb t n):t.fill=n:=by unfold SetTable.fill;rw[S.dum,S.size];rfl
theorem Tb.fresh (led:Bool):Tb (SetTable.fresh 0 0 led) 0:={.inl rfl,rfl,rfl,rfl,.nil,λj a=>nomatch a}
theorem Tb.slot (S:Tb t n)(j:Nat):(∃i,t.place[i]?=KE j/\t.slot j=.live i)\/((∀i:Nat,t.place[i]?≠KE j)/\t.slot j=.empty):=by
 unfold SetTable.slot;dsimp only;by_cases h:t.place[below t.place j]?=KE j;{show .inl {below t.place j,h,by rw[MU (⇑h)]}};{show .inr {λi e=>h (by rw[Dl S.rise e];show e),?_};rw[MV (⇑h),MV (by rw[S.dum];simp[has])]}
theorem Tb.live (S:Tb t n)(h:t.slot j=.live i):t.place[i]?=KE j/\i < n:=by
 rcases S.slot j with⟨b,e,a⟩ | ⟨_,a⟩;{rw[a]at h;cases h;show{e,by rw[<-S.size];show(fX.mp e).1}};{rw[a]at h;cases h}
def Tb.liveOf (S:Tb t n)(h:t.place[i]?=KE j):t.slot j=.live i:=by
 rcases S.slot j with⟨a,e,b⟩ | ⟨h',_⟩;{have:a=i:=(by rw[<-Dl S.rise e,Dl S.rise h]);rw[b,this]};{show MY h (h' i)}
def Tb.noDummy (S:Tb t n)(h:t.slot j=.dummy):False:=by
 rcases S.slot j with⟨b,e,a⟩ | ⟨_,a⟩<;>(rw[a]at h;cases h)
theorem Xk:∀(m:Nat)(l:L1),(∀j,j < m->j∈l)->m<=l.length
 |0,l,_=>cH _
 |m+1,l,h=>by
  have a:=h m ();have:=Xk m (l.erase m) (λj b=>(List.mem_erase_of_ne ()).mpr (h j ()));rw[List.length_erase_of_mem a]at this;have:=List.length_pos_of_mem a;lia
def Tb.free {t:eS}(S:Tb t n)(b:n<=t.mask):∃j,j<=t.mask/\t.slot j=.empty:=by
 show Classical.byContradiction λa=>?_;have:=Xk (t.mask+1) t.place.toList (λj c=>?_);{rw[cM,S.size]at this;lia};{rcases S.slot j with⟨i,e,_⟩ | ⟨_,e⟩;{rw[<-bS]at e;show bG e};{show MY {j,(),e} a}}
def Ne (t:eS)(j:Nat):Prop:=t.slot j≠.empty
theorem goM (S:Tb t n)(s:t.slot a=.empty):∀k f p,ComesM t.mask a k p->p.dummy=MN->k < f->
  (∃j,probe.go t hs h f p=KE (.empty j MN)/\t.slot j=.empty/\Thru t.mask (Ne t) j k p)\/
  (∃j i next c,probe.go t hs h f p=KE (.candidate j i next)/\t.slot j=.live i/\hs i=h/\next.dummy=MN/\0 < c/\c<=k/\ComesM t.mask a (k - c) next/\∀d m,Thru t.mask (Ne t) d m next->Thru t.mask (Ne t) d (m+c) p)
 |k,0,_,_,_,h=>MY h ()
 |k,f+1,p,g,hd,E=>by
  unfold probe.go
  match b:t.slot p.j with
  | .empty=>show .inl {p.j,by rw[hd],b,Thru.mono (λ_ z=>z) (show Thru t.mask (Ne t) p.j 0 p from rfl) (cH _)}
  | .dummy=>show(S.noDummy b).elim
  | .live i=>
   have u:p.j≠a:=(by rintro e;rw[e,s]at b;show nomatch b);have l:Ne t p.j:=by unfold Ne;rw[b];show λz=>nomatch z
   match k,g with
   |0,g=>show MY g u
   |k+1,g=>
    have w:ComesM t.mask a k (jv t.mask p):=g.resolve_left u;have x:(jv t.mask p).dummy=MN:=(by rw[Xj];show hd);dsimp only;rw[Xi];by_cases o:(hs i == h)=MO;{rw[MU o];show .inr {p.j,i,_,1,rfl,b,by simpa using o,x,(),(),by simpa using w,λd m z=>.inr #v[l,z]}}
    ·rw[MV o];rcases goM S s k f _ w x ()with⟨j,e,q,r⟩ | ⟨j,y,nx,c,e,q,r,A,G,H,C,D⟩;{show .inl {j,e,q,.inr #v[l,r]}}
     ·show .inr ⟨j,y,nx,c+1,e,q,r,A,(),(),by rw[show k+1 - (c+1)=k - c by lia];show C,λd m z=>by
        rw[show m+(c+1)=(m+c)+1 by lia];show .inr {l,D d m z}⟩
theorem acw (S:Tb t n)(l:t.slot a=.empty):∀k f p,ComesM t.mask a k p->p.dummy=MN->k < f->k < 10 * turns t.mask->
  (qr t hs eq h f p=KE MN/\∃i,i < n/\hs i=h/\eq i=MO)\/∃j,qr t hs eq h f p=KE (KE j)/\t.slot j=.empty/\Thru t.mask (Ne t) j k p
 |k,0,_,_,_,h,_=>MY h ()
 |k,f+1,p,o,hd,z,hk=>by
  unfold qr;have q:t.probe hs h p=probe.go t hs h (10 * turns t.mask) p:=rfl;rw[q];rcases goM S (hs:=hs) (h:=h) l k (10 * turns t.mask) p o hd hk with⟨j,e,b,d⟩ | ⟨j,i,nx,c,e,b,d,r,A,C,s,u⟩;{rw[e];show .inr #v[j,rfl,b,d]};{rw[e];dsimp only;by_cases g:eq i=MO;{rw[MU g];show .inl {rfl,i,(S.live b).2,d,g}};{rw[MV g];rcases acw S l (k - c) f nx s r () ()with h | ⟨m,w,x,y⟩;{show .inl h};{show .inr ⟨m,w,x,by have:=u m _ y;rw[show k - c+c=k by lia]at this;show this⟩}}}
def Ug (S:Tb t n)(b:n<=t.mask)(hs:Nat->Int)(eq:Nat->Bool)(h:Int) :
  (qr t hs eq h 100000 (t.probeStart h)=KE MN/\∃i,i < n/\hs i=h/\eq i=MO)\/∃j,qr t hs eq h 100000 (t.probeStart h)=KE (KE j)/\t.slot j=.empty/\Thru t.mask (Ne t) j (10 * (13+t.mask)) (t.probeStart h):=by
 obtain⟨j,c,d⟩:=S.free b;have a:t.mask<=127:=(by rcases S.mask with e | e | e<;>rw[e]<;>decide);show acw S d _ 100000 _ (Mh S.mask c h) rfl () (by unfold turns;lia)
theorem goF (S:Tb t n)(l:t.slot j=.live i)(o:hs i=h):∀k f p,Thru t.mask (Ne t) j k p->k < f->
  ∃a g next,probe.go t hs h f p=KE (.candidate a g next)/\t.slot a=.live g/\(a=j\/∃c,0 < c/\c<=k/\Thru t.mask (Ne t) j (k - c) next)
 |k,0,_,_,h=>MY h ()
 |k,f+1,p,b,y=>by
  by_cases e:p.j=j;{unfold probe.go;rw[e,l];dsimp only;rw[MU (by simp[o])];show{j,i,_,rfl,l,.inl rfl}}
  ·match k,b with
   |0,b=>show MY b e
   |k+1,b=>
    obtain⟨u,q⟩:=b.resolve_left e;unfold probe.go
    match m:t.slot p.j with
    | .empty=>show MY m u
    | .dummy=>show(S.noDummy m).elim
    | .live r=>
     dsimp only;rw[Xi];by_cases s:(hs r == h)=MO;{rw[MU s];show{p.j,r,_,rfl,m,.inr {1,(),(),by simpa using q}}};{rw[MV s];obtain⟨a,g,nx,w,x,d⟩:=goF S l o k f _ q ();show{a,g,nx,w,x,?_};rcases d with d | ⟨c,z,A,d⟩;{show .inl d};{show .inr {c+1,(),(),by rw[show k+1 - (c+1)=k - c by lia];show d}}}
theorem acx (S:Tb t n)(b:t.slot j=.live i)(g:hs i=h)(l:eq i=MO):∀k f p,Thru t.mask (Ne t) j k p->k < f->k < 10 * turns t.mask->qr t hs eq h f p=KE MN
 |k,0,_,_,h,_=>MY h ()
 |k,f+1,p,o,s,hk=>by
  unfold qr;have q:t.probe hs h p=probe.go t hs h (10 * turns t.mask) p:=rfl;rw[q];obtain⟨u,r,nx,e,m,a⟩:=goF S b g k (10 * turns t.mask) p o hk;rw[e];dsimp only;by_cases d:eq r=MO;{rw[MU d]};{rw[MV d];rcases a with a | ⟨c,w,x,a⟩;{subst a;rw[b]at m;cases m;show MY l d};{show acx S b g l (k - c) f nx a () ()}}
end TupSet
namespace TupSet
open SetTable
def Tb.ne {t:eS}{n:Nat}(S:Tb t n)(k:Nat):Ne t k↔k∈t.place.toList:=by
 unfold Ne;rcases S.slot k with⟨i,e,a⟩ | ⟨h,a⟩;{rw[a];rw[<-bS]at e;show{λ_=>bG e,λ_ z=>nomatch z}};{rw[a];show{λz=>MY rfl z,λz=>?_};obtain⟨i,hi⟩:=gR z;rw[bS]at hi;show MY hi (h i)}
def z9 {a:Type}(xs:Array a)(p:Nat)(x:a):(insertAt xs p x).toList=xs.toList.take p++x::xs.toList.drop p:=by
 unfold insertAt;simp;show fY ∅
def Bx {a:Type}{l:List a}{p:Nat}{x y:a}:y∈l.take p++x::l.drop p↔y=x\/y∈l:=by
 rw[cT,aY];constructor;{rintro(h | h | h);{show .inr (lQ h)};{show .inl h};{show .inr (List.mem_of_mem_drop h)}};{rintro(h | h);{show .inr (.inl h)};{rw[<-iF p l,cT]at h;rcases h with h | h;{show .inl h};{show .inr (.inr h)}}}
theorem Tb.put {t:eS}{n j:Nat}(S:Tb t n)(g:t.slot j=.empty)(l:j<=t.mask) :
  Tb (t.put j).1 (n+1)/\(t.put j).2<=n/\(t.put j).1.led=t.led/\(t.put j).1.moves=t.moves/\(t.put j).1.mask=t.mask/\(t.put j).1.place.toList=t.place.toList.take (t.put j).2++j::t.place.toList.drop (t.put j).2:=by
 have hb:=Di t.place j;have f:(t.put j).1.place.toList=t.place.toList.take (below t.place j)++j::t.place.toList.drop (below t.place j):=z9 _ _ _;have m:∀i:Nat,t.place[i]?≠KE j:=by
  rcases S.slot j with⟨i,e,o⟩ | ⟨h,_⟩;{rw[o]at g;cases g};{show h}
 show{{S.mask,?_,?_,S.plain,?_,?_},by rw[<-S.size];show hb,rfl,rfl,rfl,f}
 ·change(if has t.dummies j then eraseAt t.dummies (below t.dummies j)else t.dummies)=#[]
  rw[S.dum,MV];simp[has]
 ·change(insertAt t.place (below t.place j) j).size=n+1;rw[J7 _ _ _ hb,S.size]
 ·unfold RiseA;rw[f];have lo:∀a∈t.place.toList.take (below t.place j),a < j:=λa c=>by
   obtain⟨i,hi⟩:=gR c;rw[List.getElem?_take]at hi
   split at hi
   ·next p=>
    rw[bS]at hi;show(jw S.rise j hi).1 p
   ·cases hi
  have q:∀a∈t.place.toList.drop (below t.place j),j < a:=λa c=>by
   obtain⟨i,hi⟩:=gR c;rw[qF,bS]at hi;have r:=(jw S.rise j hi).2 ();have s:a≠j:=λe=>m _ (by rw[e]at hi;show hi);lia
  have d:=S.rise;unfold RiseA at d;rw[<-iF (below t.place j) t.place.toList,List.pairwise_append]at d;show pD.mpr {d.1,fQ.mpr #v[q,d.2.1],λa c b hb=>?_};rcases aY.mp hb with rfl | hb;{show lo a c};{show d.2.2 a c b hb}
 ·intro k hk;rw[f,Bx]at hk;rcases hk with rfl | hk;{show l};{show S.inb k hk}
def Rc (t:eS)(H:LQ):Prop:=∀q∈t.place.toList.zip H,Thru t.mask (λk=>k∈t.place.toList) q.1 (10 * (14+t.mask)+9) (sj t.mask q.2)
def aff {a b:Type}{l:List a}{m:List b}{p:Nat}{x:a}{y:b}(h:l.length=m.length):(l.take p++x::l.drop p).zip (m.take p++y::m.drop p)=(l.zip m).take p++(x,y)::(l.zip m).drop p:=by
 rw[List.zip_append (by simp[h]),kX];simp only[List.zip_eq_zipWith,List.take_zipWith,List.drop_zipWith]
theorem Rc.put {t:eS}{n j:Nat}{H:LQ}{h:Int}(S:Tb t n)(b:H.length=n)(R:Rc t H)(c:t.slot j=.empty)(d:j<=t.mask)(e:Thru t.mask (Ne t) j (10 * (13+t.mask)) (sj t.mask h)) :
  Rc (t.put j).1 (H.take (t.put j).2++h::H.drop (t.put j).2):=by
 obtain⟨T,f,_,_,em,a⟩:=S.put c d;intro q hq;rw[em,a];rw[a,aff (by rw[cM,S.size,b]),Bx]at hq;have up:∀i,i∈t.place.toList->i∈t.place.toList.take (t.put j).2++j::t.place.toList.drop (t.put j).2:=λi hi=>Bx.mpr (.inr hi);rcases hq with rfl | hq;{show Thru.mono (λi hi=>up i ((S.ne i).mp hi)) e ()};{show Thru.mono up (R q hq) (aI _)}
def Rc.find (S:Tb t n)(c:H.length=n)(R:Rc t H)(hi:H[i]?=KE h)(d:eq i=MO) :
  qr t (λi=>(H[i]?).getD 0) eq h 100000 (t.probeStart h)=KE MN:=by
 have f:i < n:=(by rw[<-c];show(bK.mp hi).1);have hsz:i < t.place.size:=(by rw[S.size];show f);have a:t.place[i]?=KE t.place[i]:=bV hsz;have hz:(t.place[i],h)∈t.place.toList.zip H:=by
  show bG (i:=i) ?_;rw[List.getElem?_zip_eq_some];show{by rw[bS];show a,hi}
 have b:t.mask<=127:=(by rcases S.mask with e | e | e<;>rw[e]<;>decide);show acx S (S.liveOf a) (by change(H[i]?).getD 0=h;rw[hi];rfl) d _ 100000 _ (Thru.mono (λk hk=>(S.ne k).mpr hk) (R _ hz) (aI _)) () (by unfold turns;lia)
def landsP (m j:Nat):Nat->Nat->Nat->Prop
 |0,i,_=>i=j
 |l+1,i,q=>i=j\/landsP m j l (leap m i q).1 (leap m i q).2
theorem landsP.mono:∀{l k i q},landsP m j l i q->l<=k->landsP m j k i q
 |0,0,_,_,h,_=>h
 |0,k+1,_,_,h,_=>.inl h
 |l+1,0,_,_,_,h=>MY h ()
 |l+1,k+1,_,_,.inl h,_=>.inl h
 |l+1,k+1,_,_,.inr h,hk=>.inr (landsP.mono h ())
theorem C0:∀{l i},gr m j l i=MO->landsP m j l i 0
 |0,i,h=>by change i=j;simpa[gr]using h
 |l+1,i,h=>by
  unfold gr at h;rw[mG]at h;rcases h with h | h;{show .inl (⇑h)};{show .inr ?_;have e:leap m i 0=((i * 5+1) % (m+1),0):=(by unfold leap;rfl);rw[e];show C0 h}
theorem Fe (b:M3 m)(c:j<=m):∀k i q,i<=m->q < 32 ^ k->landsP m j (k+m) i q
 |0,i,q,hi,a=>by
  have:q=0:=(⇑a);subst this;rw[eP];show C0 (Jn b hi c)
 |k+1,i,q,hi,a=>by
  rw[show k+1+m=(k+m)+1 by lia];show .inr (Fe b c k _ _ ?_ ?_);{unfold leap;have:=kZ (i * 5+1+q / 32) (show 0 < m+1 by lia);dsimp only;lia};{change q / 32 < 32 ^ k;rw[kD]at a;show Nat.div_lt_of_lt_mul (by rw[mP];show a)}
def NeO (a:Array (Option Nat))(j:Nat):Prop:=∃k,a[j]?=KE (KE k)
theorem Mi:∀k p,k<=p.more->(∀a,a < k->ne (p.j+a))->Thru m ne (p.j+k) k p
 |0,p,_,_=>rfl
 |k+1,p,hk,h=>by
  show .inr {h 0 (),?_};have e:jv m p={ p with j:=p.j+1,more:=p.more - 1 }:=(by unfold jv;rw[MU ()]);rw[e];have:=Mi (m:=m) (ne:=ne) k { p with j:=p.j+1,more:=p.more - 1 } (by change k<=p.more - 1;lia) (λa b=>by change ne (p.j+1+a);rw[show p.j+1+a=p.j+(a+1)by lia];show h (a+1) ());change Thru m ne (p.j+(k+1)) k _;rw[show p.j+(k+1)=p.j+1+k by lia];show this
theorem Jo:∀c p,p.more=c->(∀a,a<=c->ne (p.j+a))->∀k,Thru m ne j k (wj m p)->Thru m ne j (k+(c+1)) p
 |0,p,b,h,k,x=>by
  show .inr {h 0 (),?_};have e:jv m p=wj m p:=(by unfold jv;rw[MV ()];rfl);rw[e];show x
 |c+1,p,b,h,k,x=>by
  have e:jv m p={ p with j:=p.j+1,more:=p.more - 1 }:=(by unfold jv;rw[MU ()]);show .inr {h 0 (),?_};rw[e];show Jo c { p with j:=p.j+1,more:=p.more - 1 } (by change p.more - 1=c;lia) (λa d=>by change ne (p.j+1+a);rw[show p.j+1+a=p.j+(a+1)by lia];show h (a+1) ()) k x
def Uh (m i q:Nat):Probe:={ j:=i,more:=runEnd m i - i,i:=i,perturb:=q,dummy:=MN }
def Au (m i:Nat):i<=runEnd m i:=by unfold runEnd;split<;>lia
def Av (hi:i<=m):runEnd m i<=m:=by unfold runEnd;split<;>omega
theorem Sf (sz:b.size=m+1)(p:b[c]?=KE MN):∀l i q,i<=m->landsP m c l i q->
  ∃j,layClean.free m b (l+1) i q=KE j/\b[j]?=KE MN/\Thru m (NeO b) j (10 * l+9) (Uh m i q)
 |l,i,q,hi,d=>by
  have J:=Au m i;have le:=Av hi;have L:=As m i;have r:∀a,i+a<=runEnd m i->¬(b.getD (i+a) (KE 0)).isNone=MO->NeO b (i+a):=λa n f=>by
   have e:b[i+a]?=KE (b[i+a]'()):=bV ();rw[cJ,e]at f;cases h:b[i+a]'()with
   |none=>rw[h]at f;show MY rfl f
   |some k=>show{k,by rw[e,h]}
  unfold layClean.free;cases g:(bA (runEnd m i+1 - i)).find? (λk=>(b.getD (i+k) (KE 0)).isNone)with
  |some k=>
   dsimp only;have hk:=List.find?_some g;have x:=List.mem_of_find?_eq_some g;have y:k < runEnd m i+1 - i:=bW.mp x;obtain⟨_,s,bs,eq,A⟩:=List.find?_eq_some_iff_append.mp g;show{i+k,rfl,?_,?_}
   ·have e:b[i+k]?=KE (b[i+k]'()):=bV ();rw[cJ,e]at hk;cases h:b[i+k]'()with
    |none=>rw[e,h]
    |some z=>rw[h]at hk;cases hk
   ·show Thru.mono (λ_ z=>z) (Mi k (Uh m i q) (by change k<=runEnd m i - i;lia) (λa n=>?_)) ();show r a () (λz=>?_);have C:a∈s:=by
     have:(bA (runEnd m i+1 - i))[a]?=KE a:=cP ();have o:(bA (runEnd m i+1 - i))[s.length]?=KE k:=(by rw[eq];simp);rw[cP (by have:=(bK.mp o).1;simpa using this)]at o;cases o;rw[eq,cA n]at this;show bG this
    have:=A a C;rw[z]at this;cases this
  |none=>
   dsimp only;have f:=List.find?_eq_none.mp g;have u:∀a,a<=runEnd m i - i->NeO b (i+a):=λa n=>r a () (f a (bW.mpr ()));have w:i≠c:=λe=>by
    obtain⟨k,hk⟩:=u 0 ();rw[Nat.add_zero,e,p]at hk;cases hk
   match l,d with
   |0,d=>show MY d w
   |l+1,d=>
    have D:=d.resolve_left w;have E:(leap m i q).1<=m:=(by unfold leap;have:=kZ (i * 5+1+q / 32) (show 0 < m+1 by lia);dsimp only;lia);obtain⟨j,G,H,I⟩:=Sf sz p l _ _ E D;show{j,G,H,?_};show Thru.mono (λ_ z=>z) (Jo (runEnd m i - i) (Uh m i q) rfl u _ I) ()
end TupSet
namespace TupSet
open SetTable
theorem Sg:∀(l:List (Option Nat)),(l.filterMap id).length < l.length->MN∈l
 | [],h=>MY h (fU _)
 |none::l,_=>aP
 |some a::l,h=>aT _ (Sg l (⇑h))
theorem Dm {k:Nat}:∀(l:List (Option Nat))(j:Nat),l[j]?=KE MN->((l.set j (KE k)).filterMap id).Perm (k::l.filterMap id)
 | [],j,h=>by simp at h
 |a::l,0,h=>by
  have:a=MN:=(⇑h);subst this;show .refl _
 |none::l,j+1,h=>by
  have:=Dm (k:=k) l j (⇑h);simpa using this
 |some a::l,j+1,h=>by
  have:=Dm (k:=k) l j (⇑h);simp only[List.set_cons_succ,gB,id];show(this.cons a).trans (.swap _ _ _)
structure OwI (m:Nat)(ow:Array (Option Nat))(k:Nat)(hs:LQ):Prop where
 sz:ow.size=m+1
 perm:(ow.toList.filterMap id).Perm (bA k)
 thru:∀j k',ow[j]?=KE (KE k')->∃h,hs[k']?=KE h/\Thru m (NeO ow) j (10 * (14+m)+9) (sj m h)
def ya (m:Nat)(a:Option (Array (Option Nat)×Nat))(h:Int):Option (Array (Option Nat)×Nat):=do
 let (owner,k) <-a
 let j <-layClean.free m owner (turns m) (bits h % (m+1)) (bits h)
 pure (owner.setIfInBounds j (KE k),k+1)
def Pu (m:Nat)(hs:Array Int):layClean m hs=(hs.toList.foldl (ya m) (KE (sE (m+1) MN,0))).map (·.1):=by
 unfold layClean;rw[<-Array.foldl_toList];rfl
def OwI.step {m k:Nat}{f:Array (Option Nat)}{hs:LQ}{h:Int}(s:M3 m)(O:OwI m f k hs)(hk:k<=m)(u:hs[k]?=KE h):∃p,ya m (KE (f,k)) h=KE (p,k+1)/\OwI m p (k+1) hs:=by
 have w:(f.toList.filterMap id).length=k:=(by rw[O.perm.length_eq,bP]);obtain⟨g,l⟩:=gR (Sg f.toList (by rw[w,cM,O.sz];lia));rw[bS]at l;have d:g<=m:=(by have:=(fX.mp l).1;rw[O.sz]at this;lia);have q:bits h % (m+1)<=m:=(by have:=kZ (bits h) (show 0 < m+1 by lia);lia);obtain⟨j,x,n,y⟩:=Sf O.sz l (14+m) _ (bits h) q ((Fe s d 13 _ _ q (bU (Se h) #v[])).mono ());have A:turns m=14+m+1:=(by unfold turns;lia);have o:j < f.size:=(fX.mp n).1;have up:∀i,NeO f i->NeO (f.setIfInBounds j (KE k)) i:=λi ⟨k',hi⟩=>by
  by_cases c:i=j;{rw[c,n]at hi;cases hi};{show{k',by rw[Array.getElem?_setIfInBounds_ne (λz=>c z.symm)];show hi}}
 show{f.setIfInBounds j (KE k),?_,?_,?_,?_};{unfold ya;dsimp only[Option.bind_eq_bind,Option.bind_some];rw[A,x];rfl};{rw[Array.size_setIfInBounds];show O.sz};{rw[Array.toList_setIfInBounds];show(Dm _ _ (by rw[bS];show n)).trans ?_;rw[iP];show(O.perm.cons k).trans (List.perm_append_singleton _ _).symm};{intro r k' e;by_cases c:r=j;{subst c;rw[Array.getElem?_setIfInBounds_self_of_lt o]at e;cases e;show{h,u,Thru.mono up y (aI _)}};{rw[Array.getElem?_setIfInBounds_ne (λz=>c z.symm)]at e;obtain⟨h',a,b⟩:=O.thru r k' e;show{h',a,Thru.mono up b (aI _)}}}
theorem Mj (d:M3 m)(c:hs.length<=m+1):∀rest dn a,hs=dn++rest->OwI m a dn.length hs->∃b,rest.foldl (ya m) (KE (a,dn.length))=KE (b,hs.length)/\OwI m b hs.length hs
 | [],dn,a,e,O=>by rw[cE]at e;subst e;show#v[a,rfl,O]
 |h::rest,dn,a,e,O=>by
  obtain⟨b,f,g⟩:=O.step (h:=h) d (by rw[e]at c;simp at c;lia) (by rw[e];simp);rw[rW,f];have:=Mj d c rest (dn++[h]) b (by rw[e];simp) (by rw[aH];show g);rw[aH]at this;show this
def ajf (b:M3 m)(c:hs.length<=m+1):∃a,layClean m hs.toArray=KE a/\OwI m a hs.length hs:=by
 have O:OwI m (sE (m+1) MN) 0 hs:={by simp,by simp,λj k' e=>by rw[Array.getElem?_replicate]at e;split at e<;>cases e};obtain⟨a,e,d⟩:=Mj b c hs [] _ rfl O;show{a,?_,d};rw[Pu];change pE _ (hs.foldl (ya m) (KE (sE (m+1) MN,([]:LQ).length)))=_;rw[e];rfl
def Xl {t:eS}{H:LQ}(D:t.plain=MO)(E:H.length=n)(o:M3 (sizeAbove w - 1))(G:n<=sizeAbove w - 1) :
  ∃t' order,t.relaid H.toArray w=KE (t',order)/\Tb t' n/\t'.mask=sizeAbove w - 1/\t'.led=t.led/\order.toList.Perm (bA n)/\Rc t' (order.toList.map λk=>(H[k]?).getD 0):=by
 generalize em:sizeAbove w - 1=m at o G;obtain⟨c,e,O⟩:=ajf (hs:=H) o ();rw[E]at O;have I:(bA (m+1)).map (λj=>c.getD j MN)=c.toList:=by
  apply iZ;intro i;rw[aN,bS (xs:=c)];by_cases h:i < m+1;{rw[cP h,bV (by rw[O.sz];show h)];simp[cJ,bV (show i < c.size by rw[O.sz];show h)]};{rw[cU (⇑h),Array.getElem?_eq_none (by rw[O.sz];lia)];rfl}
 generalize l:(bA (m+1)).filterMap (λj=>(c.getD j MN).map (j,·))=live;have u:∀q∈live,q.1<=m/\c[q.1]?=KE (KE q.2):=λq d=>by
  rw[<-l]at d;obtain⟨j,f,p⟩:=mI.mp d;have y:=bW.mp f;obtain⟨k,hk,rfl⟩:=dB.mp p;show{by change j<=m;lia,?_};change c[j]?=KE (KE k);have g:c[j]?=KE (c[j]'(by rw[O.sz];show y)):=bV (by rw[O.sz];show y);rw[cJ,g]at hk;rw[g];show NA KE hk
 have A:live.map (·.1)=(bA (m+1)).filter λj=>(c.getD j MN).isSome:=by
  rw[<-l,List.map_filterMap,<-List.filterMap_eq_filter];congr 1
  funext j
  have key:∀z:Option Nat,pE (λx=>x.fst) (pE (λx=>(j,x)) z)=if z.isSome=MO then KE j else MN:=λz=>by cases z<;>rfl
  unfold Option.guard;rw[key]
 have C:live.map (·.2)=c.toList.filterMap id:=by
  rw[<-I,<-l,List.map_filterMap,mO];congr 1
  funext j
  change(pE (λx=>(j,x)) (c.getD j MN)).map _=id (c.getD j MN);generalize c.getD j MN=z;cases z<;>rfl
 have J:live.length=n:=by
  have:=NA pU C;rw[aC,O.perm.length_eq,bP]at this;show this
 have L:t.relaid H.toArray w=KE ({ mask:=m,place:=(live.map (·.1)).toArray,dummies:=#[],finger:=t.finger,led:=t.led,moves:=t.movedTo m,plain:=t.plain },(live.map (·.2)).toArray):=by
  unfold SetTable.relaid SetTable.laid;rw[em,e];change KE _=KE _;rw[l]
 have N:∀j,j∈live.map (·.1)↔NeO c j:=λj=>by
  rw[A,cO,List.mem_range];constructor;{intro r;obtain⟨f,hs⟩:=r;have g:c[j]?=KE (c[j]'(by rw[O.sz];show f)):=bV (by rw[O.sz];show f);rw[cJ,g]at hs;obtain⟨k,hk⟩:=kC.mp hs;show{k,by rw[g];show NA KE hk}};{intro r;obtain⟨k,hk⟩:=r;have:=(fX.mp hk).1;rw[O.sz]at this;show{this,by rw[cJ,hk];rfl}}
 show{_,_,L,{o,rfl,by simp[J],D,?_,λj f=>?_},rfl,rfl,?_,?_};{change((live.map (·.1)).toArray).toList.Pairwise (· < ·);rw[List.toList_toArray,A];show List.pairwise_lt_range.filter _};{obtain⟨q,d,rfl⟩:=bI.mp (show j∈live.map (·.1)from f);show(u q d).1};{change(live.map (·.2)).Perm _;rw[C];show O.perm};{intro q d;change Thru m (λk=>k∈live.map (·.1)) q.1 (10 * (14+m)+9) (sj m q.2);have hz:q∈(live.map (·.1)).zip ((live.map (·.2)).map λk=>(H[k]?).getD 0):=d;rw[cV,List.zip_map']at hz;obtain⟨z,s,rfl⟩:=bI.mp hz;obtain⟨h',a,b⟩:=O.thru _ _ (u z s).2;change Thru m _ z.1 _ (sj m ((H[z.2]?).getD 0));rw[a];show Thru.mono (λi hi=>(N i).mpr hi) b (aI _)}
end TupSet
namespace TupG
open SetTable TupSet
def Pin (m:Nat)(p:Probe):Prop:=p.j+p.more<=m
def Pin.adv (h:Pin m p):Pin m (jv m p):=by
 unfold jv Pin at *
 split;{change p.j+1+(p.more - 1)<=m;lia};{change(leap m p.i p.perturb).1+(runEnd m (leap m p.i p.perturb).1 - (leap m p.i p.perturb).1)<=m;have a:(leap m p.i p.perturb).1<=m:=(by unfold leap;have:=kZ (p.i * 5+1+p.perturb / 32) (show 0 < m+1 by lia);dsimp only;lia);have:=Av a;have:=Au m (leap m p.i p.perturb).1;lia}
def Pin.start (m:Nat)(h:Int):Pin m (sj m h):=by
 change bits h % (m+1)+(runEnd m (bits h % (m+1)) - bits h % (m+1))<=m;have a:bits h % (m+1)<=m:=(by have:=kZ (bits h) (show 0 < m+1 by lia);lia);have:=Av a;have:=Au m (bits h % (m+1));lia
theorem Pin.thru:∀{k p},Pin m p->Thru m ne j k p->j<=m
 |0,p,h,t=>by have:p.j=j:=t;unfold Pin at h;lia
 |k+1,p,h,.inl t=>by unfold Pin at h;lia
 |k+1,p,h,.inr t=>Pin.thru h.adv t.2
def candG (S:Tb t n):∀f,probe.go t hs h f p=KE (.candidate j i nx)->t.slot j=.live i/\i < n/\hs i=h:=by
 intro f
 induction f generalizing p with
 |zero=>intro e;show nomatch e
 |succ f c=>
  intro e;unfold probe.go at e
  match a:t.slot p.j with
  | .empty=>rw[a]at e;show nomatch e
  | .dummy=>show(S.noDummy a).elim
  | .live d=>
   rw[a]at e;dsimp only at e;by_cases b:(hs d == h)=MO;{rw[MU b]at e;injection e with e;injection e with g l m;subst g;subst l;show{a,(S.live a).2,by simpa using b}};{rw[MV b]at e;show c e}
def yu (S:Tb t n)(a:n<=t.mask):t.fits n=MO:=by
 unfold SetTable.fits;rw[S.fill,S.size];simp;omega
def gaveG (S:Tb t n):t.gaveWay=MP:=by
 unfold SetTable.gaveWay;rcases S.mask with e | e | e<;>rw[e]<;>rfl
section
variable {prog:aQ}{w:bB}{A:bX}{E:aK->aG->Prop}{s:aG}
def aal (b:s.heap.get? S=KE o)(hd:o.data=.set a i t)(d:t.fits a.size=MO)
  (hw:¬lA c > sizeLine) (e:t.relaid (a.map (·.1)) c=KE (t',order)) (hz:(order.filterMap (a[·]?)).size=a.size) (f:a.size < scanBound)
  (h:Q Unit.unit { s with heap:=s.heap.update S (lR (order.filterMap (a[·]?)) t') }):aJ (aV prog w) A (setRelay S c) Q E s:=by
 unfold setRelay;show aA (gA b hd d ?_);dsimp only;rw[MV hw];show aA ?_;rw[e];have g:((order.filterMap (a[·]?)).size != a.size)=MP:=(by rw[hz];simp);change aJ (aV prog w) A (ite (((order.filterMap (a[·]?)).size != a.size)=MO) _ _) _ E s;rw[g,MV aO];show wpAny_pure ?_;show wpAny_storeSet_of b hd h (fits_of_scanBound (by rw[hz];show f))
structure TOk (prog:aQ)(w:bB)(t:eS)(xs:LJ):Prop where
 tb:Tb t xs.length
 room:xs.length * 5 < t.mask * 3
 rc:Rc t (xs.map (E7 prog w))
 nd:xs.Nodup
def x9 (prog:aQ)(w:bB)(h0 h:MR)(S:MQ)(t:eS)(xs:LJ):Prop:=
 ∃o a b,h.get? S=KE o/\o.ExactSet/\o.data=.set a b t/\TOk prog w t xs/\EntsOf prog w h0 a.toList xs
theorem Aa {b:Type}{l:List b}:∀(p:L1),(∀i∈p,i < l.length)->(p.filterMap (l[·]?)).length=p.length
 | [],_=>rfl
 |i::p,a=>by
  rw[gB,aB (a i aP)];simp only[aW];rw[Aa p λj c=>a j (aT _ c)]
end
end TupG
namespace TupG
open SetTable TupSet PyProof.Rows
def Got (prog:aQ)(w:bB)(h0 h:MR)(S:MQ)(led:Bool)(Y:LJ):Prop:=∃t xs,x9 prog w h0 h S t xs/\t.led=led/\(∀y,y∈xs↔y∈Y)/\xs.length<=Y.length
end TupG
namespace TupSet
open SetTable PyProof.Rows PySem.W
structure Ord (lt:Nat->Nat->Bool):Prop where
 asym:∀i j,lt i j=MO->lt j i=MP
 tr:∀i j k,lt j i=MP->lt k j=MP->lt k i=MP
def Up (lt:Nat->Nat->Bool)(p:CQ)(m:Nat):Prop:=∀a b,a < b->b < m->lt (p.getD b 0) (p.getD a 0)=MP
def Dn (lt:Nat->Nat->Bool)(p:CQ)(m:Nat):Prop:=∀a b,a < b->b < m->lt (p.getD a 0) (p.getD b 0)=MP
def Sm (lt:Nat->Nat->Bool)(p:CQ)(i j:Nat):Prop:=∀a b,i<=a->a < j->i<=b->b < j->lt (p.getD a 0) (p.getD b 0)=MP
theorem oz {b c:Type}{lt:Nat->Nat->Bool}{f:b->KasT c}:∀(t:KasT b),c8 lt (t.bind f)=c8 lt (f (c8 lt t))
 | .ret a=>rfl
 | .ask i j k=>oz (k (lt i j))
section
variable {lt:Nat->Nat->Bool}
def Ord.irr (O:Ord lt)(i:Nat):lt i i=MP:=by
 cases h:lt i i with
 |false=>rfl
 |true=>rw[O.asym _ _ h]at h;cases h
def Ord.eqv (O:Ord lt)(a:lt u v=MP)(b:lt v u=MP)(x:Nat):lt x u=lt x v/\lt u x=lt v x:=by
 constructor
 ·cases h:lt x v with
  |false=>show O.tr u v x b h
  |true=>
   cases h':lt x u with
   |true=>rfl
   |false=>rw[O.tr v u x a h']at h;cases h
 ·cases h:lt v x with
  |false=>show O.tr x v u h a
  |true=>
   cases h':lt u x with
   |true=>rfl
   |false=>rw[O.tr x u v h' b]at h;cases h
def Up.succ (O:Ord lt)(h:Up lt p n)(g:1<=n)(e:lt (p.getD n 0) (p.getD (n - 1) 0)=MP):Up lt p (n+1):=by
 intro a b c i;by_cases d:b < n;{show h a b c d};{have:b=n:=();subst this;by_cases f:a=b - 1;{subst f;show e};{show O.tr _ _ _ (h a (b - 1) () ()) e}}
def Dn.succ (O:Ord lt)(h:Dn lt p n)(g:1<=n)(e:lt (p.getD (n - 1) 0) (p.getD n 0)=MP):Dn lt p (n+1):=by
 intro a b c i;by_cases d:b < n;{show h a b c d};{have:b=n:=();subst this;by_cases f:a=b - 1;{subst f;show e};{show O.tr _ _ _ e (h a (b - 1) () ())}}
def Up.le {p:CQ}{n m:Nat}(h:Up lt p n)(d:m<=n):Up lt p m:=λa b c e=>h a b c ()
theorem Ml (O:Ord lt)(p:CQ):∀(f n:Nat),1<=n->Up lt p n->n<=c8 lt (nD p f n)/\c8 lt (nD p f n)<=n+f/\Up lt p (c8 lt (nD p f n))/\
  (c8 lt (nD p f n) < n+f->lt (p.getD (c8 lt (nD p f n)) 0) (p.getD (c8 lt (nD p f n) - 1) 0)=MO)
 |0,n,_,h=>{aI _,aI _,h,λz=>MY z (fU _)}
 |f+1,n,i,h=>by
  have e:c8 lt (nD p (f+1) n)=c8 lt (if lt (p.getD n 0) (p.getD (n - 1) 0)=MO then .ret n else nD p f (n+1)):=rfl
  rw[e];cases g:lt (p.getD n 0) (p.getD (n - 1) 0)with
  |true=>
   rw[MU rfl];show{aI _,by change n<=_;lia,h,λ_=>g}
  |false=>
   rw[MV aO];obtain⟨a,b,c,d⟩:=Ml O p f (n+1) () (h.succ O i g);show{(),(),c,λz=>d ()}
def Do (a:j<=p.size)(k:Nat):(iG p i j).getD k 0=if i<=k/\k < j then p.getD (i+j - 1 - k) 0 else p.getD k 0:=by
 rw[cJ];unfold iG;rw[getElem?_mirror_all a]
 split;{rw[cJ]};{rw[cJ]}
def Mm (hk:k < p.size)(b:l<=k)(i:Nat):(vK p k (k - l)).getD i 0=if i=l then p.getD k 0 else if l < i/\i<=k then p.getD (i - 1) 0 else p.getD i 0:=by
 simp only[cJ];rw[getElem?_bubble hk _ (),show k - (k - l)=l by lia];by_cases h:i=l;{rw[MU h,MU h]};{rw[MV h,MV h];by_cases a:l < i/\i<=k;{rw[MU a,MU a]};{rw[MV a,MV a]}}
def Dp (O:Ord lt){p:CQ}{i j:Nat}(a:j<=p.size)(S:Sm lt p i j)(k x:Nat):lt x ((iG p i j).getD k 0)=lt x (p.getD k 0)/\lt ((iG p i j).getD k 0) x=lt (p.getD k 0) x:=by
 rw[Do a]
 split;{next h=>show O.eqv (S _ _ () () h.1 h.2) (S _ _ h.1 h.2 () ()) x};{show#v[rfl,rfl]}
def yb {p c:CQ}(h:∀k x,lt x (c.getD k 0)=lt x (p.getD k 0)/\lt (c.getD k 0) x=lt (p.getD k 0) x)(a b:Nat):lt (c.getD a 0) (c.getD b 0)=lt (p.getD a 0) (p.getD b 0):=by
 rw[(h b _).1,(h a _).2]
structure ajg (lt:Nat->Nat->Bool)(p:CQ)(n f:Nat)(r:CQ×Nat×Nat):Prop where
 perm:r.1.Perm p
 lo:n<=r.2.1
 hi:r.2.1<=n+f
 q:r.2.2+1<=r.2.1
 dn:Dn lt r.1 r.2.1
 sm:Sm lt r.1 (r.2.1 - (r.2.2+1)) r.2.1
theorem By (O:Ord lt):∀f p n q,n+f<=p.size->q+1<=n->Dn lt p n->Sm lt p (n - (q+1)) n->ajg lt p n f (c8 lt (lC f p n q))
 |0,p,n,q,_,c,d,s=>{.rfl,aI _,aI _,c,d,s}
 |f+1,p,n,q,hs,c,d,s=>by
  have e:c8 lt (lC (f+1) p n q)=c8 lt (if lt (p.getD n 0) (p.getD (n - 1) 0)=MO then (if q > 0 then lC f (iG p (n - (q+1)) n) (n+1) 0 else lC f p (n+1) 0)else .ask (p.getD (n - 1) 0) (p.getD n 0) λd=>if d=MO then .ret (p,n,q)else lC f p (n+1) (q+1)):=rfl
  rw[e];cases l:lt (p.getD n 0) (p.getD (n - 1) 0)with
  |true=>
   rw[MU rfl];have hd:=O.asym _ _ l;have one:∀p,Sm lt p (n+1 - (0+1)) (n+1):=λp a b g i r u=>by
    rw[show a=b by lia];show O.irr _
   by_cases m:q > 0;{rw[MU m];have sz:(iG p (n - (q+1)) n).size=p.size:=uL _ _;have sm:=Dp O () s;have d':Dn lt (iG p (n - (q+1)) n) n:=λa b g i=>(by rw[yb sm];show d a b g i);have x:=By O f (iG p (n - (q+1)) n) (n+1) 0 () () (d'.succ O () (by rw[yb sm];show hd)) (one _);show⟨x.perm.trans (pV _ _ _ _),by have:=x.lo;lia,by have:=x.hi;lia,x.q,x.dn,x.sm⟩};{rw[MV m];have x:=By O f p (n+1) 0 () () (d.succ O () hd) (one _);show⟨x.perm,by have:=x.lo;lia,by have:=x.hi;lia,x.q,x.dn,x.sm⟩}
  |false=>
   rw[MV aO];have w:c8 lt (.ask (p.getD (n - 1) 0) (p.getD n 0) λd=>if d=MO then .ret (p,n,q)else lC f p (n+1) (q+1))=c8 lt (if lt (p.getD (n - 1) 0) (p.getD n 0)=MO then .ret (p,n,q)else lC f p (n+1) (q+1)):=rfl
   rw[w];cases hd:lt (p.getD (n - 1) 0) (p.getD n 0)with
   |true=>
    rw[MU rfl];show{.rfl,aI _,by change n<=_;lia,c,d,s}
   |false=>
    rw[MV aO];have x:=By O f p (n+1) (q+1) () () (d.succ O () hd) (λa b g i r u=>?_);{show⟨x.perm,by have:=x.lo;lia,by have:=x.hi;lia,x.q,x.dn,x.sm⟩};{by_cases o:a=n;{by_cases j:b=n;{rw[o,j];show O.irr _};{rw[o];show O.tr _ _ _ (s (n - 1) b () () () ()) l}};{by_cases j:b=n;{rw[j];show O.tr _ _ _ hd (s a (n - 1) () () () ())};{show s a b () () () ()}}}
structure Ui (lt:Nat->Nat->Bool)(p:CQ)(r:Nat×CQ):Prop where
 perm:r.2.Perm p
 lo:1<=r.1
 hi:r.1<=p.size
 up:Up lt r.2 r.1
def Mn (O:Ord lt){p:CQ}{n:Nat}(f:1<=n)(e:n<=p.size)(d:Dn lt p n):Ui lt p (c8 lt (uM n p.size p)):=by
 have up:Up lt (iG p 0 n) n:=λa b i g=>by
  rw[Do e,Do e,MU {cH _,g},MU {cH _,()}];show d _ _ () ()
 obtain⟨a,b,c,_⟩:_:=Ml O (iG p 0 n) (p.size - n) n f up;unfold uM;rw[oz];show{pV _ _ _ _,by change 1<=c8 lt _;omega,by change c8 lt _<=_;omega,c}
def C1 (O:Ord lt){p:CQ}{n:Nat}(c:1<=n)(g:n < p.size)(d:Dn lt p n)(hd:lt (p.getD n 0) (p.getD (n - 1) 0)=MO):Ui lt p (c8 lt (pF n p.size p)):=by
 have x:=By O (p.size - (n+1)) p (n+1) 0 () () (d.succ O c (O.asym _ _ hd)) (λa b c f i j=>by rw[show a=b by lia];show O.irr _);unfold pF;rw[oz];generalize c8 lt (lC (p.size - (n+1)) p (n+1) 0)=r at x;have lo:=x.lo;have hi:=x.hi;have sz:r.1.size=p.size:=x.perm.size_eq
 split;{have sm:=Dp O () x.sm;have e:(iG r.1 (r.2.1 - (r.2.2+1)) r.2.1).size=p.size:=(by rw[uL,sz]);have y:=Mn O (p:=iG r.1 (r.2.1 - (r.2.2+1)) r.2.1) (n:=r.2.1) () () (λa b c f=>by rw[yb sm];show x.dn a b c f);rw[e]at y;show⟨(y.perm.trans (pV _ _ _ _)).trans x.perm,y.lo,by have:=y.hi;lia,y.up⟩};{have y:=Mn O (p:=r.1) (n:=r.2.1) () () x.dn;rw[sz]at y;show⟨y.perm.trans x.perm,y.lo,by have:=y.hi;lia,y.up⟩}
def aam (O:Ord lt){p:CQ}(f:1<=p.size):Ui lt p (c8 lt (uN p.size p)):=by
 obtain⟨a,b,c,d⟩:=Ml O p (p.size - 1) 1 (aI _) (λa b f g=>());unfold uN;rw[oz];generalize c8 lt (nD p (p.size - 1) 1)=n at a b c d;by_cases e:n=p.size;{rw[MU (by simp[e])];show{.rfl,a,by change n<=_;lia,c}}
 rw[MV (⇑e)];have hd:=d ();by_cases l:n > 1
 ·rw[MU l];have o:c8 lt (.ask (p.getD 0 0) (p.getD (n - 1) 0) λc=>if c=MO then .ret (n,p)else pF n p.size (iG p 0 n))=c8 lt (if lt (p.getD 0 0) (p.getD (n - 1) 0)=MO then .ret (n,p)else pF n p.size (iG p 0 n)):=rfl
  rw[o];cases h0:lt (p.getD 0 0) (p.getD (n - 1) 0)with
  |true=>
   rw[MU rfl];show{.rfl,a,by change n<=_;lia,c}
  |false=>
   rw[MV aO];have m:∀a b,a<=b->b < n->lt (p.getD b 0) (p.getD a 0)=MP:=λa b f g=>by
    by_cases e:a=b;{rw[e];show O.irr _};{show c a b () g}
   have s:Sm lt p 0 n:=λi j _ hi _ r=>by
    show O.tr _ _ _ (m j (n - 1) () ()) (O.tr _ _ _ h0 (m 0 i () hi))
   have sm:=Dp O () s;have sz:(iG p 0 n).size=p.size:=uL _ _;have y:=C1 O (p:=iG p 0 n) (n:=n) () () (λa b f g=>by rw[yb sm];show s a b () () () ()) (by rw[yb sm];show hd);rw[sz]at y;show⟨y.perm.trans (pV _ _ _ _),y.lo,by have:=y.hi;lia,y.up⟩
 ·rw[MV l];have q:n=1:=();subst q;show C1 O (aI _) () (λa b f g=>()) hd
theorem Dq (O:Ord lt){p:CQ}{k:Nat}(u:Up lt p k):∀(f l r:Nat),r - l<=f->l<=r->r<=k->(∀a,a < l->lt (p.getD k 0) (p.getD a 0)=MP)->(∀a,r<=a->a < k->lt (p.getD k 0) (p.getD a 0)=MO)->
  ∃m,c8 lt (lJ p k f l r)=m/\m<=k/\(∀a,a < m->lt (p.getD k 0) (p.getD a 0)=MP)/\(∀a,m<=a->a < k->lt (p.getD k 0) (p.getD a 0)=MO)
 |0,l,r,o,g,j,c,d=>{l,rfl,(),c,λa i=>d a ()}
 |f+1,l,r,o,g,j,c,d=>by
  by_cases n:l>=r;{show{l,?_,(),c,λa i=>d a ()};unfold lJ;rw[MU n];rfl}
  ·have e:c8 lt (lJ p k (f+1) l r)=c8 lt (if lt (p.getD k 0) (p.getD ((l+r) / 2) 0)=MO then lJ p k f l ((l+r) / 2)else lJ p k f ((l+r) / 2+1) r):=by
    conv=>lhs;unfold lJ
    rw[MV n];rfl
   rw[e];cases b:lt (p.getD k 0) (p.getD ((l+r) / 2) 0)with
   |true=>
    rw[MU rfl];show Dq O u f l ((l+r) / 2) () () () c (λa i hk=>?_);by_cases e:a=(l+r) / 2;{rw[e];show b}
    ·cases h:lt (p.getD k 0) (p.getD a 0)with
     |true=>rfl
     |false=>
      rw[O.tr _ _ _ (u ((l+r) / 2) a () hk) h]at b;cases b
   |false=>
    rw[MV aO];show Dq O u f ((l+r) / 2+1) r () () j (λa i=>?_) d;by_cases e:a=(l+r) / 2;{rw[e];show b};{show O.tr _ _ _ (u a ((l+r) / 2) () ()) b}
def ajh (O:Ord lt){p:CQ}{k m:Nat}(hk:k < p.size)(c:m<=k)(u:Up lt p k)(i:∀a,a < m->lt (p.getD k 0) (p.getD a 0)=MP)(j:∀a,m<=a->a < k->lt (p.getD k 0) (p.getD a 0)=MO) :
  Up lt (vK p k (k - m)) (k+1):=by
 intro a b l n;rw[Mm hk c,Mm hk c];by_cases d:b=m;{rw[MU d,MV (),MV ()];show i a ()};{rw[MV d];by_cases e:a=m;{rw[MU e,MU ()];show O.asym _ _ (j (b - 1) () ())};{rw[MV e];by_cases f:m < b/\b<=k;{rw[MU f];by_cases g:m < a/\a<=k;{rw[MU g];show u _ _ () ()};{rw[MV g];show u _ _ () ()}};{rw[MV f,MV ()];show u _ _ l ()}}}
theorem Xm (O:Ord lt):∀(f:Nat)(p:CQ) (k:Nat),k+f=p.size->Up lt p k->Up lt (c8 lt (sO f p k)) p.size/\(c8 lt (sO f p k)).Perm p
 |0,p,k,h,u=>{by rw[<-h];show u,.rfl}
 |f+1,p,k,h,u=>by
  obtain⟨m,e,c,d,g⟩:=Dq O u k 0 k () (cH _) (aI _) (λa b=>MY b (jN _)) (λa b hk=>MY b ());have i:c8 lt (sO (f+1) p k)=c8 lt (sO f (vK p k (k - m)) (k+1)):=by
   change c8 lt ((lJ p k k 0 k).bind λl=>sO f (vK p k (k - l)) (k+1))=_;rw[oz,e]
  obtain⟨x,y⟩:=Xm O f (vK p k (k - m)) (k+1) (by rw[bubble_size];lia) (ajh O () c u d g);rw[i];rw[bubble_size]at x;show{x,y.trans (bubble_perm _ _ _)}
def afg (O:Ord lt){n:Nat}(b:1<=n):Up lt (c8 lt (kE n)) n/\(c8 lt (kE n)).toList.Perm (bA n):=by
 have sz:(bA n).toArray.size=n:=∅;have c:=aam O (p:=(bA n).toArray) ();rw[sz]at c;unfold kE;rw[oz];generalize c8 lt (uN n (bA n).toArray)=r at c;have hi:=c.hi;have lo:=c.lo;have a:r.2.size=n:=(by rw[c.perm.size_eq,sz]);by_cases h:r.1 < n;{rw[MU h];obtain⟨x,y⟩:=Xm O (n - max r.1 1) r.2 (max r.1 1) () (c.up.le ());rw[a]at x;show⟨x,by have:=(y.trans c.perm).toList;simpa using this⟩};{rw[MV h];have e:r.1=n:=();show⟨by change Up lt r.2 n;rw[<-e];show c.up,by have:=c.perm.toList;change r.2.toList.Perm _;simpa using this⟩}
end
def AskQ {c:Type}(n:Nat)(P:c->Prop):KasT c->Prop
 | .ret a=>P a
 | .ask i j k=>i < n/\j < n/\∀b,AskQ n P (k b)
theorem AskQ.bind {c d:Type}{n:Nat}{P:c->Prop}{Q:d->Prop}{f:c->KasT d}(e:∀a,P a->AskQ n Q (f a)):∀(t:KasT c),AskQ n P t->AskQ n Q (t.bind f)
 | .ret a,h=>e a h
 | .ask i j k,h=>{h.1,h.2.1,λb=>AskQ.bind e (k b) (h.2.2 b)}
theorem AskQ.asks {b:Type}{n:Nat}{P:b->Prop}:∀(t:KasT b),AskQ n P t->rn n t=MO
 | .ret a,_=>rfl
 | .ask i j k,h=>by
  simp only[rn,cI,decide_eq_true_eq];show{{#v[h.1,h.2.1],AskQ.asks _ (h.2.2 MO)},AskQ.asks _ (h.2.2 MP)}
def Alln (n:Nat)(p:CQ):Prop:=0 < n/\∀x∈p.toList,x < n
theorem Alln.at (h:Alln n p)(i:Nat):p.getD i 0 < n:=by
 rw[cJ];cases e:p[i]? with
 |none=>show h.1
 |some x=>show h.2 x (by rw[<-bS]at e;show bG e)
def Alln.perm (h:Alln n p)(e:q.Perm p):Alln n q:={h.1,λx a=>h.2 x (e.toList.mem_iff.mp a)}
def Alln.rev (h:Alln n p)(i j:Nat):Alln n (iG p i j):=h.perm (pV _ _ _ _)
section
variable {n:Nat}
theorem G8 (h:Alln n p):∀f m,AskQ n (λ_=>True) (nD p f m)
 |0,m=>trivial
 |f+1,m=>{h.at _,h.at _,λb=>by cases b;show G8 h f (m+1);show trivial}
theorem yw:∀(f:Nat) {p:CQ}(h:Alln n p) (m q:Nat),AskQ n (λr=>Alln n r.1) (lC f p m q)
 |0,p,h,m,q=>h
 |f+1,p,h,m,q=>⟨h.at _,h.at _,λb=>by
     cases b
     · show{h.at _,h.at _,λb=>by cases b;show yw f h (m+1) (q+1);show h}
     · change AskQ n _ (if q > 0 then lC f (iG p (m - (q+1)) m) (m+1) 0 else lC f p (m+1) 0)
       split
       · show yw f (h.rev _ _) (m+1) 0
       · show yw f h (m+1) 0⟩
def Jp {p:CQ}(h:Alln n p)(m r:Nat):AskQ n (λr=>Alln n r.2) (uM m r p):=by
 unfold uM;show AskQ.bind (P:=λ_=>True) (λa _=>?_) _ (G8 (h.rev _ _) _ _);show h.rev 0 m
def Aw {p:CQ}(h:Alln n p)(m r:Nat):AskQ n (λr=>Alln n r.2) (pF m r p):=AskQ.bind (λa b=>by
  change AskQ n _ (if a.2.2 > 0 then _ else _)
  split
  · show Jp (b.rev _ _) _ _
  · show Jp b _ _) _ (yw _ h _ _)
def Xn {p:CQ}(h:Alln n p)(r:Nat):AskQ n (λr=>Alln n r.2) (uN r p):=AskQ.bind (λm _=>by
  change AskQ n _ (if (m == r)=MO then _ else _)
  split
  · show h
  · split
    · show{h.at _,h.at _,λb=>by cases b;show Aw (h.rev _ _) _ _;show h}
    · show Aw h _ _) _ (G8 h _ _)
theorem Ax (h:Alln n p)(k:Nat):∀f l r,AskQ n (λ_=>True) (lJ p k f l r)
 |0,l,r=>trivial
 |f+1,l,r=>by
  unfold lJ
  split;{trivial};{show{h.at _,h.at _,λb=>by cases b;show Ax h k f _ _;show Ax h k f _ _}}
theorem Sh:∀(f:Nat) {p:CQ}(h:Alln n p) (k:Nat),AskQ n (λr=>Alln n r) (sO f p k)
 |0,p,h,k=>h
 |f+1,p,h,k=>AskQ.bind (λl _=>Sh f (h.perm (bubble_perm _ _ _)) (k+1)) _ (Ax h k k 0 k)
def aan (h:0 < n):rn n (kE n)=MO:=by
 have a:Alln n (bA n).toArray:={h,λx c=>by simpa using c};show AskQ.asks (P:=λr=>Alln n r) _ (AskQ.bind (λr b=>?_) _ (Xn a n));change AskQ n _ (if r.1 < n then _ else _)
 split;{show Sh _ b _};{show b}
end
end TupSet
namespace TupG
open SetTable TupSet PyProof.Rows PySem.W
def Pv (a:RiseA xs)(hi:xs[i]?=KE v):below xs (v+1)=i+1:=by
 have b:=Di xs (v+1);have c:i < below xs (v+1):=by
  by_cases h:below xs (v+1)<=i;{have:=(jw a (v+1) hi).2 h;lia};{lia}
 by_cases h:below xs (v+1)=i+1;{show h};{have e:xs[i+1]?=KE (xs[i+1]'()):=bV ();have d:=(jw a (v+1) e).1 ();have f:=a.lt hi e ();lia}
def Pw (a:RiseA xs):below xs 0=0:=by
 have b:=Di xs 0;by_cases h:below xs 0=0;{show h};{have e:xs[0]?=KE (xs[0]'()):=bV ();have:=(jw a 0 e).1 ();lia}
section
variable {prog:aQ}{w:bB}{A:bX}{E:aK->aG->Prop}{s:aG}
def Ff {o:Obj}{a:Array (Int×aK)}{c slot i:Nat}{t:eS}{Q:Option (aK×Nat)->aG->Prop}
  (d:s.heap.get? S=KE o) (hd:o.data=.set a c t) (Sm:Tb t a.size) (j:a.size<=t.mask) (l:w.params.followText "set-order"=MP->t.led=MO)
  (m:w.params.followText "set-order"=MP->below t.place slot=i)
  (h:∀nx,(w.params.followText "set-order"=MP->i < a.size->below t.place nx=i+1)->Q (((g7 w S c a)[i]?).map λv=>(v,nx)) s) :
  aJ (aV prog w) A (setNext S slot i c) Q E s:=by
 have f:t.fits a.size=MO:=yu Sm j;unfold setNext;show aA (gA d hd f ?_);dsimp only;unfold vL;show aA (aA (lP (wpAny_pure ?_)));cases b:w.params.followText "set-order" with
 |true=>
  rw[show((aV prog w).w.params.followText "set-order")=MO from b];simp only[if_true];rw[MV ∅];unfold setWalk;show aA (aA (gA d hd f ?_));dsimp only;unfold vL;show aA (aA (lP (wpAny_pure ?_)));rw[show((aV prog w).w.params.followText "set-order")=MO from b];simp only[if_true];show aA (lP (wpAny_pure (wpAny_pure ?_)));have:=h slot (λe=>by rw[b]at e;show nomatch e);have hw:g7 w S c a=(uK (w.params.setOrder S c) a).toList.map (·.2):=(by unfold g7;rw[MU b]);rw[hw,aN,bS,Option.map_map]at this;show this
 |false=>
  rw[show((aV prog w).w.params.followText "set-order")=MP from b];simp only[bM,if_false];show Aq (show(!t.plain && decide (a.size > 1))=MP by rw[Sm.plain];rfl) ?_;show aA ?_;change aJ _ _ (ite ((!t.led && !a.isEmpty)=MO) _ _) _ _ _;show Aq (by rw[l b];rfl) (wpAny_pure ?_);rw[m b];have hw:g7 w S c a=a.toList.map (·.2):=(by unfold g7;rw[b];rfl);by_cases hi:i < a.size;{have g:i < t.place.size:=(by rw[Sm.size];show hi);rw[bV hi,bV g];have:=h (t.place[i]+1) (λ_ _=>Pv Sm.rise (bV g));rw[hw,aN,bS,bV hi]at this;show wpAny_pure this};{have:=h 0 (λ_ h'=>MY h' hi);rw[hw,aN,bS,lW.mpr ()]at this;rw[lW.mpr ()];show wpAny_pure this}
structure SetObj (w:bB)(o:Obj)(es:Array (Int×aK))(ep:Nat)(t:eS):Prop where
 ex:o.ExactSet
 data:o.data=.set es ep t
 small:Tb t es.size
 fit:es.size<=t.mask
 n76:es.size<=76
 led:w.params.followText "set-order"=MP->t.led=MO
def Mp {b:Array (Int×aK)}{a i:Nat}{Q:AX->aG->Prop}
  (e:IsSetIter w s.heap I S i b.size a t) (f:s.heap.get? S=KE o) (D:SetObj w o b a t) (g:(g7 w S a b)[i]?=KE v)
  (m:∀h',IsSetIter w h' I S (i+1) b.size a t->eN I s.heap h'->Q (KE v) { s with heap:=h' }) :
  aJ (aV prog w) A (iM (.ref I)) Q E s:=by
 have j:=e.typeIs;obtain⟨slot,u,d,n,c,p⟩:=e;have hi:i < b.size:=by
  rw[<-si w S a b];show(bK.mp g).1
 unfold iM;show aA (lX (dO (name:=dG "__next__") j jk (dD jk j z8 ?_ (Ap _))));change aJ _ _ (fieldsOf (.ref I) >>= _) _ _ s;show aA (wpAny_fieldsOf d c ?_);dsimp only;show aA (pL f D.data (yu D.small D.fit) ?_);show Aq ∅ ?_;show aA (Ff (i:=i) (slot:=slot) f D.data D.small D.fit D.led p λnx q=>?_);rw[show((a:Int)).toNat=a from bT a,g];dsimp only[pE];show aA (nA d c ∅ ?_);have l:=gH (Obj.mapFields λxs=>xs.setIfInBounds 0 (kU nx)) d (oM (gL c _));show aA (nA l (gL c _) ∅ (wpAny_pure {v,rfl,wpAny_pure (m _ ?_ ((eM ..).trans (eM ..)))}));show{nx,_,gH _ l (oM (gL (gL c _) _)),(qT ..).trans ((qT ..).trans n),?_,λr=>q r hi};rw[gL (gL c _)];simp[kU]
def Px {c:Array (Int×aK)}{d:Nat}{Q:AX->aG->Prop}(e:A.handled=MN)
  (f:IsSetIter w s.heap I S c.size c.size d t) (g:s.heap.get? S=KE o) (D:SetObj w o c d t)
  (p:∀h',mD I s.heap h'->Q MN { s with heap:=h' }) :
  aJ (aV prog w) A (iM (.ref I)) Q E s:=by
 have j:=f.typeIs;obtain⟨slot,r,l,u,n,q⟩:=f;unfold iM;show aA (lX (dO (name:=dG "__next__") j jk (dD jk j z8 ?_ (Ap _))));change aJ _ _ (fieldsOf (.ref I) >>= _) _ _ s;show aA (wpAny_fieldsOf l n ?_);dsimp only;show aA (pL g D.data (yu D.small D.fit) ?_);show Aq ∅ ?_;show aA (Ff (i:=c.size) (slot:=slot) g D.data D.small D.fit D.led q λnx x=>?_);rw[List.getElem?_eq_none_iff.mpr (by rw[si];show aI _)];dsimp only[pE];show aA (nA l n ∅ ?_);show aA ?_;simp only[newExc,newTuple];show aA (dW ?_ (by size_fits));show aA (m:=pR _ _) (uU (a:=fR) (by first | rfl | (simp only[pR];rfl)) ?_)
 show dW ?_ (by size_fits);simp only[raiseNew];show aA (wpAny_handled ?_)
 first | rw[show A.in1.handled=MN from e] | rw[e]
 show aA (wpAny_pure (wpAny_throw ?_));show aA (iC (T:="StopIteration") (b:=MO) {_,aZ _ rfl,rfl} sP ?_);show wpAny_pure (p _ (((eM ..).extBut.push _).push _))
def afh (a:s.heap.get? S=KE o)(D:SetObj w o c e t)
  (f:Q (.ref ‹s›) { s with heap:=s.heap.push { cls:=.type "set_iterator",data:=.fields #[.int 0 0,.int 0 0,.ref S,.int c.size 0,.int e 0] } }) :
  aJ (aV prog w) A (vA (.ref S)) Q E s:=by
 have d:s.TypeIs (.ref S) "set":=#v[o,a,D.ex.1];have b:=yu D.small D.fit;show wpAny_pyIter_slot d F.slot_set_iter (dD F.slot_set_iter d Mc ?_ (F.args_set_iter_1 _));change aJ _ _ (Builtin.Frozenset.sizeOf S >>= _) _ _ s;unfold Builtin.Frozenset.sizeOf;show aA (aA (pL a D.data b (wpAny_pure ?_)));unfold setDrawn;show aA (aA (gA a D.data b ?_));dsimp only;unfold vL;show aA (aA (lP (wpAny_pure (wpAny_pure ?_))));show Aq (show(!(w.params.followText "set-order") && (!t.plain && decide (c.size > 1)))=MP by rw[D.small.plain];simp) ?_;show aA (wpAny_pure ?_);show aA (wpAny_setEpoch_of a D.data b ?_);show aA (dW (wpAny_pure {_,rfl,"set_iterator",_,{_,aZ _ rfl,rfl},jk.lookup,f}))
def Xo (hh:A.handled=MN)(xN:S≠I)(D:SetObj w o es ep t) :
  Walks prog w A I [I,S] [I] es.size (λi v=>(g7 w S ep es)[i]?=KE v) (λi h=>IsSetIter w h I S i es.size ep t/\h.get? S=KE o) where
 sub:=λb hb=>by simp at hb;simp[hb]
 frame:=λi h h' st hk=>by
  obtain⟨⟨slot,oi,EA,r⟩,hS⟩:=st;show{{slot,oi,hk I ∅ _ EA,r},hk S ∅ _ hS}
 item:=λi s Q E hi st hQ=>by
  have hl:=si w S ep es;have hv:(g7 w S ep es)[i]?=KE ((g7 w S ep es)[i]'()):=aB _;show Mp st.1 st.2 D hv λh' hit' zW=>?_;show hQ _ h' s.toks hv {hit',by rw[zW.2 S xN];show st.2} λb o hb e=>zW.extBut b o (λh=>hb (by simp[h])) e
 done:=λs Q E st hQ=>Px hh st.1 st.2 D λh' CV=>hQ h' s.toks λb o hb e=>CV b o (λh=>hb (by simp[h])) e
 self:=λi s Q E st hQ=>by
  have hT:=st.1.typeIs;show wpAny_pyIter_slot hT Ar (dD Ar hT J8 ?_ (Me _));change aJ _ _ (ret (.ref I)) _ _ s;show wpAny_pure {_,rfl,"set_iterator",_,hT,jk.lookup,hQ}
def afi (D:SetObj w o es ep t) :
  KdlSrc prog w "set" S S es.size (λi v=>(g7 w S ep es)[i]?=KE v) (λh=>h.get? S=KE o) where
 type:=λs ho=>#v[o,ho,D.ex.1]
 there:=λh ho=>{aS ho,aS ho}
 keep:=λh h' ho hk=>hk S (.inl rfl) _ ho
 notList:=by decide
 notTuple:=by decide
 hint:=λA E s Q ho h=>aak #v[o,ho,D.ex.1] h
 iter:=λA s hh ho=>{_,_,λE Q h=>afh ho D h,Xo hh (bH (aS ho)) D,{0,_,aZ _ rfl,rfl,rfl,λ_=>Pw D.small.rise},aE _ ho}
def wp_collect (q:A.handled=MN)(f:s.heap.get? S=KE o)(D:SetObj w o g i t)
  (h:∀h' d,(∀b o,s.heap.get? b=KE o->h'.get? b=KE o)->Q (g7 w S i g) { s with heap:=h',toks:=d }) :
  aJ (aV prog w) A (collect (.ref S)) Q E s:=by
 unfold collect;show aA (wpAny_runValue (iQ entry_proto_collect' ?_));change aJ _ _ (do again (.builtin "list.__iadd__" {[<-newList [],.ref S],[]})) _ _ s
 show aA (qM (wpAny_pure {Code.quiet_builtin _ ⋯,iQ entry_list_iadd' ?_}));rw[iR PySem.F.plain_list_iadd _];change aJ _ A.in1 (Builtin.List.listExtendWith (.ref ‹s›) (.ref S) (.ref ‹s›)) _ _ _;have l:=aS f;show kdl_extend (prog:=prog) (R:=λr s'=>match r with
   | .ok (.ret v)=>aJ (aV prog w) A (match v with
     | .ref a=>(do
       let x <-load a
       match x.data with
         | .seq xs _=>pure xs.toList
         |_=>unsupported "internal:collect")
     |_=>unsupported "internal:collect") Q E s'
   | .ok _=>False
   | .error e=>E e s') (s:={ s with heap:=s.heap.push { cls:=.type "list",data:=.seq #[] } }) (afi D) q (aE _ f) ‹s› (eX l) (eX l) (.ref ‹s›) 0 (aZ _ rfl) (λh' d c z hk u m=>?_) (by rw[iI];have:=D.n76;lia)
 have e:c.toList=g7 w S i g:=by
  show iZ λj=>?_;rw[bS];by_cases y:j < c.size;{have n:c[j]?=KE c[j]:=bV y;rw[n];show(m.2 j _ n).symm};{rw[lW.mpr (),List.getElem?_eq_none_iff.mpr];rw[si,<-m.1];lia}
 dsimp only;show aA (wpAny_load u (wpAny_pure ?_));rw[e];show h h' d λb o p=>hk b o (bH (aS p)) (aE _ p)
end
end TupG
namespace TupG
open SetTable TupSet PyProof.Rows PySem.W
def dd:LJ->LJ
 | []=>[]
 |x::l=>if x∈l then dd l else x::dd l
def srtG (L:LJ):LJ:=isort (dd L)
end TupG
end PySem
namespace L2
open PySem PySem.Spec PyProof.Rows
open PySem.SeqAt
theorem ur [DecidableEq b]:∀(ks ls:List b),((bA (min ks.length ls.length)).all (λj=>decide (ks[j]?=ls[j]?)) && ks.length == ls.length)=decide (ks=ls)
 | [],[]=>by simp
 | [],_::_=>by simp
 |_::_,[]=>by simp
 |k::ks,l::ls=>by
  have c:=ur ks ls;have e:min (k::ks).length (l::ls).length=min ks.length ls.length+1:=(by simp only[aW];lia);rw[e,List.range_succ_eq_map,qI,List.all_map];have d:((bA (min ks.length ls.length)).all ((λj=>decide ((k::ks)[j]?=(l::ls)[j]?))∘Nat.succ))=(bA (min ks.length ls.length)).all (λj=>decide (ks[j]?=ls[j]?)):=by
   congr 1
  have f:((k::ks).length == (l::ls).length)=(ks.length == ls.length):=∅;rw[d,f,Bool.and_assoc,c];by_cases a:k=l;{subst a;simp};{simp[a]}
section
variable {X:Cx}{f':BK}{σ:St}{H:Hp}{s:aG}{A:bX}
def so [DecidableEq o](p:Paired R xs ks)(q:Paired R ys ls)(d:Vals xs its)(f:Vals ys a)
  (r:∀(j:Nat)(k l:o),ks[j]?=KE k->ls[j]?=KE l->∀(x y:V)(u v:aK),R x k->R y l->RelV x u->RelV y v->EqAt A s u v (decide (k=l))) :
  ∀j (b:j < its.toArray.size) (c:j < a.toArray.size),EqAt A s its.toArray[j] a.toArray[j] (decide (ks[j]?=ls[j]?)):=by
 intro j b c;have l1:=d.length;have l2:=f.length;have g:j < xs.length:=(by rw[l1];simpa using b);have i:j < ys.length:=(by rw[l2];simpa using c);obtain⟨k,m,w⟩:=wg p (aB g);obtain⟨l,n,C⟩:=wg q (aB i);obtain⟨u,D,E⟩:=d.get (aB g);obtain⟨v,G,I⟩:=f.get (aB i);have J:its.toArray[j]=u:=by
  have z:its[j]?=KE its.toArray[j]:=(by simp[aB (⇑(b:j < its.length))]);rw[D]at z;show(cB z).symm
 have L:a.toArray[j]=v:=by
  have z:a[j]?=KE a.toArray[j]:=(by simp[aB (⇑(c:j < a.length))]);rw[G]at z;show(cB z).symm
 rw[J,L,m,n];have z:=r j k l m n _ _ _ _ w C E I;have e:decide (KE k=KE l)=decide (k=l):=(by rw[decide_eq_decide];show{cB,λz=>by rw[z]});rw[e];show z
def afj [DecidableEq p](I:Inv X f' σ H s)(fn:xs=ys->ks=ls)(c:SqT X.K H a xs)(d:SqT X.K H b ys)(f:Paired R xs ks)(g:Paired R ys ls)(r:A.units < cK)
  (w:∀(j:Nat)(k l:p),ks[j]?=KE k->ls[j]?=KE l->∀(x y:V)(u v:aK),R x k->R y l->RelV x u->RelV y v->EqAt A.in1 s u v (decide (k=l))):EqAt A s (.ref a) (.ref b) (decide (ks=ls)):=by
 obtain⟨its,i,z,_⟩:=I.tuple c;obtain⟨m,n,C,_⟩:=I.tuple d;have D:its.toArray.size=ks.length:=(by rw[aL,<-i.length,Paired.length f]);have E:m.toArray.size=ls.length:=(by rw[aL,<-n.length,Paired.length g]);by_cases o:a=b;{subst o;have e:=I.tuple_inj c d;rw[MX (fn e)];show EqAt.same _};{have q:=RcAt.tuples (s:=s) (A:=A) (show s.heap.IsTuple a its.toArray from z) (show s.heap.IsTuple b m.toArray from C) r (so f g i n w);rw[D,E,ur]at q;show EqAt.of_refs o q}
end
section
variable {X:Cx}
def aji (a:TA):TI:=λb H R=>a b H λvs c=>∃n:Nat,vs=[.int ((n:Int) - 1),.int (-1),.int (-1)]/\n < 1000000/\R (Itdn ((n:Int) - 1) n) c
def aao (y:Gl X "range")(z:X.mg "range"=MN)(A:PA X [a,b,c] C)(hs:↥(aM [a,b,c] X.e=[(MP,eval a X.e),(MP,eval b X.e),(MP,eval c X.e)]))(j:↥(aM [b,c] X.e=[(MP,eval b X.e),(MP,eval c X.e)])) :
  PI X U (.Call (.Name "range" p) [a,b,c] [] i) (aji C):=by
 intro l s m H R I h;show Call_ (j7 I y z vB (eB (thn (A i l s m H _ I h) λus d ⟨vs,u,D,E,w⟩=>?_) (by rw[hs,j]) (by rw[j];rfl)));obtain⟨n,e,w,q⟩:=w;subst e;cases E with
 |cons r f=>
  cases f with
  |cons G f=>
   cases f with
   |cons J f=>
    cases f;obtain⟨t,rfl⟩:=r;obtain⟨t',rfl⟩:=G;obtain⟨g,rfl⟩:=J;show call_range_3 #v[] ?_ (.inl (PyProof.noPylong_small ()));have L:((n:Int) - 1 - -1 - 1) / (- -1)=(n:Int) - 1:=by
     rw[show - (-1:Int)=1 by decide,uF];lia
    have x:kM ((n:Int) - 1) (-1) (-1)=n:=by
     unfold kM;rw[MV #v[],L];by_cases h0:n=0;{subst h0;rfl};{rw[MU ()];lia}
    have FB:Builtin.Range.small ((n:Int) - 1) (-1) (-1)=MO:=by
     unfold Builtin.Range.small;simp only[x,Builtin.Range.rangeFitsLong,cI,mG,decide_eq_true_eq,beq_iff_eq];simp;lia
    show wpAny_pyIter_range (IsRange.new ..) FB ?_;have I2:Inv X l m u { d with heap:=d.heap.push { cls:=.type "range",data:=.fields #[.int ((n:Int) - 1) t,.int (-1) t',.int (-1) g] },toks:=d.toks }:=D.kept λb o e=>aE _ e;show⟨(d.heap.push { cls:=.type "range",data:=.fields #[.int ((n:Int) - 1) t,.int (-1) t',.int (-1) g] }).objs.size,[(d.heap.push { cls:=.type "range",data:=.fields #[.int ((n:Int) - 1) t,.int (-1) t',.int (-1) g] }).objs.size],_,_,u,rfl,I2.kept (t':=d.toks) λb o e=>aE _ e,Xb _ ((n:Int) - 1) n,?_,λb N=>?_,q⟩
    ·have O:((n:Int) - 1)+((0:Nat):Int) * (-1)=(n:Int) - 1:=();have T:((n:Nat):Int) - ((0:Nat):Int)=kM ((n:Int) - 1) (-1) (-1):=by
      rw[x];lia
     change sG _ _ (((n:Int) - 1)+((0:Nat):Int) * (-1)) (((n:Nat):Int) - ((0:Nat):Int)) (-1);rw[O,T];show aZ _ rfl
    ·have e:b=(d.heap.push { cls:=.type "range",data:=.fields #[.int ((n:Int) - 1) t,.int (-1) t',.int (-1) g] }).objs.size:=(⇑N);subst e;show I2.fpOk (aI _) (I2.hok.fresh (aI _))
end
def AllP {a:Type}(p:a->Prop):List a->Prop
 | []=>True
 |x::r=>p x/\AllP p r
theorem AllP.mem:∀{l x},AllP p l->x∈l->p x
 |y::r,x,h,a=>by
  rcases aY.mp a with e | e;{rw[e];show h.1};{show h.2.mem e}
def OutsP (X:Cx)(a:mW):AQ->L1->Prop
 | [],[]=>True
 |y::ys,i::fr=>(X.N[i]?=KE y/\X.e.kindOf y=KE .cell/\(mB a X.e).names.lookup y=KE .cell)/\OutsP X a ys fr
 |_,_=>False
theorem OutsP.get:∀{ys:AQ}{fr:L1},OutsP X a ys fr->fr.length=ys.length/\∀(j:Nat)(y:Str),ys[j]?=KE y->∃i:Nat,fr[j]?=KE i/\X.N[i]?=KE y/\(X.e.kindOf y=KE .cell\/X.e.kindOf y=KE .free)/\((mB a X.e).names.lookup y=KE .cell\/(mB a X.e).names.lookup y=KE .free)
 | [],[],_=>{rfl,λj y e=>by cases j<;>cases e}
 |y::ys,i::fr,h=>by
  obtain⟨l,g⟩:=h.2.get;show{by rw[aW,aW,l],λj z e=>?_};cases j with
  |zero=>cases e;show{i,rfl,h.1.1,.inl h.1.2.1,.inl h.1.2.2}
  |succ j=>show g j z e
def csN {X:Cx}{a:mW}{cl:List (Str×MQ)}(L:List (Str×rD))(clos:autoParam (vH a X.e=pure cl) KQ._auto_1)(kind:↥(a.kind=.function))(nocell:autoParam (∀y∈a.names,y.2≠.cell) JQ._auto_1)
  (locs:autoParam (∀y∈a.names,y.2=.local->a.names.lookup y.1=KE .local) JQ._auto_1) (sub:autoParam (AllP (λp=>X.e.cells.lookup p.1=KE p.2) cl) KZ._auto_1)
  (c:autoParam ((mB a X.e).names=L) KQ._auto_1) (d:AllP (λp=>(p.2≠.cell/\p.2≠.free)\/(cl.lookup p.1).isSome=MO) L:=by repeat' first | show trivial | show .inl {#v[],#v[]} | show .inr (by with_unfolding_all rfl) | constructor)
  (outs:autoParam (OutsP X a ys fr) KZ._auto_1):pj X ns ys fr a cl:=
 cs_of L clos kind nocell locs (λ_ b=>sub.mem b) c (λp b hk=>by
   rcases d.mem b with h | h
   · show MY hk (λz=>z.elim h.1 h.2)
   · show kC.mp h) outs.get.1 outs.get.2
def fsN (a:↥(i.kind=.function))(b:↥(i.isCoroutine=MP))(c:↥(i.isGenerator=MP))(d:autoParam (N.Nodup) JQ._auto_1)(e:↥(N.take ps.length=ps))
  (f:autoParam (∀x∈ps,i.names.lookup x=KE .local\/i.names.lookup x=KE .cell) JQ._auto_1) (g:autoParam (∀y∈i.names,y.2≠.free) JQ._auto_1):fj N ps i:=#v[a,b,c,d,e,f,g]
def pg2 (e:X.calm=MO)(nd:autoParam (([a,b]++ys).Nodup) JQ._auto_1)
  (f:autoParam (Loc (cxC X ([a,b]++ys) c cl C s H d).e.scope a) JJ._auto_1) (g:autoParam (Loc (cxC X ([a,b]++ys) c cl C s H d).e.scope b) JJ._auto_1)
  (j:↥((cxC X ([a,b]++ys) c cl C s H d).e.scope.names.lookup a=KE .local)) (l:↥((cxC X ([a,b]++ys) c cl C s H d).e.scope.names.lookup b=KE .local)) :
  PG (cxC X ([a,b]++ys) c cl C s H d) (.Tuple [.Name a m,.Name b n] k o) (gTup X.K 2 (Lf (Bs 0) (Lf (Bs 1) Zf))):=
 Vz e (qo (ox (i:=0) nd rfl f (.inr j)) (qo (ox (i:=1) nd rfl g (.inr l)) Gx))
end L2
namespace VL
open PySem L2 PySem.Deep
structure B where
 P:aQ
 w:bB
 K:aF
abbrev _root_.L2.Cx.B (X:Cx):B:=#v[X.p,X.w,X.K]
inductive Tr where
 |v (x:V)
 |tup (l:List Tr)
 |lst (l:List Tr)
 |scr (l:List Tr)
 |dct (ks:CY) (l:List Tr)
 |dk (ks:List Key) (l:List Tr)
 |obj (C:MQ) (fs:AQ) (l:List Tr)
abbrev _root_.DJ:=List (Option Tr)
abbrev _root_.DQ:=List Tr
abbrev Tr.int (i:Int):Tr:=.v (.int i)
abbrev Tr.bl (b:Bool):Tr:=.v (.bl b)
abbrev Tr.str (x:Str):Tr:=.v (.str x)
abbrev Tr.non:Tr:=.v .non
mutual
inductive Rp (b:B)(F:Hp):V->Tr->Prop where
 |v {x:V}:pf x=MO->Rp b F x (.v x)
 |tup {a:MQ}{xs:DK}{l:DQ}:SqT b.K F a xs->Rps b F xs l->Rp b F (.ref a) (.tup l)
 |lst {a:MQ}{xs:DK}{l:DQ}:F a=KE (.lst xs)->Rps b F xs l->Rp b F (.ref a) (.lst l)
 |scr {a:MQ}{xs:DK}{l:DQ}:SqL b.K F a xs->Rps b F xs l->Rp b F (.ref a) (.scr l)
 |dct {a:MQ}{kvs:DE}{ks:CY}{l:DQ}:DictAt b.P b.w b.K F a kvs->ks=kvs.map (·.1)->Rps b F (kvs.map (·.2.2)) l->Rp b F (.ref a) (.dct ks l)
 |dk {a:MQ}{kvs:List (Key×V)}{ks:List Key}{l:DQ}:F a=KE (.dK kvs)->ks=kvs.map (·.1)->Rps b F (kvs.map (·.2)) l->Rp b F (.ref a) (.dk ks l)
 |obj {a C dx:MQ}{fs:List (Str×V)}{ns:AQ}{l:DQ}:F a=KE (.ins C dx fs)->ns=fs.map (·.1)->Rps b F (fs.map (·.2)) l->Rp b F (.ref a) (.obj C ns l)
inductive Rps (b:B)(F:Hp):DK->DQ->Prop where
 |nil:Rps b F [] []
 |cons {x:V}{xs:DK}{d:Tr}{l:DQ}:Rp b F x d->Rps b F xs l->Rps b F (x::xs) (d::l)
end
section
variable {b:B}{F F' H H':Hp}
def yx (h:SqL K H a xs)(e:Same H H'):SqL K H' a xs:=by
 rcases h with(h | ⟨o,h⟩) | h;{show .inl (.inl (e _ _ h))};{show .inl (.inr {o,e _ _ h})};{show .inr h}
mutual
theorem Rp.mono (e:Same F F'):∀{x d},Rp b F x d->Rp b F' x d
 |_,_,.v h=>.v h
 |_,_,.tup h r=>.tup (h.same e) (Rps.mono e r)
 |_,_,.lst h r=>.lst (e _ _ h) (Rps.mono e r)
 |_,_,.scr h r=>.scr (yx h e) (Rps.mono e r)
 |_,_,.dct h k r=>.dct (h.mono e) k (Rps.mono e r)
 |_,_,.dk h k r=>.dk (e _ _ h) k (Rps.mono e r)
 |_,_,.obj h k r=>.obj (e _ _ h) k (Rps.mono e r)
theorem Rps.mono (e:Same F F'):∀{xs l},Rps b F xs l->Rps b F' xs l
 |_,_,.nil=>.nil
 |_,_,.cons h r=>.cons (Rp.mono e h) (Rps.mono e r)
end
theorem Rps.length:∀{xs l},Rps b F xs l->xs.length=l.length
 |_,_,.nil=>rfl
 |_,_,.cons _ r=>by rw[aW,aW,r.length]
theorem Rps.append:∀{xs ys l m},Rps b F xs l->Rps b F ys m->Rps b F (xs++ys) (l++m)
 |_,_,_,_,.nil,s=>s
 |_,_,_,_,.cons h r,s=>.cons h (r.append s)
theorem Rps.take:∀{xs l},Rps b F xs l->∀n,Rps b F (xs.take n) (l.take n)
 |_,_,.nil,n=>by rw[List.take_nil,List.take_nil];show .nil
 |_,_,.cons h r,0=>.nil
 |_,_,.cons h r,n+1=>.cons h (r.take n)
theorem Rps.drop:∀{xs l},Rps b F xs l->∀n,Rps b F (xs.drop n) (l.drop n)
 |_,_,.nil,n=>by rw[List.drop_nil,List.drop_nil];show .nil
 |_,_,.cons h r,0=>.cons h r
 |_,_,.cons h r,n+1=>r.drop n
theorem Rps.reverse:∀{xs l},Rps b F xs l->Rps b F xs.reverse l.reverse
 |_,_,.nil=>.nil
 |_,_,.cons h r=>by rw[iX,iX];show(r.reverse).append (.cons h .nil)
theorem Rps.get:∀{xs:DK}{l:DQ}{i:Nat}{d:Tr},Rps b F xs l->l[i]?=KE d->∃x,xs[i]?=KE x/\Rp b F x d
 |_,_,i,_,.nil,e=>by simp at e
 |_,_,0,_,.cons h r,e=>by simp at e;subst e;show{_,rfl,h}
 |_,_,i+1,_,.cons h r,e=>by
  obtain⟨x,a,c⟩:_:=Rps.get (i:=i) r (⇑e);show{x,by simpa using a,c}
theorem Rps.set (h':Rp b F y e):∀{xs l} i,Rps b F xs l->Rps b F (xs.set i y) (l.set i e)
 |_,_,_,.nil=>.nil
 |_,_,0,.cons _ r=>.cons h' r
 |_,_,i+1,.cons h r=>.cons h (Rps.set h' i r)
def Rp.vI (h:Rp b F x (.v y)):x=y/\pf y=MO:=by cases h with | v h=>show#v[rfl,h]
def Rp.tupI (h:Rp b F x (.tup l)):∃a xs,x=.ref a/\SqT b.K F a xs/\Rps b F xs l:=by cases h with | tup h r=>show{_,_,rfl,h,r}
def Rp.scrI (h:Rp b F x (.scr l)):∃a xs,x=.ref a/\SqL b.K F a xs/\Rps b F xs l:=by cases h with | scr h r=>show{_,_,rfl,h,r}
def Rp.lstI (h:Rp b F x (.lst l)):∃a xs,x=.ref a/\F a=KE (.lst xs)/\Rps b F xs l:=by cases h with | lst h r=>show{_,_,rfl,h,r}
end
structure Wd where
 F:Hp
 H:Hp
 C:Nat->Option MQ
def CellOk (b:B)(F H:Hp)(a:MQ):Tr->Prop
 | .lst l=>∃xs,H a=KE (.lst xs)/\Rps b F xs l
 | .dct ks l=>∃kvs c,H a=KE (me b.P b.w a c kvs)/\(∀e∈kvs,KeyAt b.K F e.2.1 e.1)/\kvs.length<=sizeLine/\(a == gD)=MP/\ks=kvs.map (·.1)/\Rps b F (kvs.map (·.2.2)) l
 | .dk ks l=>∃kvs,H a=KE (.dK kvs)/\ks=kvs.map (·.1)/\Rps b F (kvs.map (·.2)) l
 | .obj C ns l=>∃d fs,H a=KE (.ins C d fs)/\ns=fs.map (·.1)/\Rps b F (fs.map (·.2)) l
 |_=>False
inductive Ev where
 |val (d:Tr)
 |new (d:Tr)
 |cel (j:Nat)
inductive Wt where
 |v (d:Tr)
 |c (j:Nat)
abbrev _root_.D1:=List (Option Wt)
structure M where
 loc:D1
 cel:DJ
def Rev (b:B)(O W:Wd)(x:V):Ev->Prop
 | .val d=>Rp b W.F x d
 | .new d=>∃a,x=.ref a/\O.H a=MN/\W.F a=MN/\(∀j,W.C j≠KE a)/\CellOk b W.F W.H a d
 | .cel j=>∃a,x=.ref a/\∀c,W.C j=KE c->c=a
def Rwt (b:B)(W:Wd)(x:V):Wt->Prop
 | .v d=>Rp b W.F x d
 | .c j=>∃a,x=.ref a/\W.C j=KE a
structure Wok (b:B)(W:Wd)(cel:DJ):Prop where
 sub:Same W.F W.H
 cell:∀j d,cel[j]?=KE (KE d)->∃a,W.C j=KE a/\W.F a=MN/\CellOk b W.F W.H a d
 live:∀j a,W.C j=KE a->∃d,cel[j]?=KE (KE d)
 dist:∀j k a,W.C j=KE a->W.C k=KE a->j=k
structure Rel (b:B)(W:Wd)(m:M)(σ:St):Prop where
 ok:Wok b W m.cel
 loc:∀(i:Nat)(w:Wt),m.loc[i]?=KE (KE w)->∃x,σ[i]?=KE (KE x)/\Rwt b W x w
 len:m.loc.length=σ.length
def imm:HO->Prop
 | .tup _=>True
 | .frz _ _=>True
 |_=>False
structure Le (W W':Wd):Prop where
 same:Same W.F W'.F
 fr:∀a o,W.H a=KE o->(∀j,W.C j≠KE a)->W'.H a=KE o
 nw:∀a,W.F a=MN->W'.F a≠MN->W.H a=MN\/(∃j,W.C j=KE a)\/∃o,W.H a=KE o/\imm o
 cl:∀j a,W'.C j=KE a->W.C j=KE a\/(W.H a=MN/\j≠0)
 dm:∀a,W'.H a=MN->W.H a=MN
structure Lx (W W':Wd):Prop extends Le W W' where
 cx:∀j a,W'.C j=KE a->W.C j=KE a
def Le.refl (W:Wd):Le W W:={λ_ _ h=>h,λ_ _ h _=>h,λ_ h h'=>MY h h',λ_ _ h=>.inl h,λ_ h=>h}
theorem Lx.refl (W:Wd):Lx W W:={Le.refl W,λ_ _ h=>h}
def Le.trans (h:Le A B')(k:Le B' C):Le A C where
 same:=λa o e=>k.same a o (h.same a o e)
 fr:=λa o e n=>k.fr a o (h.fr a o e n) λj e'=>(h.cl j a e').elim (n j) λz=>by rw[e]at z;cases z.1
 nw:=λa e n=>by
  cases q:B'.F a with
  |some o=>show h.nw a e (by rw[q];show λz=>by cases z)
  |none=>
   rcases k.nw a q n with z | ⟨j,z⟩ | ⟨o,z,im⟩;{show .inl (h.dm a z)};{rcases h.cl j a z with z | z;{show .inr (.inl #v[j,z])};{show .inl z.1}}
   ·cases qa:A.H a with
    |none=>show .inl rfl
    |some u=>
     by_cases c:∃j,A.C j=KE a;{show .inr (.inl c)};{have:=h.fr a u qa λj e'=>c #v[j,e'];rw[z]at this;cases this;show .inr (.inr #v[o,rfl,im])}
 cl:=λj a e=>by
  rcases k.cl j a e with z | z;{show h.cl j a z};{show .inr {h.dm a z.1,z.2}}
 dm:=λa z=>h.dm a (k.dm a z)
theorem Lx.trans (h:Lx A b)(k:Lx b C):Lx A C:={h.toLe.trans k.toLe,λj a e=>h.cx j a (k.cx j a e)}
section
variable {b:B}{W W':Wd}{x:V}
def ja (h:KeyAt K H c ks)(e:Same H H'):KeyAt K H' c ks:=h.tups (Tups.of e)
theorem CellOk.mono (h:CellOk b F H a d)(e:Same F F')(k:∀o,H a=KE o->H' a=KE o):CellOk b F' H' a d:=by
 cases d with
 |lst l=>obtain⟨xs,c,f⟩:_:=h;show{xs,k _ c,f.mono e}
 |dct ks l=>obtain⟨kvs,i,c,f,g,j,m,n⟩:_:=h;show{kvs,i,k _ c,λx p=>ja (f x p) e,g,j,m,n.mono e}
 |dk ks l=>obtain⟨kvs,c,f,g⟩:_:=h;show{kvs,k _ c,f,g.mono e}
 |v _=>show h.elim
 |tup _=>show h.elim
 |scr _=>show h.elim
 |obj C ns l=>obtain⟨q,fs,c,f,g⟩:_:=h;show{q,fs,k _ c,f,g.mono e}
def CellOk.has (h:CellOk b F H a d):∃o,H a=KE o:=by
 cases d with
 |lst l=>obtain⟨xs,c,e⟩:_:=h;show{_,c}
 |dct ks l=>obtain⟨kvs,f,c,_⟩:_:=h;show{_,c}
 |dk ks l=>obtain⟨kvs,c,_⟩:_:=h;show{_,c}
 |v _=>show h.elim
 |tup _=>show h.elim
 |scr _=>show h.elim
 |obj C ns l=>obtain⟨g,fs,c,_⟩:_:=h;show{_,c}
def CellOk.nimm (h:CellOk b F H a d):∀o,H a=KE o->¬imm o:=λo e=>by
 cases d with
 |lst l=>obtain⟨xs,c,f⟩:_:=h;rw[c]at e;cases e;show λz=>z
 |dct ks l=>obtain⟨kvs,g,c,_⟩:_:=h;rw[c]at e;cases e;show λz=>z
 |dk ks l=>obtain⟨kvs,c,_⟩:_:=h;rw[c]at e;cases e;show λz=>z
 |v _=>show h.elim
 |tup _=>show h.elim
 |scr _=>show h.elim
 |obj C ns l=>obtain⟨i,fs,c,_⟩:_:=h;rw[c]at e;cases e;show λz=>z
def CellOk.rp (h:CellOk b F H a d)(e:Same F H):Rp b H (.ref a) d:=by
 cases d with
 |lst l=>obtain⟨xs,c,f⟩:_:=h;show .lst c (f.mono e)
 |dct ks l=>obtain⟨kvs,i,c,f,g,j,m,n⟩:_:=h;show .dct {#v[i,c],λx o=>ja (f x o) e,g,j} m (n.mono e)
 |dk ks l=>obtain⟨kvs,c,f,g⟩:_:=h;show .dk c f (g.mono e)
 |v _=>show h.elim
 |tup _=>show h.elim
 |scr _=>show h.elim
 |obj C ns l=>obtain⟨p,fs,c,f,g⟩:_:=h;show .obj c f (g.mono e)
def e8 (F H:Hp)(a:MQ):Hp:=λx=>if x=a then H a else F x
def wk (h:F a=MN):Same F (e8 F H a):=λx o e=>by
 unfold e8;by_cases c:x=a;{subst c;rw[h]at e;cases e};{rw[MV c];show e}
def Ay (h:Same F H):Same (e8 F H a) H:=λx o e=>by
 unfold e8 at e;by_cases c:x=a;{subst c;rw[MU rfl]at e;show e};{rw[MV c]at e;show h _ _ e}
def CellOk.keep (h:CellOk b F H a d)(n:F a=MN):Rp b (e8 F H a) (.ref a) d:=
 (h.mono (F':=e8 F H a) (H':=e8 F H a) (wk n) λo e=>by unfold e8;rw[MU rfl];show e).rp λ_ _ e=>e
theorem Rev.mono (h:Rev b O W x i)(l:Lx W W'):Rev b O W' x i:=by
 cases i with
 |val d=>show Rp.mono l.same h
 |new d=>
  obtain⟨a,rfl,h0,c,f,g⟩:_:=h;obtain⟨o,n⟩:_:=g.has;show{a,rfl,h0,?_,λj e=>f j (l.cx j a e),g.mono l.same λo e=>l.fr a o e f};cases q:W'.F a with
  |none=>rfl
  |some r=>
   rcases l.nw a c (by rw[q];show λz=>by cases z)with z | ⟨j,z⟩ | ⟨u,z,p⟩;{rw[n]at z;cases z};{show MY z (f j)};{show MY p (g.nimm u z)}
 |cel j=>obtain⟨a,rfl,c⟩:_:=h;show{a,rfl,λm e=>c m (l.cx j m e)}
def Rev.old (h:Rev b O W x c)(l:Le e O):Rev b e W x c:=by
 cases c with
 |val d=>show h
 |new d=>obtain⟨a,rfl,h0,h⟩:_:=h;show{a,rfl,l.dm a h0,h}
 |cel j=>show h
end
abbrev GE:=M->(Ev->M->Prop)->Prop
abbrev GT:=M->(Bool->M->Prop)->Prop
abbrev GA:=M->(List Ev->M->Prop)->Prop
structure t8 where
 nx:M->Prop
 rt:Ev->M->Prop
 bk:M->Prop:=λ_=>False
 ct:M->Prop:=λ_=>False
abbrev GS:=t8->M->Prop
def lf (b:B)(f:GE):TE:=λc H Q=>∃W m R,W.H=H/\Rel b W m c/\f m R/\∀d e a x,R d e->Lx W a->Rel b a e c->Rev b W a x d->Q x a.H
def lfT (b:B)(f:GT):TT:=λd H Q=>∃W m R,W.H=H/\Rel b W m d/\f m R/\∀c e a,R c e->Lx W a->Rel b a e d->Q c a.H
def lfA (b:B)(f:GA):TA:=λc H Q=>∃W m R,W.H=H/\Rel b W m c/\f m R/\∀d e a xs,R d e->Lx W a->Rel b a e c->Paired (Rev b W a) xs d->Q xs a.H
def lfS (b:B)(O:Wd)(g:GS):TS:=λD f H=>∃W m E,W.H=H/\Le O W/\Rel b W m f/\g E m/\(∀d c a,E.nx d->Le O c->Same W.F c.F->Rel b c d a->D.nx a c.H)/\
 (∀e d c a x,E.rt e d->Le O c->Rel b c d a->Rev b O c x e->D.rt x c.H)/\(∀d c a,E.bk d->Le O c->Same W.F c.F->Rel b c d a->D.bk a c.H)/\(∀d c a,E.ct d->Le O c->Same W.F c.F->Rel b c d a->D.ct a c.H)
def je {b:B}{f:GE}{c:St}{H:Hp}{Q:VK}{G:Prop}(h:lf b f c H Q)(k:∀W m R,W.H=H->Rel b W m c->f m R->(∀d e a x,R d e->Lx W a->Rel b a e c->Rev b W a x d->Q x a.H)->G):G:=by
 obtain⟨W,m,R,g,i,j,l⟩:=h;show k W m R g i j l
def acy {b:B}{f:GT}{a:St}{H:Hp}{Q:Bool->Hp->Prop}{G:Prop}(h:lfT b f a H Q)(k:∀W m R,W.H=H->Rel b W m a->f m R->(∀c e d,R c e->Lx W d->Rel b d e a->Q c d.H)->G):G:=by
 obtain⟨W,m,R,g,i,j,l⟩:=h;show k W m R g i j l
def Uj {b:B}{f:GA}{c:St}{H:Hp}{Q:DK->Hp->Prop}{G:Prop}(h:lfA b f c H Q)(k:∀W m R,W.H=H->Rel b W m c->f m R->(∀d e a xs,R d e->Lx W a->Rel b a e c->Paired (Rev b W a) xs d->Q xs a.H)->G):G:=by
 obtain⟨W,m,R,g,i,j,l⟩:=h;show k W m R g i j l
def t9 {b:B}{O:Wd}{g:GS}{D:Lr}{e:St}{H:Hp}{G:Prop}(h:lfS b O g D e H)(k:∀W m E,W.H=H->Le O W->Rel b W m e->g E m->(∀d c a,E.nx d->Le O c->Same W.F c.F->Rel b c d a->D.nx a c.H)->(∀f d c a x,E.rt f d->Le O c->Rel b c d a->Rev b O c x f->D.rt x c.H)->(∀d c a,E.bk d->Le O c->Same W.F c.F->Rel b c d a->D.bk a c.H)->(∀d c a,E.ct d->Le O c->Same W.F c.F->Rel b c d a->D.ct a c.H)->G):G:=by
 obtain⟨W,m,E,i,j,l,n,o,p,q,r⟩:=h;show k W m E i j l n o p q r
structure VE (X:Cx)(e:MS)(f:GE):Prop where
 out:PE X e (lf X.B f)
structure VT (X:Cx)(e:MS)(f:GT):Prop where
 out:PT X e (lfT X.B f)
structure VW (X:Cx)(e:MS)(f:GT):Prop where
 out:PW X e (lfT X.B f)
structure VA (X:Cx)(es:BW)(f:GA):Prop where
 out:PA X es (lfA X.B f)
structure VS (X:Cx)(st:MT)(g:GS):Prop where
 out:∀O,PS X st (lfS X.B O g)
structure VSs (X:Cx)(st:List MT)(g:GS):Prop where
 out:∀O,PSs X st (lfS X.B O g)
section
variable {X:Cx}
def PE.sub (h:PE X e t')(k:∀a H Q,t a H Q->t' a H Q):PE X e t:=λb s a H Q I q=>h b s a H Q I (k a H Q q)
def PT.sub (h:PT X e t')(k:∀a H Q,t a H Q->t' a H Q):PT X e t:=λb s a H Q I q=>h b s a H Q I (k a H Q q)
def PW.sub (h:PW X e t')(k:∀a H Q,t a H Q->t' a H Q):PW X e t:=λb c s a H Q I q=>h b c s a H Q I (k a H Q q)
def PA.sub (h:PA X c t')(k:∀a H Q,t a H Q->t' a H Q):PA X c t:=λb d s a H Q I q=>h b d s a H Q I (k a H Q q)
def PS.sub (h:PS X st t')(k:∀D a H,t D a H->t' D a H):PS X st t:=λb s a H D I q=>h b s a H D I (k D a H q)
def PSs.sub (h:PSs X st t')(k:∀D a H,t D a H->t' D a H):PSs X st t:=λb s a H D I q=>h b s a H D I (k D a H q)
end
def Same.tr (h:Same A b)(k:Same b C):Same A C:=λa o e=>k a o (h a o e)
def Same.id:Same A A:=λ_ _ e=>e
def lk (m:M):Ev->(Tr->Prop)->Prop
 | .val d,Q=>Q d
 | .new d,Q=>Q d
 | .cel j,Q=>match m.cel[j]? with
  |some (KE d)=>Q d
  |_=>False
def frzW (j:Nat)(d:Tr):Option Wt->Option Wt
 |some (.c k)=>if k=j then KE (.v d)else KE (.c k)
 |w=>w
def frz (m:M)(j:Nat)(d:Tr):M:={m.loc.map (frzW j d),m.cel.set j MN}
def fz (m:M):Ev->(Tr->M->Prop)->Prop
 | .val d,Q=>Q d m
 | .new d,Q=>Q d m
 | .cel j,Q=>match m.cel[j]? with
  |some (KE d)=>Q d (frz m j d)
  |_=>False
def Top (b:B)(W:Wd)(x:V):Tr->Prop
 | .lst l=>∃a xs,x=.ref a/\W.H a=KE (.lst xs)/\Rps b W.F xs l
 | .dct ks l=>∃a kvs,x=.ref a/\DictAt b.P b.w b.K W.H a kvs/\(∀e∈kvs,KeyAt b.K W.F e.2.1 e.1)/\ks=kvs.map (·.1)/\Rps b W.F (kvs.map (·.2.2)) l
 | .dk ks l=>∃a kvs,x=.ref a/\W.H a=KE (.dK kvs)/\ks=kvs.map (·.1)/\Rps b W.F (kvs.map (·.2)) l
 | .obj C ns l=>∃a c fs,x=.ref a/\W.H a=KE (.ins C c fs)/\ns=fs.map (·.1)/\Rps b W.F (fs.map (·.2)) l
 |d=>Rp b W.F x d
section
variable {b:B}{W W':Wd}{x:V}{d:Tr}{cel:DJ}{σ:St}{m:M}
def Top.of (h:Rp b W.F x d)(e:Same W.F W.H):Top b W x d:=by
 cases h with
 |v h=>show .v h
 |tup h r=>show .tup h r
 |scr h r=>show .scr h r
 |obj h k r=>show{_,_,_,rfl,e _ _ h,k,r}
 |lst h r=>show{_,_,rfl,e _ _ h,r}
 |dct h k r=>show{_,_,rfl,h.mono e,h.keys,k,r}
 |dk h k r=>show{_,_,rfl,e _ _ h,k,r}
def Top.rp (h:Top b W x d)(e:Same W.F W.H):Rp b W.H x d:=by
 cases d with
 |v _=>show Rp.mono e h
 |tup _=>show Rp.mono e h
 |scr _=>show Rp.mono e h
 |obj C ns l=>obtain⟨a,c,fs,rfl,h,k,r⟩:_:=h;show .obj h k (r.mono e)
 |lst l=>obtain⟨a,xs,rfl,h,r⟩:_:=h;show .lst h (r.mono e)
 |dct ks l=>obtain⟨a,kvs,rfl,h,_,k,r⟩:_:=h;show .dct h k (r.mono e)
 |dk ks l=>obtain⟨a,kvs,rfl,h,k,r⟩:_:=h;show .dk h k (r.mono e)
def CellOk.top (h:CellOk b W.F W.H a d)(e:Same W.F W.H):Top b W (.ref a) d:=by
 cases d with
 |lst l=>obtain⟨xs,f,c⟩:_:=h;show#v[a,xs,rfl,f,c]
 |dct ks l=>obtain⟨kvs,i,f,c,g,j,n,o⟩:_:=h;show{a,kvs,rfl,{#v[i,f],λx p=>ja (c x p) e,g,j},c,n,o}
 |dk ks l=>obtain⟨kvs,f,c,g⟩:_:=h;show#v[a,kvs,rfl,f,c,g]
 |v _=>show h.elim
 |tup _=>show h.elim
 |scr _=>show h.elim
 |obj C ns l=>obtain⟨q,fs,f,c,g⟩:_:=h;show#v[a,q,fs,rfl,f,c,g]
def uu (e:lk m (.cel j) Q):∃d,m.cel[j]?=KE (KE d)/\Q d:=by
 change (match m.cel[j]? with | some (KE d)=>Q d | _=>False)at e
 rcases h:m.cel[j]? with _ | _ | d;{rw[h]at e;show e.elim};{rw[h]at e;show e.elim};{rw[h]at e;show#v[d,rfl,e]}
def ajj (e:fz m (.cel j) Q):∃d,m.cel[j]?=KE (KE d)/\Q d (frz m j d):=by
 change (match m.cel[j]? with | some (KE d)=>Q d (frz m j d) | _=>False)at e
 rcases h:m.cel[j]? with _ | _ | d;{rw[h]at e;show e.elim};{rw[h]at e;show e.elim};{rw[h]at e;show#v[d,rfl,e]}
variable {O:Wd}
def gu (ok:Wok b W m.cel)(h:Rev b O W x c)(e:lk m c Q):∃d,Top b W x d/\Q d:=by
 cases c with
 |val d=>show{d,Top.of h ok.sub,e}
 |new d=>
  obtain⟨a,rfl,_,_,_,f⟩:_:=h;show{d,f.top ok.sub,e}
 |cel j=>
  obtain⟨a,rfl,g⟩:_:=h;obtain⟨d,i,e⟩:_:=uu e;obtain⟨l,n,f,o⟩:_:=ok.cell j d i;cases g l n;show{d,o.top ok.sub,e}
def lp (n:c≠a):e8 F H a c=F c:=by unfold e8;rw[MV n]
def nr (l:Lx O W)(f:Rel b W m σ)(h:Rev b O W x Y)(e:fz m Y Q):∃d m' W',Q d m'/\Lx O W'/\W'.H=W.H/\Rel b W' m' σ/\Rp b W'.F x d:=by
 cases Y with
 |val d=>show#v[d,m,W,e,l,rfl,f,h]
 |new d=>
  obtain⟨a,rfl,h0,s,L,G⟩:_:=h;have E:Same W.F (e8 W.F W.H a):=wk s;show{d,m,{e8 W.F W.H a,W.H,W.C},e,{{λc o z=>E c o (l.same c o z),l.fr,λc z n=>?_,l.cl,l.dm},l.cx},rfl,{{Ay f.ok.sub,λj d' N=>?_,f.ok.live,f.ok.dist},λi w hw=>?_,f.len},G.keep s};{by_cases q:c=a;{subst q;show .inl h0};{have I:e8 W.F W.H a c≠MN:=n;rw[lp q]at I;show l.nw c z I}};{obtain⟨u,r,g,A⟩:_:=f.ok.cell j d' N;show{u,r,?_,A.mono E λ_ z=>z};change e8 W.F W.H a u=MN;rw[lp (λz=>L j (by rw[<-z];show r))];show g}
  ·obtain⟨y,r,g⟩:_:=f.loc i w hw;show{y,r,?_};cases w with
   |v d'=>show Rp.mono E g
   |c j=>show g
 |cel j=>
  obtain⟨a,rfl,s⟩:_:=h;obtain⟨d,N,e⟩:_:=ajj e;obtain⟨u,L,G,h4⟩:_:=f.ok.cell j d N;cases s u L;have s:=L;have E:Same W.F (e8 W.F W.H a):=wk G;have J:∀k c,(if k=j then MN else W.C k)=KE c->k≠j/\W.C k=KE c:=λk c z=>by
   by_cases q:k=j;{rw[MU q]at z;cases z};{rw[MV q]at z;show#v[q,z]}
  show{d,frz m j d,{e8 W.F W.H a,W.H,λk=>if k=j then MN else W.C k},e,{{λc o z=>E c o (l.same c o z),l.fr,λc z n=>?_,λk c z=>l.cl k c (J k c z).2,l.dm},λk c z=>l.cx k c (J k c z).2},rfl,{{Ay f.ok.sub,λk d' hk=>?_,λk c z=>?_,λk k' c z z'=>f.ok.dist k k' c (J k c z).2 (J k' c z').2},λi w hw=>?_,by change(m.loc.map _).length=_;rw[aC];show f.len},h4.keep G};{by_cases q:c=a;{subst q;show .inr (.inl {j,l.cx j c s})};{have I:e8 W.F W.H a c≠MN:=n;rw[lp q]at I;show l.nw c z I}}
  ·have T:(m.cel.set j MN)[k]?=KE (KE d'):=hk;have p:k≠j:=λz=>by
    subst z;rw[cZ (bK.mp N).1]at T;cases T
   rw[cS (λz=>p z.symm)]at T;obtain⟨u,r,g,A⟩:_:=f.ok.cell k d' T;show{u,by change(if k=j then MN else W.C k)=_;rw[MV p];show r,?_,A.mono E λ_ z=>z}
   change e8 W.F W.H a u=MN;rw[lp (λz=>p (f.ok.dist k j u r (by rw[z];show s)))];show g
  ·obtain⟨p,z⟩:_:=J k c z;obtain⟨d',q⟩:_:=f.ok.live k c z;show{d',by change(m.cel.set j MN)[k]?=_;rw[cS (λz=>p z.symm)];show q}
  ·have D:(m.loc.map (frzW j d))[i]?=KE (KE w):=hw;rw[aN]at D;rcases q:m.loc[i]? with _ | _ | w0;{rw[q]at D;cases D};{rw[q]at D;cases D}
   ·rw[q]at D;obtain⟨y,r,g⟩:_:=f.loc i w0 q;show{y,r,?_};cases w0 with
    |v d'=>cases D;show Rp.mono E g
    |c k=>
     have U:(if k=j then KE (Wt.v d)else KE (.c k))=KE w:=by simpa[frzW]using D
     by_cases p:k=j;{rw[MU p]at U;cases U;obtain⟨c,rfl,A⟩:_:=g;rw[p,s]at A;cases A;show h4.keep G};{rw[MV p]at U;cases U;obtain⟨c,rfl,A⟩:_:=g;show{c,rfl,by change(if k=j then MN else W.C k)=_;rw[MV p];show A}}
def o6 (ok:Wok b W cel)(c:W.H p=MN)(r:CellOk b W.F (upd W.H p o) p d) :
  Lx W {W.F,upd W.H p o,W.C}/\Wok b {W.F,upd W.H p o,W.C} cel/\Rev b W {W.F,upd W.H p o,W.C} (.ref p) (.new d):=by
 have k:∀a u,W.H a=KE u->upd W.H p o a=KE u:=λa u e=>(by rw[bc (b7 e c)];show e);have Fn:W.F p=MN:=by
  cases q:W.F p with
  |none=>rfl
  |some u=>have:=ok.sub _ _ q;rw[c]at this;cases this
 have s:∀j,W.C j≠KE p:=λj e=>by
  obtain⟨d',q⟩:_:=ok.live j p e;obtain⟨a,f,i,g⟩:_:=ok.cell j d' q;rw[e]at f;cases f;obtain⟨u,l⟩:_:=g.has;rw[c]at l;cases l
 show{{{λ_ _ z=>z,λa u e _=>k a u e,λ_ z n=>MY z n,λ_ _ z=>.inl z,λa z=>?_},λ_ _ z=>z},{λa u z=>k a u (ok.sub a u z),λj d' w=>?_,ok.live,ok.dist},p,rfl,c,Fn,s,r}
 ·cases q:W.H a with
  |none=>rfl
  |some u=>have:=k a u q;rw[show upd W.H p o a=MN from z]at this;cases this
 ·obtain⟨a,f,i,g⟩:_:=ok.cell j d' w;show{a,f,i,g.mono (λ_ _ z=>z) λu e=>k a u e}
def G9 (ok:Wok b W cel)(c:W.H p=MN)(r:Rp b (upd W.F p o) (.ref p) d) :
  Lx W {upd W.F p o,upd W.H p o,W.C}/\Wok b {upd W.F p o,upd W.H p o,W.C} cel/\Rev b W {upd W.F p o,upd W.H p o,W.C} (.ref p) (.val d):=by
 have k:∀a u,W.H a=KE u->upd W.H p o a=KE u:=λa u e=>(by rw[bc (b7 e c)];show e);have Fn:W.F p=MN:=by
  cases q:W.F p with
  |none=>rfl
  |some u=>have:=ok.sub _ _ q;rw[c]at this;cases this
 have g:Same W.F (upd W.F p o):=λa u e=>(by rw[bc (b7 e Fn)];show e);have i:∀{a},a≠p->upd W.F p o a=W.F a:=λn=>bc n;show{{{g,λa u e _=>k a u e,λa z n=>?_,λ_ _ z=>.inl z,λa z=>?_},λ_ _ z=>z},{λa u z=>?_,λj d' s=>?_,ok.live,ok.dist},r};{by_cases q:a=p;{subst q;show .inl c};{show MY z (by rw[<-i q];show n)}}
 ·cases q:W.H a with
  |none=>rfl
  |some u=>have:=k a u q;rw[show upd W.H p o a=MN from z]at this;cases this
 {have f:upd W.F p o a=KE u:=z;change upd W.H p o a=KE u;by_cases q:a=p;{subst q;rw[bh]at f ⊢;show f};{rw[bc q]at f ⊢;show ok.sub a u f}};{obtain⟨a,w,y,l⟩:_:=ok.cell j d' s;obtain⟨u,A⟩:_:=l.has;show{a,w,by change upd W.F p o a=MN;rw[i (b7 A c)];show y,l.mono g λu e=>k a u e}}
open Classical in
noncomputable def kz (F H:Hp):Hp:=λa=>if (∃o,H a=KE o/\imm o)then H a else F a
def afk (ok:Wok b W cel):Lx W {kz W.F W.H,W.H,W.C}/\Wok b {kz W.F W.H,W.H,W.C} cel/\Same W.F (kz W.F W.H):=by
 have g:Same W.F (kz W.F W.H):=λa u e=>by
  unfold kz
  split;{show ok.sub a u e};{show e}
 show{{{g,λ_ _ h _=>h,λa z n=>?_,λ_ _ z=>.inl z,λ_ z=>z},λ_ _ z=>z},{λa u z=>?_,λj d' p=>?_,ok.live,ok.dist},g}
 ·have i:kz W.F W.H a≠MN:=n;unfold kz at i
  split at i;{rename_i c;show .inr (.inr c)};{show MY z i}
 ·have f:kz W.F W.H a=KE u:=z;unfold kz at f
  split at f;{show f};{show ok.sub a u f}
 ·obtain⟨a,q,r,l⟩:=ok.cell j d' p;show{a,q,?_,l.mono g λ_ e=>e};change kz W.F W.H a=MN;unfold kz;rw[MV (λs=>by obtain⟨o,z,w⟩:=s;show l.nimm o z w)];show r
def Mq (h:SqT K H a xs):SqT K (kz F H) a xs:=by
 rcases h with(h | ⟨o,h⟩) | h;{show .inl (.inl (by unfold kz;rw[MU {_,h,trivial}];show h))};{show .inl (.inr {o,by unfold kz;rw[MU {_,h,trivial}];show h})};{show .inr h}
def Rel.lift (f:Rel b W m σ)(l:Lx W W')(e:∀j,W'.C j=W.C j)(ok:Wok b W' m.cel):Rel b W' m σ:=⟨ok,λi w hw=>by
  obtain⟨y,n,g⟩:_:=f.loc i w hw;show{y,n,?_};cases w with
  |v d'=>show Rp.mono l.same g
  |c j=>obtain⟨a,o,p⟩:_:=g;show{a,o,by rw[e];show p},f.len⟩
end
section
variable {X:Cx}
def aa (i:Nat):GE:=λm Q=>match m.loc[i]? with
 |some (KE (.v d))=>Q (.val d) m
 |some (KE (.c j))=>Q (.cel j) m
 |_=>False
def ajk (g:X.N[i]?=KE x)(l:Vis X.e.scope x)(hd:↑((x == ("__debug__":Str))=MP))(n:↑((x == ("__classdict__":Str))=MP)):VE X (.Name x o) (aa i):=⟨PE.sub (um g l hd n) λz H Q p=>je p λW m R r b h q=>by
    subst r;change (match m.loc[i]? with | some (KE (.v d))=>R (.val d) m | some (KE (.c j))=>R (.cel j) m | _=>False)at h
    rcases e:m.loc[i]? with _ | _ | w
    · rw[e]at h;show h.elim
    · rw[e]at h;show h.elim
    · rw[e]at h;obtain⟨y,s,f⟩:=b.loc i w e;show{y,s,?_};cases w with
      |v d=>show q _ m W y h (Lx.refl W) b f
      |c j=>
        obtain⟨a,rfl,u⟩:=f;show q _ m W _ h (Lx.refl W) b {a,rfl,λA e=>by rw[u]at e;cases e;rfl}⟩
def gC (d:Tr):GE:=λm Q=>Q (.val d) m
def Fg (h:∀F,Rp b F v d):∀a H Q,lf b (gC d) a H Q->tC v a H Q:=λa H Q ⟨W,m,R,c,e,f,q⟩=>by
 subst c;show q _ m W v f (Lx.refl W) e (h W.F)
def ah:VE X (.Constant (.int i) j a) (gC (.v (.int i))):=#v[PE.sub Ls (Fg λ_=>.v rfl)]
def ua:VE X (.Constant (.bool c) j a) (gC (.v (.bl c))):=#v[PE.sub pe_bl (Fg λ_=>.v rfl)]
def cu:VE X (.Constant (.str x) j a) (gC (.v (.str x))):=#v[PE.sub ahj (Fg λ_=>.v rfl)]
def afl (a:Gl X x)(b:X.mg x=KE u)(r:RelV v u)(h:∀F,Rp X.B F v d)(hd:↑((x == ("__debug__":Str))=MP)):VE X (.Name x c) (gC d):=#v[PE.sub (adq a b r hd) (Fg h)]
abbrev G2:=Tr->Tr->(Ev->Prop)->Prop
def gOp (r:G2)(fa b:GE):GE:=λm Q=>fa m λc d=>b d λe a=>lk a c λx=>lk a e λy=>r x y λf=>Q f a
structure After (b:B)(W:Wd)(cel:DJ)(W':Wd):Prop where
 lx:Lx W W'
 cs:∀j,W'.C j=W.C j
 ok:Wok b W' cel
def rG (b:B)(r:G2):R2:=λx y H Q=>∃W cel c d R,W.H=H/\Wok b W cel/\Top b W x c/\Top b W y d/\r c d R/\∀e a z,R e->After b W cel a->Rev b W a z e->Q z a.H
def OpG (X:Cx)(f:aK->aK->Sem aK)(r:G2):Prop:=OpR X f (rG X.B r)
theorem After.refl (ok:Wok b W cel):After b W cel W:={Lx.refl W,λ_=>rfl,ok}
def yc (h:lf b (gOp r fa f) d H Q):lf b fa d H λx g=>lf b f d g λy i=>rG b r x y i Q:=by
 obtain⟨W,m,R,j,l,h,q⟩:=h;show{W,m,_,j,l,h,λT n o x p l1 s u=>{o,n,_,rfl,s,p,λU e W2 y w l2 a A=>?_}};obtain⟨C,D,E⟩:=gu a.ok (u.mono l2) w;obtain⟨G,ty,I⟩:=gu a.ok A E;show{W2,e.cel,C,G,_,rfl,a.ok,D,ty,I,λJ L z N c O=>q J e L z N (l1.trans (l2.trans c.lx)) (a.lift c.lx c.cs c.ok) (O.old (l1.trans l2).toLe)}
def ao (c:OpG X (eC op) r)(d:VE X a fa)(e:VE X b f):VE X (.BinOp a op b g) (gOp r fa f):=#v[PE.sub (pe_op c d.out e.out) λ_ _ _ h=>yc h]
def yd (c:OpG X (eE op) r)(d:VE X a fa)(e:VE X b f)(g:↥(qH op b=MP)):VE X (.Compare a [op] [b] i) (gOp r fa f):=#v[PE.sub (aea c d.out e.out g) λ_ _ _ h=>yc h]
def gT (f:GE):GT:=λm Q=>f m λa b=>match a with
 | .val (.v (.bl c))=>Q c b
 |_=>False
def Si (h:lfT b (gT f) c H Q):lf b f c H λx H'=>∃k,x=.bl k/\Q k H':=by
 obtain⟨W,m,R,d,e,h,q⟩:=h;show{W,m,_,d,e,h,λn g i x a l1 j l=>?_}
 split at a;{obtain⟨rfl,_⟩:=Rp.vI l;show{_,rfl,q _ g i a l1 j}};{show a.elim}
def bj (ho:OpG X (eE op) r)(ha:VE X a fa)(hb:VE X b fb)(hm:↥(qH op b=MP)):VT X (.Compare a [op] [b] pos) (gT (gOp r fa fb)):=#v[PT.sub (aeb ho ha.out hb.out hm) λσ H Q h=>op_lift (Si h)]
where op_lift {b:B}{r:G2}{fa fb:GE}{σ:St}{H:Hp}{Q:VK}(h:lf b (gOp r fa fb) σ H Q):tOp (rG b r) (lf b fa) (lf b fb) σ H Q:=yc h
def yy (f:GT):GT:=λm Q=>f m λc a=>Q (!c) a
def Az (f g:GT):GT:=λm Q=>f m λc a=>if c=MO then g a Q else Q MP a
def gOr (f g:GT):GT:=λm Q=>f m λc a=>if c=MO then Q MO a else g a Q
def Mr (h:VT X a f):VT X (.UnaryOp .Not a b) (yy f):=#v[PT.sub (ahm h.out) λo H Q d=>acy d λW m R e g h q=>{W,m,_,e,g,h,λc i j l l1 n=>q _ i j l l1 n}]
def p9 (h:VT X a f):VW X (.BoolOp op [a] b) f:=by
 show#v[?_];cases op;{show adt h.out};{show ahk h.out}
def aaq (h:lfT b (Az f g) a H Q):lfT b f a H λc d=>if c=MO then lfT b g a d Q else Q MP d:=by
 obtain⟨W,m,R,n,o,h,q⟩:=h;show{W,m,_,n,o,h,λc e i j l1 l=>?_};cases c with
 |true=>show{i,e,_,rfl,l,j,λc p W2 r l2 s=>q c p W2 r (l1.trans l2) s}
 |false=>show q _ e i j l1 l
def afm (h:lfT b (gOr f g) a H Q):lfT b f a H λc d=>if c=MO then Q MO d else lfT b g a d Q:=by
 obtain⟨W,m,R,n,o,h,q⟩:=h;show{W,m,_,n,o,h,λc e i j l1 l=>?_};cases c with
 |false=>show{i,e,_,rfl,l,j,λc p W2 r l2 s=>q c p W2 r (l1.trans l2) s}
 |true=>show q _ e i j l1 l
def ye {rest:BW}(d:VT X a f)(e:VW X (.BoolOp .And (b::rest) c) g):VW X (.BoolOp .And (a::b::rest) c) (Az f g):=#v[PW.sub (ahl d.out e.out) λ_ _ _ h=>aaq h]
def Lj {rest:BW}(d:VT X a f)(e:VW X (.BoolOp .Or (b::rest) c) g):VW X (.BoolOp .Or (a::b::rest) c) (gOr f g):=#v[PW.sub (pw_or d.out e.out) λ_ _ _ h=>afm h]
def yz (h:VW X e f):VT X e f:=#v[h.out.pt]
def acz (fa b:GE):GE:=λm Q=>gT fa m λc a=>if c=MO then b a Q else Q (.val (.v (.bl MP))) a
def ajl (h:VE X a fa):VE X (.BoolOp op [a] b) fa:=#v[ahn h.out]
def ajm {rest:BW}(n:VE X a fa)(o:VE X (.BoolOp .And (b::rest) d) e):VE X (.BoolOp .And (a::b::rest) d) (acz fa e):=⟨PE.sub (aho n.out o.out) λp H Q r=>je r λW m R s u h q=>by
  show Si (Q:=λc f=>if c=MO then lf _ e p f Q else Q (.bl MP) f) {W,m,_,s,u,h,λc g i j l1 l=>?_}
  cases c with
  |true=>show{i,g,_,rfl,l,j,λw y W2 x z l2 A C=>q w y W2 x z (l1.trans l2) A (C.old l1.toLe)}
  |false=>show q _ g i _ j l1 l (Rp.v rfl)⟩
def gIf (t:GT)(fa b:GE):GE:=λm Q=>t m λc a=>if c=MO then fa a Q else b a Q
def Lk (p:VT X c t)(r:VE X a fa)(s:VE X b u):VE X (.IfExp c a b w) (gIf t fa u):=⟨PE.sub (Ze p.out r.out s.out) λC H Q y=>je y λW m R z A h q=>by
  show{W,m,_,z,A,h,λc j l n l1 o=>?_};cases c with
  |true=>show{l,j,_,rfl,o,n,λd e W2 x f l2 g i=>q d e W2 x f (l1.trans l2) g (i.old l1.toLe)}
  |false=>show{l,j,_,rfl,o,n,λd e W2 x f l2 g i=>q d e W2 x f (l1.trans l2) g (i.old l1.toLe)}⟩
def truG:Tr->(Bool->Prop)->Prop
 | .v .non,Q=>Q MP
 | .v (.bl c),Q=>Q c
 | .v (.int i),Q=>Q (i != 0)
 | .tup l,Q=>Q (!l.isEmpty)
 | .lst l,Q=>Q (!l.isEmpty)
 |_,_=>False
def i7 (f:GE):GT:=λm Q=>f m λb a=>lk a b λd=>truG d λc=>Q c a
theorem Top.tup {b:B}{W:Wd}{x:V}{l:DQ}(h:Top b W x (.tup l))(e:Same W.F W.H):∃a xs,x=.ref a/\SqT b.K W.H a xs/\Rps b W.F xs l:=by
 obtain⟨a,xs,rfl,c,d⟩:=Rp.tupI h;show{a,xs,rfl,c.same e,d}
theorem Top.v {b:B}{W:Wd}{x y:V}(h:Top b W x (.v y)):x=y:=(Rp.vI h).1
def C2 {a b:Type}{xs:List a}{l:List b}(h:xs.length=l.length):xs.isEmpty=l.isEmpty:=by
 cases xs<;>cases l<;>first | rfl | simp at h
def afn {Q:Bool->Prop}(e:Same W.F W.H)(h:Top b W x d)(q:truG d Q):∃k,Zl b.K x W.H k/\Q k:=by
 unfold truG at q
 split at q;{cases h.v;show{_,rfl,q}};{cases h.v;show{_,rfl,q}};{cases h.v;show{_,rfl,q}};{obtain⟨a,xs,rfl,c,f⟩:=h.tup e;show{_,.inr (.inl {xs,c,by rw[C2 f.length]}),q}};{obtain⟨a,xs,rfl,c,f⟩:=h;show{_,.inl {xs,SqL.of c,by rw[C2 f.length]},q}};{show q.elim}
def ib (e:VE X a f)(g:autoParam (∀c,uA a X.e c=(do let v <-c;mX a.pos;iV [v] (truthy v))) XW._auto_1):VT X a (i7 f):=⟨PT.sub (Zm e.out g) λz H Q i=>acy i λW m R j l h q=>⟨W,m,_,j,l,h,λA n o x p l1 b r=>by
    obtain⟨d,s,u⟩:=gu b.ok r p;obtain⟨k,w,y⟩:=afn b.ok.sub s u;show{k,w,q k n o y l1 b}⟩⟩
def gaN:GA:=λm Q=>Q [] m
def gaE (f:GE)(r:GA):GA:=λm Q=>f m λa b=>r b λc d=>Q (a::c) d
def gaV (f:GE)(r:GA):GA:=λm Q=>f m λa b=>fz b a λd c=>r c λe g=>Q (.val d::e) g
def ae:VA X [] gaN:=#v[PA.sub Lz λd H Q a=>Uj a λW m R b c h q=>by subst b;show q [] m W [] h (Lx.refl W) c .nil]
def b9 (b:VE X e f)(c:VA X a r)(hs:↥(aM (e::a) X.e=(MP,eval e X.e)::aM a X.e)):VA X (e::a) (gaE f r):=⟨PA.sub (xy b.out c.out hs) λA H Q d=>Uj d λW m R g i h q=>⟨W,m,_,g,i,h,λC j l x n l1 o p=>⟨l,j,_,rfl,o,n,λD s W2 xs u l2 w y=>
    q _ s W2 _ u (l1.trans l2) w (.cons (p.mono l2) (Paired.mapP y λ_ _ z=>z.old l1.toLe))⟩⟩⟩
def ag (b:VE X e f)(c:VA X a r)(hs:↥(aM (e::a) X.e=(MP,eval e X.e)::aM a X.e)):VA X (e::a) (gaV f r):=⟨PA.sub (xy b.out c.out hs) λI H Q g=>Uj g λW m R i j h q=>⟨W,m,_,i,j,h,λJ L N x l l1 n o=>by
    obtain⟨d,p,W2,s,l2,u,w,y⟩:=nr l1 n o l;show{W2,p,_,u,w,s,λO A C xs D l3 E G=>q _ A C _ D (l2.trans l3) E (.cons (Rp.mono l3.same y) (Paired.mapP G λ_ _ z=>z.old l2.toLe))}⟩⟩
def xi:List Ev->(DQ->Prop)->Prop
 | [],Q=>Q []
 | .val d::r,Q=>xi r λds=>Q (d::ds)
 |_::_,_=>False
theorem qt:∀{a xs Q},Paired (Rev b O W) xs a->xi a Q->∃ds,Rps b W.F xs ds/\Q ds
 |_,_,_,.nil,h=>{[],.nil,h}
 | .val d::_,_::_,_,.cons h t,q=>by
  obtain⟨ds,r,q⟩:=qt t q;show{d::ds,.cons h r,q}
 | .new _::_,_,_,_,q=>q.elim
 | .cel _::_,_,_,_,q=>q.elim
def big (n:Nat)(h:n<=1000000):n<=sizeLine:=aX h #v[]
def gTup (r:GA):GE:=λm Q=>r m λa b=>xi a λds=>ds.length<=1000000/\Q (.val (.tup ds)) b
def gLst (r:GA):GE:=λm Q=>r m λa b=>xi a λds=>ds.length<=1000000/\Q (.new (.lst ds)) b
def bw (h:VA X j r):VE X (.Tuple j k l) (gTup r):=⟨PE.sub (aii h.out) λG H Q n=>je n λW m R s w h q=>⟨W,m,_,s,w,h,λI x f xs y l1 b A=>by
  obtain⟨ds,g,z,C⟩:=qt A y;show{by rw[g.length];show big _ z,λp i=>?_};have fn:f.F p=MN:=by
    cases c:f.F p with
    |none=>rfl
    |some u=>have:=b.ok.sub _ _ c;rw[i]at this;cases this
  obtain⟨l2,D,E⟩:=G9 (d:=.tup ds) (o:=.tup xs) b.ok i (.tup (SqT.of bh) (g.mono λa u e=>by rw[bc (b7 e fn)];show e));show q _ x _ _ C (l1.trans l2) (b.lift l2 (λ_=>rfl) D) E⟩⟩
def ax (h:VA X c r):VE X (.List c e) (gLst r):=⟨PE.sub (aij h.out) λy H Q f=>je f λW m R g i h q=>⟨W,m,_,g,i,h,λA j C xs l l1 a n=>by
  obtain⟨ds,b,z,s⟩:=qt n l;show{by rw[b.length];show big _ z,λp u=>?_};obtain⟨l2,w,x⟩:=o6 (d:=.lst ds) (o:=.lst xs) a.ok u #v[xs,bh,b];show q _ j _ _ s (l1.trans l2) (a.lift l2 (λ_=>rfl) w) (x.old l1.toLe)⟩⟩
def m8 {a:Type}(o:Option a)(Q:a->Prop):Prop:=match o with
 |some x=>Q x
 |none=>False
def i8 {a:Type}{o:Option a}{Q:a->Prop}(h:m8 o Q):∃x,o=KE x/\Q x:=by
 cases o with
 |some x=>show#v[x,rfl,h]
 |none=>show h.elim
def bf {a:Type}{o:Option a}{Q:a->Prop}{x:a}(e:o=KE x)(h:Q x):m8 o Q:=by subst e;show h
def ixG:G2
 | .lst l,.v (.int i),R=>m8 (atI l i) λd=>R (.val d)
 | .scr l,.v (.int i),R=>m8 (atI l i) λd=>R (.val d)
 | .tup l,.v (.int i),R=>m8 (atI l i) λd=>R (.val d)
 | .v (.str z),.v (.int i),R=>z.length<=1000000/\m8 (atI z.cps.toList i) λc=>R (.val (.v (.str #v[#[c]])))
 |_,_,_=>False
theorem Rps.atI {b:B}{F:Hp}{xs:DK}{l:DQ}{i:Int}{d:Tr}(r:Rps b F xs l)(h:L2.atI l i=KE d):∃x,L2.atI xs i=KE x/\Rp b F x d:=by
 unfold L2.atI at h ⊢;rw[r.length];cases q:ixN l.length i with
 |none=>rw[q]at h;cases h
 |some j=>rw[q]at h;show r.get h
def ada:IxR X (rG X.B ixG):=by
 intro value slice j s l H x y v u Q I m n h hs;obtain⟨W,cel,p,r,R,rfl,ok,o,ty,h,q⟩:=h;unfold ixG at h
 split at h;{obtain⟨a,xs,rfl,b,f⟩:=o;cases ty.v;obtain⟨d,e,h⟩:=i8 h;obtain⟨z,g,i⟩:=f.atI e;show G5 value slice j s l W.H _ _ v u Q I m n {a,xs,_,z,rfl,rfl,SqL.of b,g,q _ W z h (After.refl ok) i} hs};{obtain⟨a,xs,rfl,b,f⟩:=Rp.scrI o;cases ty.v;obtain⟨d,e,h⟩:=i8 h;obtain⟨z,g,i⟩:=f.atI e;show G5 value slice j s l W.H _ _ v u Q I m n {a,xs,_,z,rfl,rfl,yx b ok.sub,g,q _ W z h (After.refl ok) i} hs};{obtain⟨a,xs,rfl,b,f⟩:=o.tup ok.sub;cases ty.v;obtain⟨d,e,h⟩:=i8 h;obtain⟨z,g,i⟩:=f.atI e;show ain value slice j s l W.H _ _ v u Q I m n {a,xs,_,z,rfl,rfl,b,g,q _ W z h (After.refl ok) i} hs};{cases o.v;cases ty.v;obtain⟨hz,h⟩:=h;obtain⟨c,e,h⟩:=i8 h;show aio value slice j s l W.H _ _ v u Q I m n {_,_,c,rfl,rfl,big _ hz,e,q _ W _ h (After.refl ok) (Rp.v rfl)} hs};{show h.elim}
def aq (c:VE X a fa)(d:VE X b e)(hs:autoParam (G4 b) KJ._auto_1):VE X (.Subscript a b f) (gOp ixG fa e):=#v[PE.sub (T3 ada c.out d.out hs) λ_ _ _ h=>yc h]
abbrev GO:=M->(AK->M->Prop)->Prop
def lfO (b:B)(f:GO):TO:=λc H Q=>∃W m R,W.H=H/\Rel b W m c/\f m R/\∀o d a,R o d->Lx W a->Rel b a d c->Q o a.H
structure VO (X:Cx)(e:Option MS)(f:GO):Prop where
 out:PO X e (lfO X.B f)
def goN:GO:=λm Q=>Q MN m
def goS (f:GE):GO:=λm Q=>f m λa b=>match a with
 | .val (.v (.int i))=>Q (KE i) b
 |_=>False
def dz:VO X MN goN:=#v[λa s b H Q I ⟨W,m,R,c,d,h,q⟩=>by subst c;show aei a s b W.H Q I (q MN m W h (Lx.refl W) d)]
def dj (b:VE X e f):VO X (KE e) (goS f):=⟨λc s d H Q I ⟨W,m,R,g,i,h,q⟩=>aej b.out c s d H Q I ⟨W,m,_,g,i,h,λp j l x a l1 n o=>by
  split at a
  · cases(Rp.vI o).1;show{_,rfl,q _ j l a l1 n}
  · show a.elim⟩⟩
def slG (d:Tr)(lo hi:AK)(R:Ev->Prop):Prop:=match d with
 | .lst l=>R (.new (.lst (bu l lo hi)))
 | .scr l=>R (.new (.lst (bu l lo hi)))
 | .tup l=>R (.val (.tup (bu l lo hi)))
 | .v (.str z)=>z.length<=1000000/\R (.val (.v (.str (qC z lo hi))))
 |_=>False
def gSl (fa:GE)(b c:GO):GE:=λm Q=>fa m λd e=>b e λlo f=>c f λhi a=>lk a d λx=>slG x lo hi λg=>Q g a
def rSl (b:B):V->AK->AK->Hp->VK->Prop:=λx lo hi H Q=>∃W cel c R,W.H=H/\Wok b W cel/\Top b W x c/\slG c lo hi R/\∀d a z,R d->After b W cel a->Rev b W a z d->Q z a.H
def Rps.cut {b:B}{F:Hp}{xs:DK}{l:DQ}(r:Rps b F xs l)(lo hi:AK):Rps b F (xf xs lo hi) (bu l lo hi):=by
 unfold xf bu;rw[r.length];show(r.drop _).take _
def Wok.Fn (ok:Wok b W cel)(a:W.H p=MN):W.F p=MN:=by
 cases c:W.F p with
 |none=>rfl
 |some u=>have:=ok.sub _ _ c;rw[a]at this;cases this
def Wok.sameU (ok:Wok b W cel)(c:W.H p=MN):Same W.F (upd W.F p o):=λa u e=>by rw[bc (b7 e (ok.Fn c))];show e
def uf {b:B}{W:Wd}{cel:DJ}{R:Ev->Prop}{Q:VK}{xs:DK}{l:DQ}(ok:Wok b W cel)(q:∀c a z,R c->After b W cel a->Rev b W a z c->Q z a.H)(h:R (.new (.lst l)))(r:Rps b W.F xs l) :
  ∀p,W.H p=MN->Q (.ref p) (upd W.H p (.lst xs)):=λp e=>by
 obtain⟨l2,f,g⟩:=o6 (d:=.lst l) (o:=.lst xs) ok e #v[xs,bh,r];show q _ _ _ h {l2,λ_=>rfl,f} g
def Bz {b:B}{W:Wd}{cel:DJ}{R:Ev->Prop}{Q:VK}{xs:DK}{l:DQ}(ok:Wok b W cel)(q:∀c a z,R c->After b W cel a->Rev b W a z c->Q z a.H)(h:R (.val (.tup l)))(r:Rps b W.F xs l) :
  ∀p,W.H p=MN->Q (.ref p) (upd W.H p (.tup xs)):=λp e=>by
 obtain⟨l2,f,g⟩:=G9 (d:=.tup l) (o:=.tup xs) ok e (.tup (SqT.of bh) (r.mono (ok.sameU e)));show q _ _ _ h {l2,λ_=>rfl,f} g
def sl_ok:SlR X (rSl X.B):=by
 intro f s g H x v i j lo hi l Q I m hs pl n h;obtain⟨W,cel,u,R,rfl,ok,o,h,q⟩:=h;unfold slG at h
 split at h;{obtain⟨a,xs,rfl,b,d⟩:=o;show R8 f s g W.H _ v i j lo hi l Q I m hs pl n {a,xs,rfl,SqL.of b,uf ok q h (d.cut lo hi)}};{obtain⟨a,xs,rfl,b,d⟩:=Rp.scrI o;show R8 f s g W.H _ v i j lo hi l Q I m hs pl n {a,xs,rfl,yx b ok.sub,uf ok q h (d.cut lo hi)}};{obtain⟨a,xs,rfl,b,d⟩:=o.tup ok.sub;by_cases c:Xe xs lo hi;{show afd f s g W.H _ v i j lo hi l Q I m hs pl n {a,xs,rfl,b,c,q _ W _ h (After.refl ok) ?_};obtain⟨w,ys,e,p,y⟩:=Rp.tupI o;cases e;have r:xs=ys:=I.tuple_inj b (p.same ok.sub);subst r;have z:=d.cut lo hi;rw[show xf xs lo hi=xs by unfold xf;rw[c.1,c.2,sJ,rL,dE]]at z;show Rp.tup p z};{show ail f s g W.H _ v i j lo hi l Q I m hs pl n {a,xs,rfl,b,c,Bz ok q h (d.cut lo hi)}}}
 {cases o.v;obtain⟨hz,h⟩:=h;show aiw f s g W.H _ v i j lo hi l Q I m hs pl n {_,rfl,big _ hz,q _ W _ h (After.refl ok) (Rp.v rfl)}};{show h.elim}
def gj (e:VE X a fa)(f:VO X lo g)(i:VO X hi j):VE X (.Subscript a (.Slice lo hi MN Y) l) (gSl fa g j):=⟨PE.sub (Zw sl_ok e.out f.out i.out) λσ H Q n=>je n λW m R o p h q=>⟨W,m,_,o,p,h,λea r s x u l1 w y=>⟨s,r,_,rfl,w,u,λlo A W2 C l2 D=>⟨W2,A,_,rfl,D,C,λhi d E G l3 c=>by
    obtain⟨I,J,L⟩:=gu c.ok (y.mono (l2.trans l3)) G;show{E,d.cel,I,_,rfl,c.ok,J,L,λN O z T b U=>q N d O z T (l1.trans (l2.trans (l3.trans b.lx))) (c.lift b.lx b.cs b.ok) (U.old (l1.trans (l2.trans l3)).toLe)}⟩⟩⟩⟩
end
open PySem.SeqAt
section
variable {X:Cx}
def fq (C:Int->Int->Prop)(g:Int->Int->V):G2
 | .v (.int i),.v (.int j),R=>C i j/\R (.val (.v (g i j)))
 |_,_,_=>False
def dg (g:Int->Int->V):G2
 | .v (.int i),.v (.int j),R=>R (.val (.v (g i j)))
 |_,_,_=>False
def Fh (h:OpR X f (rI C g))(a:∀i j,pf (g i j)=MO):OpG X f (fq C g):=by
 intro b s c H x y v u Q I d e h';obtain⟨W,cel,m,n,R,rfl,ok,l,ty,h',q⟩:=h';unfold fq at h'
 split at h';{cases l.v;cases ty.v;show h b s c W.H _ _ v u Q I d e {_,_,rfl,rfl,h'.1,q _ W _ h'.2 (After.refl ok) (Rp.v (a _ _))}};{show h'.elim}
def ug (h:OpR X f (rI0 g))(a:∀i j,pf (g i j)=MO):OpG X f (dg g):=by
 intro b s c H x y v u Q I d e h';obtain⟨W,cel,m,n,R,rfl,ok,l,ty,h',q⟩:=h';unfold dg at h'
 split at h';{cases l.v;cases ty.v;show h b s c W.H _ _ v u Q I d e {_,_,rfl,rfl,q _ W _ h' (After.refl ok) (Rp.v (a _ _))}};{show h'.elim}
def A0:OpG X (eC .Sub) (dg λi j=>.int (i - j)):=ug ahw λ_ _=>rfl
def lq:OpG X (eC .Mod) (fq (λ_ j=>0 < j) λi j=>.int (i % j)):=Fh ahy λ_ _=>rfl
def Ha:OpG X (eC .FloorDiv) (fq Gy λi j=>.int (i / j)):=Fh adz λ_ _=>rfl
def A1:OpG X (eC .LShift) (fq C8 λi j=>.int (i * 2 ^ j.toNat)):=Fh ahz λ_ _=>rfl
def Xp:OpG X (eC .RShift) (fq (λ_ j=>0<=j) λi j=>.int (i / 2 ^ j.toNat)):=Fh aia λ_ _=>rfl
def Fi:OpG X (eC .BitAnd) (dg λi j=>.int (dP i j)):=ug aib λ_ _=>rfl
def Uk:OpG X (eC .BitOr) (dg λi j=>.int (dX i j)):=ug op_or λ_ _=>rfl
def B0:OpG X (eE .Lt) (dg λi j=>.bl (decide (i < j))):=ug op_lt λ_ _=>rfl
def B1:OpG X (eE .Gt) (dg λi j=>.bl (decide (j < i))):=ug op_gt λ_ _=>rfl
def og_ge:OpG X (eE .GtE) (dg λi j=>.bl (decide (j<=i))):=ug op_ge λ_ _=>rfl
def cb:G2
 | .v (.int i),.v (.int j),R=>R (.val (.v (.int (i+j))))
 | .v (.str i),.v (.str j),R=>i.length+j.length<=1000000/\R (.val (.v (.str (i++j))))
 | .tup l,.tup m,R=>l.length+m.length<=1000000/\R (.val (.tup (l++m)))
 | .lst l,.lst m,R=>l.length+m.length<=1000000/\R (.new (.lst (l++m)))
 |_,_,_=>False
def bp:OpG X (eC .Add) cb:=by
 intro g s i H x y v u Q I j l h;obtain⟨W,cel,p,r,R,rfl,ok,f,ty,h,q⟩:=h;unfold cb at h
 split at h;{cases f.v;cases ty.v;show ahv g s i W.H _ _ v u Q I j l {_,_,rfl,rfl,q _ W _ h (After.refl ok) (Rp.v rfl)}};{cases f.v;cases ty.v;show Tt g s i W.H _ _ v u Q I j l {_,_,rfl,rfl,big _ h.1,q _ W _ h.2 (After.refl ok) (Rp.v rfl)}};{obtain⟨a,xs,rfl,m,d⟩:=f.tup ok.sub;obtain⟨b,ys,rfl,n,e⟩:=ty.tup ok.sub;obtain⟨hz,h⟩:=h;have o:xs.length+ys.length<=sizeLine:=(by rw[d.length,e.length];show big _ hz);show Z5 g s i W.H _ _ v u Q I j l ?_;by_cases c:xs=[];{subst c;cases d;show .inr {a,b,ys,rfl,rfl,m,n,q _ W _ h (After.refl ok) ty}};{show .inl {a,b,xs,ys,rfl,rfl,m,n,c,o,λz=>?_,λ_=>Bz ok q h (d.append e)};subst z;cases e;rw[cE]at h;show q _ W _ h (After.refl ok) f}}
 {obtain⟨a,xs,rfl,m,d⟩:=f;obtain⟨b,ys,rfl,n,e⟩:=ty;show ais g s i W.H _ _ v u Q I j l {a,b,xs,ys,rfl,rfl,m,n,by rw[d.length,e.length];show big _ h.1,uf ok q h.2 (d.append e)}};{show h.elim}
def qu:G2
 | .v (.int i),.v (.int j),R=>CMul i j/\R (.val (.v (.int (i * j))))
 | .lst l,.v (.int k),R=>-1000000<=k/\k<=1000000/\l.length * k.toNat<=1000000/\R (.new (.lst (bC k.toNat l).flatten))
 |_,_,_=>False
theorem Rps.rep (r:Rps b F xs l):∀n,Rps b F (bC n xs).flatten (bC n l).flatten
 |0=>.nil
 |n+1=>by rw[fG,fG,iY,iY];show r.append (r.rep n)
def nh:OpG X (eC .Mult) qu:=by
 intro b s c H x y v u Q I d e h;obtain⟨W,cel,l,m,R,rfl,ok,f,ty,h,q⟩:=h;unfold qu at h
 split at h;{cases f.v;cases ty.v;show ahx b s c W.H _ _ v u Q I d e {_,_,rfl,rfl,h.1,q _ W _ h.2 (After.refl ok) (Rp.v rfl)}};{obtain⟨a,xs,rfl,i,g⟩:=f;cases ty.v;obtain⟨n,o,j,h⟩:=h;show ait b s c W.H _ _ v u Q I d e {a,_,xs,rfl,rfl,i,(),(),by rw[g.length];show big _ j,uf ok q h (g.rep _)}};{show h.elim}
def Ll:V->V->Bool
 | .int _,.int _=>MO
 | .str _,.str _=>MO
 | .bl _,.bl _=>MO
 | .non,.non=>MO
 | .non,.int _=>MO
 | .int _,.non=>MO
 | .non,.str _=>MO
 | .str _,.non=>MO
 |_,_=>MP
mutual
def g8:Nat->Tr->Tr->Bool
 |_,.v x,.v y=>Ll x y
 |n+1,.tup l,.tup m=>cmpL n l m
 |n+1,.lst l,.lst m=>cmpL n l m
 |_,_,_=>MP
def cmpL:Nat->DQ->DQ->Bool
 |n,a::l,b::m=>g8 n a b && cmpL n l m
 |_,_,_=>MO
end
theorem B2:∀{n:Nat}{l m:DQ}{j:Nat}{a b:Tr},cmpL n l m=MO->l[j]?=KE a->m[j]?=KE b->g8 n a b=MO
 |n,[],_,_,_,_,_,e,_=>by simp at e
 |n,_::_,[],_,_,_,_,_,e=>by simp at e
 |n,a::l,b::m,0,_,_,h,c,d=>by
  simp at c d;subst c d;rw[cmpL,cI]at h;show h.1
 |n,a::l,b::m,j+1,_,_,h,c,d=>by
  rw[cmpL,cI]at h;show B2 h.2 (⇑c) (⇑d)
def aas (h:Ll x y=MO):eqV x y=MO↔x=y:=by
 unfold Ll at h
 split at h<;>first | (cases h;done) | simp[eqV]
theorem Rps.paired {b:B}{F:Hp}:∀{xs:DK}{l:DQ},Rps b F xs l->Paired (Rp b F) xs l
 |_,_,.nil=>.nil
 |_,_,.cons h r=>.cons h r.paired
mutual
theorem Rp.inj (i:∀a xs ys,SqT b.K F a xs->SqT b.K F a ys->xs=ys)(j:∀a xs ys,SqL b.K F a xs->SqL b.K F a ys->xs=ys):∀{n x d e},g8 n d e=MO->Rp b F x d->Rp b F x e->d=e
 |_,_,.v _,.v _,_,f,g=>by rw[<-(Rp.vI f).1,<-(Rp.vI g).1]
 |n+1,_,.tup l,.tup m,c,f,g=>by
  obtain⟨a,xs,rfl,o,p⟩:=Rp.tupI f;obtain⟨s,ys,e,q,r⟩:=Rp.tupI g;cases e;have:=i _ _ _ o q;subst this;rw[Rps.inj i j (n:=n) (by simpa[g8]using c) p r]
 |n+1,_,.lst l,.lst m,c,f,g=>by
  obtain⟨a,xs,rfl,o,p⟩:=Rp.lstI f;obtain⟨s,ys,e,q,r⟩:=Rp.lstI g;cases e;have:=j _ _ _ (SqL.of o) (SqL.of q);subst this;rw[Rps.inj i j (n:=n) (by simpa[g8]using c) p r]
theorem Rps.inj (d:∀a xs ys,SqT b.K F a xs->SqT b.K F a ys->xs=ys)(e:∀a xs ys,SqL b.K F a xs->SqL b.K F a ys->xs=ys):∀{n xs l m},cmpL n l m=MO->Rps b F xs l->Rps b F xs m->l=m
 |_,_,_,_,_,.nil,.nil=>rfl
 |n,_,_::_,_::_,c,.cons f g,.cons i j=>by
  rw[cmpL,cI]at c;rw[Rp.inj d e c.1 f i,Rps.inj d e c.2 g j]
end
open Classical in
def Sj {C:BK}{D:St}{H:Hp}{s:aG}{A:bX}{d:Type}{R:V->d->Prop}(I:Inv X C D H s){a b:MQ}{xs ys:DK}{ks ls:List d}(E:SqL X.K H a xs)(G:SqL X.K H b ys)(g:Paired R xs ks)(i:Paired R ys ls)(m:A.units < cK)
  (J:∀(j:Nat)(k l:d),ks[j]?=KE k->ls[j]?=KE l->∀(x y:V)(u v:aK),R x k->R y l->RelV x u->RelV y v->EqAt A.in1 s u v (decide (k=l))):RcAt A s (.ref a) (.ref b) (decide (ks=ls)):=by
 obtain⟨its,n,o,_⟩:=I.list E;obtain⟨L,p,r,_⟩:=I.list G;have f:its.toArray.size=ks.length:=(by rw[aL,<-n.length,Paired.length g]);have w:L.toArray.size=ls.length:=(by rw[aL,<-p.length,Paired.length i]);by_cases c:ks.length=ls.length
 ·have q:=RcAt.lists (s:=s) (A:=A) o.isList r.isList (by rw[f,w,c]) m (so g i n p J);have e:(bA its.toArray.size).all (λj=>decide (ks[j]?=ls[j]?))=decide (ks=ls):=by
   rw[f,<-ur ks ls,c,rN];simp
  rw[e]at q;show q
 ·have q:=RcAt.lists_lengths (A:=A) (s:=s) o.isList r.isList (by rw[f,w];simpa using c) m;rw[MW (λz=>c (by rw[z]))];show q
open Classical in
def Xq {C:BK}{D:St}{H:Hp}{s:aG}{A:bX}{d:Type}{R:V->d->Prop}(I:Inv X C D H s){a b:MQ}{xs ys:DK}{ks ls:List d}(E:SqL X.K H a xs)(G:SqL X.K H b ys)(g:Paired R xs ks)(i:Paired R ys ls)(m:A.units < cK)
  (J:∀(j:Nat)(k l:d),ks[j]?=KE k->ls[j]?=KE l->∀(x y:V)(u v:aK),R x k->R y l->RelV x u->RelV y v->EqAt A.in1 s u v (decide (k=l))):RcNeAt A s (.ref a) (.ref b) (!decide (ks=ls)):=by
 obtain⟨its,n,o,_⟩:=I.list E;obtain⟨L,p,r,_⟩:=I.list G;have f:its.toArray.size=ks.length:=(by rw[aL,<-n.length,Paired.length g]);have w:L.toArray.size=ls.length:=(by rw[aL,<-p.length,Paired.length i]);by_cases c:ks.length=ls.length
 ·have q:=RcNeAt.lists (s:=s) (A:=A) o.isList r.isList (by rw[f,w,c]) m (so g i n p J);have e:(bA its.toArray.size).all (λj=>decide (ks[j]?=ls[j]?))=decide (ks=ls):=by
   rw[f,<-ur ks ls,c,rN];simp
  rw[e]at q;show q
 ·have q:=RcNeAt.lists_lengths (A:=A) (s:=s) o.isList r.isList (by rw[f,w];simpa using c) m;rw[MW (λz=>c (by rw[z]))];show q
open Classical in
def Xr {w:BK}{z:St}{H:Hp}{s:aG}{A:bX}{c:Type}{R:V->c->Prop}(I:Inv X w z H s){a b:MQ}{xs ys:DK}{ks ls:List c}(C:SqT X.K H a xs)(D:SqT X.K H b ys)(d:Paired R xs ks)(e:Paired R ys ls)(m:A.units < cK)
  (n:∀(j:Nat)(k l:c),ks[j]?=KE k->ls[j]?=KE l->∀(x y:V)(u v:aK),R x k->R y l->RelV x u->RelV y v->EqAt A.in1 s u v (decide (k=l))):RcAt A s (.ref a) (.ref b) (decide (ks=ls))/\RcNeAt A s (.ref a) (.ref b) (!decide (ks=ls)):=by
 obtain⟨its,f,o,_⟩:=I.tuple C;obtain⟨g,i,p,_⟩:=I.tuple D;have E:its.toArray.size=ks.length:=(by rw[aL,<-f.length,Paired.length d]);have G:g.toArray.size=ls.length:=(by rw[aL,<-i.length,Paired.length e]);have q:=RcAt.tuples (s:=s) (A:=A) (show s.heap.IsTuple a its.toArray from o) (show s.heap.IsTuple b g.toArray from p) m (so d e f i n);have r:=RcNeAt.tuples (s:=s) (A:=A) (show s.heap.IsTuple a its.toArray from o) (show s.heap.IsTuple b g.toArray from p) m (so d e f i n);rw[E,G,ur]at q r;show#v[q,r]
open Classical in
def Bv {f':BK}{σ:St}{H:Hp}{s:aG}(I:Inv X f' σ H s):∀(n:Nat) {d e:Tr}{x y:V}{u v:aK}{A:bX},g8 n d e=MO->A.units+n < cK->Rp X.B H x d->Rp X.B H y e->RelV x u->RelV y v->EqAt A s u v (decide (d=e)):=by
 intro n;have U:∀a xs ys,SqT X.B.K H a xs->SqT X.B.K H a ys->xs=ys:=λa xs ys=>I.tuple_inj;have J:∀a xs ys,SqL X.B.K H a xs->SqL X.B.K H a ys->xs=ys:=λa xs ys=>I.list_inj;have flat:∀{d e:V}{x y:V}{u v:aK}{A:bX},Ll d e=MO->Rp X.B H x (.v d)->Rp X.B H y (.v e)->RelV x u->RelV y v->EqAt A s u v (decide (Tr.v d=Tr.v e)):=λ{d e x y u v A} c g i b f=>by
  obtain⟨rfl,f1⟩:=Rp.vI g;obtain⟨rfl,f2⟩:=Rp.vI i;have z:=Wg (A:=A) (s:=s) b f f1 f2;have k:=aas c;have o:eqV x y=decide (Tr.v x=Tr.v y):=by
   by_cases w:x=y;{rw[k.mpr w,MX (by rw[w])]}
   ·have:eqV x y=MP:=by
     cases q:eqV x y with
     |false=>rfl
     |true=>show MY (k.mp q) w
    rw[this,MW (λz=>w (by injection z))]
  rw[o]at z;show z
 induction n with
 |zero=>
  intro d e x y u v A c hu g i b f;cases d with
  |v d=>
   cases e with
   |v e=>show flat (by simpa[g8]using c) g i b f
   |_=>simp[g8]at c
  |_=>simp[g8]at c
 |succ n Y=>
  intro d e x y u v A c hu g i b f;cases d with
  |v d=>
   cases e with
   |v e=>show flat (by simpa[g8]using c) g i b f
   |_=>simp[g8]at c
  |tup l=>
   cases e with
   |tup m=>
    obtain⟨a,xs,rfl,D,p⟩:=Rp.tupI g;obtain⟨E,ys,rfl,G,r⟩:=Rp.tupI i;cases(show u=.ref a from b);cases(show v=.ref E from f);have C:cmpL n l m=MO:=(by simpa[g8]using c);have z:=afj (A:=A) (R:=Rp X.B H) (ks:=l) (ls:=m) I (λz=>by subst z;show Rps.inj U J C p r) D G p.paired r.paired () λj k l' L N x y u v O T b f=>
     Y (A:=A.in1) (B2 C L N) (by rw[nW];lia) O T b f
    have o:decide (l=m)=decide (Tr.tup l=Tr.tup m):=(by rw[decide_eq_decide];show{λz=>by rw[z],λz=>by injection z});rw[o]at z;show z
   |_=>simp[g8]at c
  |lst l=>
   cases e with
   |lst m=>
    obtain⟨a,xs,rfl,D,p⟩:=Rp.lstI g;obtain⟨E,ys,rfl,G,r⟩:=Rp.lstI i;cases(show u=.ref a from b);cases(show v=.ref E from f);have C:cmpL n l m=MO:=(by simpa[g8]using c);have o:decide (l=m)=decide (Tr.lst l=Tr.lst m):=(by rw[decide_eq_decide];show{λz=>by rw[z],λz=>by injection z});rw[<-o];by_cases yV:a=E;{subst yV;have e4:=J _ _ _ (SqL.of D) (SqL.of G);subst e4;rw[MX (Rps.inj U J C p r)];show EqAt.same _}
    ·show EqAt.of_refs yV (Sj I (SqL.of D) (SqL.of G) p.paired r.paired () λj k l' L N x y u v O T b f=>
       Y (A:=A.in1) (B2 C L N) (by rw[nW];lia) O T b f)
   |_=>simp[g8]at c
  |_=>simp[g8]at c
def B3 {b:BK}{d:St}{H:Hp}{s:aG}(I:Inv X b d H s)(p:X.A.units+64 < cK){l m:DQ}(c:cmpL 39 l m=MO)(j:Nat)(k a:Tr)(e:l[j]?=KE k)(f:m[j]?=KE a)(x y:V)(u v:aK)
  (g:Rp X.B H x k) (i:Rp X.B H y a) (n:RelV x u) (o:RelV y v):EqAt X.A.in1 s u v (@decide (k=a) (kP _)):=Bv I 39 (A:=X.A.in1) (B2 c e f) (by rw[nW];lia) g i n o
def eqG (a:Bool):G2
 | .v x,.v y,R=>Zk x y=MO/\R (.val (.v (.bl (if a then !decide (x=y)else decide (x=y)))))
 | .tup l,.tup m,R=>cmpL 39 l m=MO/\∀c:Bool,(c=MO↔l=m)->R (.val (.v (.bl (if a then !c else c))))
 | .lst l,.lst m,R=>cmpL 39 l m=MO/\∀c:Bool,(c=MO↔l=m)->R (.val (.v (.bl (if a then !c else c))))
 |_,_,_=>False
open Classical in
def dw (i:X.A.units+64 < cK):OpG X (eE .Eq) (eqG MP):=by
 intro n s o H x y v u Q I b c h;obtain⟨W,cel,r,w,R,rfl,ok,j,ty,h,q⟩:=h;have l:=j.rp ok.sub;have m:=ty.rp ok.sub;unfold eqG at h
 split at h;{cases j.v;cases ty.v;show op_eq n s o W.H _ _ v u Q I b c {h.1,q _ W _ h.2 (After.refl ok) (Rp.v rfl)}};{obtain⟨a,xs,rfl,d,e⟩:=Rp.tupI l;obtain⟨p,ys,rfl,f,g⟩:=Rp.tupI m;cases b;cases c;show(Xr (A:=X.A) I d f e.paired g.paired () (B3 I i h.1)).1 _ _ _ _ {.bl _,W.H,I,rfl,q _ W _ (h.2 _ decide_eq_true_iff) (After.refl ok) (Rp.v rfl)}};{obtain⟨a,xs,rfl,d,e⟩:=Rp.lstI l;obtain⟨p,ys,rfl,f,g⟩:=Rp.lstI m;cases b;cases c;show Sj (A:=X.A) I (SqL.of d) (SqL.of f) e.paired g.paired () (B3 I i h.1) _ _ _ _ {.bl _,W.H,I,rfl,q _ W _ (h.2 _ decide_eq_true_iff) (After.refl ok) (Rp.v rfl)}};{show h.elim}
open Classical in
def Ul (i:X.A.units+64 < cK):OpG X (eE .NotEq) (eqG MO):=by
 intro n s o H x y v u Q I b c h;obtain⟨W,cel,r,w,R,rfl,ok,j,ty,h,q⟩:=h;have l:=j.rp ok.sub;have m:=ty.rp ok.sub;unfold eqG at h
 split at h;{cases j.v;cases ty.v;show op_ne n s o W.H _ _ v u Q I b c {h.1,q _ W _ h.2 (After.refl ok) (Rp.v rfl)}};{obtain⟨a,xs,rfl,d,e⟩:=Rp.tupI l;obtain⟨p,ys,rfl,f,g⟩:=Rp.tupI m;cases b;cases c;show(Xr (A:=X.A) I d f e.paired g.paired () (B3 I i h.1)).2 _ _ _ _ {.bl _,W.H,I,rfl,q _ W _ (h.2 _ decide_eq_true_iff) (After.refl ok) (Rp.v rfl)}};{obtain⟨a,xs,rfl,d,e⟩:=Rp.lstI l;obtain⟨p,ys,rfl,f,g⟩:=Rp.lstI m;cases b;cases c;show Xq (A:=X.A) I (SqL.of d) (SqL.of f) e.paired g.paired () (B3 I i h.1) _ _ _ _ {.bl _,W.H,I,rfl,q _ W _ (h.2 _ decide_eq_true_iff) (After.refl ok) (Rp.v rfl)}};{show h.elim}
def inL (a:Bool)(d:Tr)(l:DQ)(R:Ev->Prop):Prop:=(∀e∈l,g8 39 e d=MO)/\∀c:Bool,(c=MO↔d∈l)->R (.val (.v (.bl (if a then !c else c))))
def inG (a:Bool):G2
 |d,.lst l,R=>inL a d l R
 |d,.tup l,R=>inL a d l R
 |_,_,_=>False
open Classical in
noncomputable def isT (b:B)(H:Hp)(d:Tr)(u:aK):Bool:=decide (∃z,RelV z u/\Rp b H z d)
open Classical in
def Xs (I:Inv X g i H s)(c:g8 39 e d=MO)(r:RelV x u)(h:Rp X.B H x e):isT X.B H d u=decide (e=d):=by
 unfold isT;rw[decide_eq_decide];constructor;{intro b;obtain⟨z,f,hz⟩:=b;cases r.inj f;show Rp.inj (λa xs ys=>I.tuple_inj) (λa xs ys=>I.list_inj) c h hz};{intro b;subst b;show#v[x,r,h]}
open Classical in
theorem yf (I:Inv X f g H s):∀{xs l its},Rps X.B H xs l->Vals xs its->(∀e∈l,g8 39 e d=MO)->its.any (isT X.B H d)=decide (d∈l)
 |_,_,_,.nil,.nil,_=>by simp
 |_,_,_,.cons h t,.cons r rt,c=>by
  rw[jT,Xs I (c _ aP) r h,yf I t rt λe b=>c e (aT _ b)]
  rename_i e l _ _
  by_cases a:e=d;{simp[a]};{have:¬d=e:=λz=>a z.symm;simp[a,this]}
theorem A2 (I:Inv X i j H s)(f:A.units+40 < cK)(a:Rp X.B H y d)(b:RelV y v):∀{xs l its},Rps X.B H xs l->Vals xs its->(∀e∈l,g8 39 e d=MO)->∀u∈its,EqAt A s u v (isT X.B H d u)
 |_,_,_,.nil,.nil,_,_,h=>nomatch h
 |_,_,_,.cons h t,.cons r rt,c,u,AZ=>by
  rcases aY.mp AZ with rfl | AZ;{rw[Xs I (c _ aP) r h];show Bv I 39 (c _ aP) () h a r b};{show A2 I f a b t rt (λe g=>c e (aT _ g)) u AZ}
open Classical in
def Fj (l:X.A.units+64 < cK):OpG X (eE .In) (inG MP):=by
 intro m s n H x y v u Q I d e h;obtain⟨W,cel,b,o,R,rfl,ok,i,ty,h,q⟩:=h;have f:=i.rp ok.sub;have g:=ty.rp ok.sub;unfold inG at h
 split at h;{obtain⟨j,ys,rfl,c,a⟩:=Rp.lstI g;cases e;obtain⟨its,r,pl,hz⟩:=I.list (SqL.of c);show in_listAt (isT X.B W.H b) pl.isList (λw hw=>A2 I (by change X.A.units+1+40 < cK;lia) f d a r h.1 w (⇑hw)) {.bl _,W.H,I,rfl,?_};show q _ W _ (h.2 (its.toArray.any (isT X.B W.H b)) (by rw[oF,yf I a r h.1];show decide_eq_true_iff)) (After.refl ok) (Rp.v rfl)};{obtain⟨j,ys,rfl,c,a⟩:=Rp.tupI g;cases e;obtain⟨its,r,pl,hz⟩:=I.tuple c;show in_tupleAt (isT X.B W.H b) pl (λw hw=>A2 I (by change X.A.units+1+40 < cK;lia) f d a r h.1 w (⇑hw)) {.bl _,W.H,I,rfl,?_};show q _ W _ (h.2 (its.toArray.any (isT X.B W.H b)) (by rw[oF,yf I a r h.1];show decide_eq_true_iff)) (After.refl ok) (Rp.v rfl)};{show h.elim}
open Classical in
def Ms (l:X.A.units+64 < cK):OpG X (eE .NotIn) (inG MO):=by
 intro m s n H x y v u Q I d e h;obtain⟨W,cel,b,o,R,rfl,ok,i,ty,h,q⟩:=h;have f:=i.rp ok.sub;have g:=ty.rp ok.sub;unfold inG at h
 split at h;{obtain⟨j,ys,rfl,c,a⟩:=Rp.lstI g;cases e;obtain⟨its,r,pl,hz⟩:=I.list (SqL.of c);show notIn_listAt (isT X.B W.H b) pl.isList (λw hw=>A2 I (by change X.A.units+1+40 < cK;lia) f d a r h.1 w (⇑hw)) {.bl _,W.H,I,rfl,?_};show q _ W _ (h.2 (its.toArray.any (isT X.B W.H b)) (by rw[oF,yf I a r h.1];show decide_eq_true_iff)) (After.refl ok) (Rp.v rfl)};{obtain⟨j,ys,rfl,c,a⟩:=Rp.tupI g;cases e;obtain⟨its,r,pl,hz⟩:=I.tuple c;show notIn_tupleAt (isT X.B W.H b) pl (λw hw=>A2 I (by change X.A.units+1+40 < cK;lia) f d a r h.1 w (⇑hw)) {.bl _,W.H,I,rfl,?_};show q _ W _ (h.2 (its.toArray.any (isT X.B W.H b)) (by rw[oF,yf I a r h.1];show decide_eq_true_iff)) (After.refl ok) (Rp.v rfl)};{show h.elim}
def qb (f:GE):GE:=λm Q=>f m λa b=>match a with
 | .val (.v (.int i))=>Q (.val (.v (.int (-i)))) b
 |_=>False
def jm (h:VE X a f):VE X (.UnaryOp .USub a c) (qb f):=⟨PE.sub (pe_un aic h.out) λo H Q d=>je d λW m R e g h q=>⟨W,m,_,e,g,h,λp i j x b l1 l n=>by
  split at b
  · cases(Rp.vI n).1;show{_,rfl,q _ i j _ b l1 l (Rp.v rfl)}
  · show b.elim⟩⟩
def lks (m:M):List Ev->(DQ->Prop)->Prop
 | [],Q=>Q []
 |e::r,Q=>lk m e λd=>lks m r λds=>Q (d::ds)
theorem B4 (ok:Wok b W m.cel):∀{a xs Q},Paired (Rev b O W) xs a->lks m a Q->∃ds,Paired (Top b W) xs ds/\Q ds
 |_,_,_,.nil,h=>{[],.nil,h}
 |_,_,_,.cons h t,q=>by
  obtain⟨d,c,q⟩:=gu ok h q;obtain⟨ds,r,q⟩:=B4 ok t q;show{d::ds,.cons c r,q}
abbrev GL:=DQ->(Ev->Prop)->Prop
def gCB (r:GL)(ga:GA):GE:=λm Q=>ga m λb a=>lks a b λds=>r ds λc=>Q c a
def rGA (b:B)(r:GL):DK->Hp->VK->Prop:=λxs H Q=>∃W cel ds R,W.H=H/\Wok b W cel/\Paired (Top b W) xs ds/\r ds R/\∀c a z,R c->After b W cel a->Rev b W a z c->Q z a.H
def mi (X:Cx)(f:aK)(r:GL):Prop:=i9 X f (rGA X.B r)
def Sk (h:lf b (gCB r ga) e H Q):lfA b ga e H λxs f=>rGA b r xs f Q:=by
 obtain⟨W,m,R,g,i,h,q⟩:=h;show{W,m,_,g,i,h,λy d j xs l l1 c n=>?_};obtain⟨ds,o,p⟩:=B4 c.ok n l;show{j,d.cel,ds,_,rfl,c.ok,o,p,λs u z w a x=>q s d u z w (l1.trans a.lx) (c.lift a.lx a.cs a.ok) (x.old l1.toLe)}
def bx {x:Str}{id:String}{r:GL}{e:MS}{a:BW}{ga:GA}{p b:Pos}(c:mi X (.builtin id) r)(d:Gl X x)(f:X.mg x=MN)(g:dY x=KE (.builtin id))(i:VA X (e::a) ga)(j:↑(x≠"__name__"))(l:↑((x == ("__debug__":Str))=MP))
  (m:↥(aM (e::a) X.e=(MP,eval e X.e)::aM a X.e)) (n:↥((dS b (aM a X.e)).any (·.1)=MP)):VE X (.Call (.Name x p) (e::a) [] b) (gCB r ga):=#v[PE.sub (L3 c d f g i.out j l m n) λ_ _ _ h=>Sk h]
def lr (c:mi X (.type T) r)(d:Gl X x)(f:X.mg x=MN)(g:dY x=KE (.type T))(i:VA X (e::a) ga)(j:↑(x≠"__name__"))(l:↑((x == ("__debug__":Str))=MP))
  (m:↥(aM (e::a) X.e=(MP,eval e X.e)::aM a X.e)) (n:↥((dS b (aM a X.e)).any (·.1)=MP)):VE X (.Call (.Name x p) (e::a) [] b) (gCB r ga):=#v[PE.sub (Wf c d f g i.out j l m n) λ_ _ _ h=>Sk h]
def cz {a b:Type}{F:a->b->Prop}{xs:List a}{d:b}(h:Paired F xs [d]):∃x,xs=[x]/\F x d:=by
 cases h with
 |cons h t=>cases t;show{_,rfl,h}
def yg {a b:Type}{F:a->b->Prop}{xs:List a}{d e:b}(h:Paired F xs [d,e]):∃x y,xs=[x,y]/\F x d/\F y e:=by
 cases h with
 |cons h t=>
  obtain⟨y,rfl,k⟩:=cz t;show{_,y,rfl,h,k}
def gx:GL
 | [.lst l],R=>R (.val (.v (.int l.length)))
 | [.scr l],R=>R (.val (.v (.int l.length)))
 | [.tup l],R=>R (.val (.v (.int l.length)))
 | [.v (.str z)],R=>z.length<=1000000/\R (.val (.v (.int z.length)))
 |_,_=>False
def d9:mi X (.builtin "len") gx:=by
 intro d s e H xs us Q I r h;obtain⟨W,cel,ds,R,rfl,ok,f,h,q⟩:=h;unfold gx at h
 split at h;{obtain⟨x,rfl,a,xs,rfl,b,c⟩:=cz f;show uq d s e W.H _ us Q I r {a,xs,rfl,.inl (SqL.of b),by rw[c.length];show q _ W _ h (After.refl ok) (Rp.v rfl)}};{obtain⟨x,rfl,t⟩:=cz f;obtain⟨a,xs,rfl,b,c⟩:=Rp.scrI t;show uq d s e W.H _ us Q I r {a,xs,rfl,.inl (yx b ok.sub),by rw[c.length];show q _ W _ h (After.refl ok) (Rp.v rfl)}};{obtain⟨x,rfl,t⟩:=cz f;obtain⟨a,xs,rfl,b,c⟩:=t.tup ok.sub;show uq d s e W.H _ us Q I r {a,xs,rfl,.inr b,by rw[c.length];show q _ W _ h (After.refl ok) (Rp.v rfl)}};{obtain⟨x,rfl,t⟩:=cz f;cases t.v;show L7 d s e W.H _ us Q I r {_,rfl,big _ h.1,q _ W _ h.2 (After.refl ok) (Rp.v rfl)}};{show h.elim}
def absG:GL
 | [.v (.int i)],R=>R (.val (.v (.int (if i < 0 then -i else i))))
 |_,_=>False
def ajn:mi X (.builtin "abs") absG:=by
 intro a s b H xs us Q I r h;obtain⟨W,cel,ds,R,rfl,ok,c,h,q⟩:=h;unfold absG at h
 split at h;{obtain⟨x,rfl,t⟩:=cz c;cases t.v;show Zn a s b W.H _ us Q I r {_,rfl,q _ W _ h (After.refl ok) (Rp.v rfl)}};{show h.elim}
def intG:GL
 | [.v (.int i)],R=>R (.val (.v (.int i)))
 | [.v (.bl k)],R=>R (.val (.v (.int (if k then 1 else 0))))
 |_,_=>False
def ajo:mi X (.type "int") intG:=by
 intro a s b H xs us Q I r h;obtain⟨W,cel,ds,R,rfl,ok,c,h,q⟩:=h;unfold intG at h
 split at h;{obtain⟨x,rfl,t⟩:=cz c;cases t.v;show I0 a s b W.H _ us Q I r (.inl {_,rfl,q _ W _ h (After.refl ok) (Rp.v rfl)})};{obtain⟨x,rfl,t⟩:=cz c;cases t.v;show I0 a s b W.H _ us Q I r (.inr {_,rfl,q _ W _ h (After.refl ok) (Rp.v rfl)})};{show h.elim}
def two (g:Int->Int->Int):GL
 | [.v (.int i),.v (.int j)],R=>R (.val (.v (.int (g i j))))
 |_,_=>False
def ajp (a:X.calm=MO):mi X (.builtin "max") (two λi j=>if j > i then j else i):=by
 intro b s c H xs us Q I r h;obtain⟨W,cel,ds,R,rfl,ok,d,h,q⟩:=h;unfold two at h
 split at h;{obtain⟨x,y,rfl,e,f⟩:=yg d;cases e.v;cases f.v;show V8 a b s c W.H _ us Q I r {_,_,rfl,q _ W _ h (After.refl ok) (Rp.v rfl)}};{show h.elim}
def ajq (a:X.calm=MO):mi X (.builtin "min") (two λi j=>if j < i then j else i):=by
 intro b s c H xs us Q I r h;obtain⟨W,cel,ds,R,rfl,ok,d,h,q⟩:=h;unfold two at h
 split at h;{obtain⟨x,y,rfl,e,f⟩:=yg d;cases e.v;cases f.v;show V9 a b s c W.H _ us Q I r {_,_,rfl,q _ W _ h (After.refl ok) (Rp.v rfl)}};{show h.elim}
theorem Rps.flat {b:B}{F:Hp}{a:Type}{g:a->V}:∀{xs:DK}{ns:List a},Rps b F xs (ns.map λn=>Tr.v (g n))->xs=ns.map g
 |_,[],.nil=>rfl
 |_,_::ns,.cons h t=>by rw[(Rp.vI h).1,Rps.flat t];rfl
def sumG:GL
 | [.lst l],R=>∃ns:LQ,l=ns.map (λn=>Tr.v (.int n))/\ns.length<=1000/\(∀n∈ns,-1000000<=n/\n<=1000000)/\R (.val (.v (.int ns.sum)))
 |_,_=>False
def ajr (b:X.calm=MO):mi X (.builtin "sum") sumG:=by
 intro c s d H xs us Q I r h;obtain⟨W,cel,ds,R,rfl,ok,e,h,q⟩:=h;unfold sumG at h
 split at h;{obtain⟨ns,rfl,f,g,h⟩:=h;obtain⟨x,rfl,a,xs,rfl,i,j⟩:=cz e;cases j.flat;show Xf b c s d W.H _ us Q I r {a,ns,rfl,SqL.of i,f,g,q _ W _ h (After.refl ok) (Rp.v rfl)}};{show h.elim}
def Hb (g:List Bool->Bool):GL
 | [.lst l],R=>∃bs:List Bool,l=bs.map (λn=>Tr.v (.bl n))/\R (.val (.v (.bl (g bs))))
 |_,_=>False
def ajs (b:X.calm=MO):mi X (.builtin "all") (Hb λbs=>bs.all id):=by
 intro c s d H xs us Q I r h;obtain⟨W,cel,ds,R,rfl,ok,e,h,q⟩:=h;unfold Hb at h
 split at h;{obtain⟨bs,rfl,h⟩:=h;obtain⟨x,rfl,a,xs,rfl,f,g⟩:=cz e;cases g.flat;show Wq b c s d W.H _ us Q I r {a,bs,rfl,SqL.of f,q _ W _ h (After.refl ok) (Rp.v rfl)}};{show h.elim}
def ajt (b:X.calm=MO):mi X (.builtin "any") (Hb λbs=>bs.any id):=by
 intro c s d H xs us Q I r h;obtain⟨W,cel,ds,R,rfl,ok,e,h,q⟩:=h;unfold Hb at h
 split at h;{obtain⟨bs,rfl,h⟩:=h;obtain⟨x,rfl,a,xs,rfl,f,g⟩:=cz e;cases g.flat;show Xc b c s d W.H _ us Q I r {a,bs,rfl,SqL.of f,q _ W _ h (After.refl ok) (Rp.v rfl)}};{show h.elim}
def yh:GL
 | [.lst l],R=>R (.val (.tup l))
 | [.tup l],R=>R (.val (.tup l))
 |_,_=>False
def Dr:mi X (.type "tuple") yh:=by
 intro c s d H xs us Q I r h;obtain⟨W,cel,ds,R,rfl,ok,e,h,q⟩:=h;unfold yh at h
 split at h;{obtain⟨x,rfl,a,xs,rfl,b,f⟩:=cz e;show z7 c s d W.H _ us Q I r {a,xs,rfl,.inl {SqL.of b,Bz ok q h f}}};{obtain⟨x,rfl,t⟩:=cz e;obtain⟨a,xs,rfl,b,f⟩:=t.tup ok.sub;show z7 c s d W.H _ us Q I r {a,xs,rfl,.inr {b,q _ W _ h (After.refl ok) t}}};{show h.elim}
def Lm:GL
 | [.lst l],R=>R (.new (.lst l))
 | [.tup l],R=>R (.new (.lst l))
 |_,_=>False
def afo:mi X (.type "list") Lm:=by
 intro d s e H xs us Q I r h;obtain⟨W,cel,ds,R,rfl,ok,f,h,q⟩:=h;unfold Lm at h
 split at h;{obtain⟨x,rfl,a,xs,rfl,b,c⟩:=cz f;show Al d s e W.H _ us Q I r {a,xs,rfl,.inl (SqL.of b),uf ok q h c}};{obtain⟨x,rfl,t⟩:=cz f;obtain⟨a,xs,rfl,b,c⟩:=t.tup ok.sub;show Al d s e W.H _ us Q I r {a,xs,rfl,.inr b,uf ok q h c}};{show h.elim}
def tyT (n:String):Tr->Option Bool
 | .v .non=>KE MP
 | .v (.bl _)=>KE (n == "bool" || n == "int")
 | .v (.int _)=>KE (n == "int")
 | .v (.str _)=>KE (n == "str")
 | .tup _=>KE (n == "tuple")
 | .lst _=>KE (n == "list")
 |_=>MN
structure Kit (K:aF)(n:String):Prop where
 non:eF K (.type "NoneType") (.type n)=KE MP
 bl:eF K (.type "bool") (.type n)=KE (n == "bool" || n == "int")
 int:eF K (.type "int") (.type n)=KE (n == "int")
 str:eF K (.type "str") (.type n)=KE (n == "str")
 tup:eF K (.type "tuple") (.type n)=KE (n == "tuple")
 lst:eF K (.type "list") (.type n)=KE (n == "list")
def gIsi (n:String)(f:GE):GE:=λm Q=>f m λb a=>lk a b λd=>m8 (tyT n d) λc=>Q (.val (.v (.bl c))) a
def aju (b:Kit X.K n)(u:Gl X x)(w:X.mg x=MN)(A:dY x=KE (.builtin "isinstance"))(C:Gl X y)(D:X.mg y=MN)(E:dY y=KE (.type n))(G:VE X e f)
  (I:↑(x≠"__name__")) (J:↑((x == ("__debug__":Str))=MP)) (L:↑(y≠"__name__")) (N:↑((y == ("__debug__":Str))=MP))
  (hs:↥(aM [e,.Name y j] X.e=(MP,eval e X.e)::aM [.Name y j] X.e)) (O:↥((dS l (aM [.Name y j] X.e)).any (·.1)=MP)):VE X (.Call (.Name x p) [e,.Name y j] [] l) (gIsi n f):=⟨PE.sub (L3 Z6 u w A (xy G.out (xy (ads (v:=.ty n) C D E rfl L N) Lz) hs) I J hs O) λσ H Q T=>je T λW m R U Y h q=>⟨W,m,_,U,Y,h,λev m1 s x i l1 o r1=>by
  obtain⟨d,g,r⟩:_:=gu o.ok r1 i;obtain⟨c,e,h3⟩:_:=i8 r;have fin:=q _ m1 s (.bl c) h3 l1 o (Rp.v rfl);have z:∃t,TyQ X.K s.H x t/\eF X.K t (.type n)=KE c:=by
    unfold tyT at e
    split at e
    · cases g.v;show{_,.of .non,by rw[b.non];show e}
    · cases g.v;show{_,.of (.bl _),by rw[b.bl];show e}
    · cases g.v;show{_,.of (.int _),by rw[b.int];show e}
    · cases g.v;show{_,.of (.str _),by rw[b.str];show e}
    · obtain⟨a,xs,rfl,i,r⟩:_:=g.tup o.ok.sub;show{_,.sqt i,by rw[b.tup];show e}
    · obtain⟨a,xs,rfl,i,r⟩:_:=g;show{_,.sql (SqL.of i),by rw[b.lst];show e}
    · cases e
  obtain⟨t,t1,t2⟩:_:=z;show#v[x,t,n,c,rfl,t1,t2,fin]⟩⟩
abbrev tI (x:LQ):Tr:=.tup (x.map λn=>Tr.v (.int n))
theorem Mt {b:B}{F H:Hp}(e:Same F H):∀{xs:DK}{L:LJ},Rps b F xs (L.map tI)->TupsV b.K H xs L
 |_,[],.nil=>.nil
 |_,x::L,.cons h t=>by
  obtain⟨a,ys,rfl,c,d⟩:=Rp.tupI h;cases d.flat;show .cons {a,rfl,c.same e} (Mt e t)
theorem Mu:∀ns:LQ,Rps b F (ns.map V.int) (ns.map λn=>Tr.v (.int n))
 | []=>.nil
 |_::ns=>.cons (.v rfl) (Mu ns)
abbrev GM:=Tr->DQ->(Ev->Prop)->Prop
def rGM (b:B)(r:GM):V->DK->Hp->VK->Prop:=λx xs H Q=>∃W cel d ds R,W.H=H/\Wok b W cel/\Top b W x d/\Paired (Top b W) xs ds/\r d ds R/\∀c a z,R c->After b W cel a->Rev b W a z c->Q z a.H
def MtG (X:Cx)(id:String)(r:GM):Prop:=MtR X id (rGM X.B r)
def kin (T:String):Tr->Prop
 | .lst _=>T="list"
 | .v (.str _)=>T="str"
 | .v (.int _)=>T="int"
 |_=>False
def A3 (t:Top b W x d)(h:kin T d):tyV b.K T x W.H:=by
 unfold kin at h
 split at h;{obtain⟨a,xs,rfl,c,_⟩:=t;show .inl {h,xs,SqL.of c}};{cases t.v;show h};{cases t.v;show h};{show h.elim}
def gMt (T:String)(r:GM)(e:GE)(ga:GA):GE:=λm Q=>e m λb c=>lk c b λf=>kin T f/\ga c λg a=>lk a b λd=>lks a g λds=>r d ds λi=>Q i a
def Um {T:String}{name:Str}{id:String}{r:GM}{o e:MS}{a:BW}{i:GE}{ga:GA}{j b:Pos}(s:oX T)(slot:Slot T name id)(u:uH (.builtin id)=pure (.type "method_descriptor"))(w:MtG X id r)(y:VE X o i)(A:VA X (e::a) ga)
  (C:↥(iA o name X.e (eval o X.e)=eval o X.e))
  (D:↥(((dS b (aM (e::a) X.e)).all (λx=>!x.1) && (lM b (jG [] X.e)).all (λx=>x.1.isSome) && decide ((e::a).length+([]:List oK).length+(if ([]:List oK).isEmpty then 0 else 1) < 30))=MO))
  (E:↥((j.endLine == b.line)=MO)) (hs:↥(aM (e::a) X.e=(MP,eval e X.e)::aM a X.e)) (G:↥((dS b (aM a X.e)).any (·.1)=MP)) :
  VE X (.Call (.Attribute o name j) (e::a) [] b) (gMt T r i ga):=⟨PE.sub (T5 s slot u w y.out A.out C D E hs G) λσ H Q I=>je I λW m R J L h q=>⟨W,m,_,J,L,h,λeo N O x g l1 l n=>by
  obtain⟨d1,U,Y,g⟩:=gu l.ok n g;show{A3 U Y,O,N,_,rfl,l,g,λwI p W2 xs h2 l2 c r2=>?_};obtain⟨d,t2,h3⟩:=gu c.ok (n.mono l2) h2;obtain⟨ds,ts,h4⟩:=B4 c.ok r2 h3;show{W2,p.cel,d,ds,_,rfl,c.ok,t2,ts,h4,λev W' z h5 f rz=>q ev p W' z h5 (l1.trans (l2.trans f.lx)) (c.lift f.lx f.cs f.ok) (rz.old (l1.trans l2).toLe)}⟩⟩
def ajv {T:String}{name:Str}{id:String}{r:GM}{o:MS}{e:GE}{f g:Pos}(l:oX T)(slot:Slot T name id)(n:uH (.builtin id)=pure (.type "method_descriptor"))(p:MtG X id r)(s:VE X o e)
  (u:↥(iA o name X.e (eval o X.e)=eval o X.e)) (w:↥((f.endLine == g.line)=MO)):VE X (.Call (.Attribute o name f) [] [] g) (gMt T r e gaN):=⟨PE.sub (Wj l slot n p s.out u w) λY H Q y=>je y λW m R A C h q=>⟨W,m,_,A,C,h,λeo i D x c l1 a j=>by
  obtain⟨d1,E,G,c⟩:=gu a.ok j c;show{A3 E G,?_};obtain⟨d,I,J⟩:=gu a.ok j c;show{D,i.cel,d,[],_,rfl,a.ok,I,.nil,J,λL N z O b U=>q L i N z O (l1.trans b.lx) (a.lift b.lx b.cs b.ok) (U.old l1.toLe)}⟩⟩
def Uo:GM
 | .v (.int i),[],R=>R (.val (.v (.int (kJ i:Nat))))
 |_,_,_=>False
def afp:MtG X "int.bit_length" Uo:=by
 intro a s b H x xs v us Q I c e h;obtain⟨W,cel,d,ds,R,rfl,ok,t,f,h,q⟩:=h;unfold Uo at h
 split at h;{cases t.v;cases f;show aew a s b W.H _ [] v us Q I c e {_,rfl,rfl,q _ W _ h (After.refl ok) (Rp.v rfl)}};{show h.elim}
def A4:GM
 | .lst l,[.tup t],R=>∃(L:LJ)(x:LQ),l=L.map tI/\t=x.map (λn=>Tr.v (.int n))/\x∈L/\R (.val (.v (.int (L.idxOf x:Nat))))
 | .lst l,[.v (.str t)],R=>∃ss:AQ,l=ss.map (λn=>Tr.v (.str n))/\t∈ss/\R (.val (.v (.int (ss.idxOf t:Nat))))
 |_,_,_=>False
def Ds (p:X.A.units+64 < cK):MtG X "list.index" A4:=by
 intro g s i H x xs v us Q I j l h;obtain⟨W,cel,d,ds,R,rfl,ok,t,m,h,q⟩:=h;unfold A4 at h
 split at h;{obtain⟨a,ys,rfl,c,e⟩:=t;obtain⟨y,rfl,ty⟩:=cz m;obtain⟨L,w,rfl,rfl,f,h⟩:=h;obtain⟨b,r,rfl,n,o⟩:=ty.tup ok.sub;cases o.flat;show aaa () g s i W.H _ _ v us Q I j l {a,b,ys,L,w,rfl,rfl,SqL.of c,Mt ok.sub e,n,f,q _ W _ h (After.refl ok) (Rp.v rfl)}};{obtain⟨a,ys,rfl,c,e⟩:=t;obtain⟨y,rfl,ty⟩:=cz m;obtain⟨ss,rfl,f,h⟩:=h;cases ty.v;cases e.flat;show Xd g s i W.H _ _ v us Q I j l {a,ss,_,rfl,rfl,SqL.of c,f,q _ W _ h (After.refl ok) (Rp.v rfl)}};{show h.elim}
def jf (ok:Wok b W cel)(f:W.C j=KE a)(g:cel[j]?=KE (KE d))(h':CellOk b W.F (upd W.H a o) a d') :
  Lx W {W.F,upd W.H a o,W.C}/\Wok b {W.F,upd W.H a o,W.C} (cel.set j (KE d')):=by
 obtain⟨w,i,l,y⟩:=ok.cell j d g;rw[f]at i;cases i;have m:j < cel.length:=(bK.mp g).1;have ne:∀{x u},W.F x=KE u->x≠a:=λe z=>(by subst z;rw[l]at e;cases e);show{{{λ_ _ z=>z,λx u e n=>?_,λ_ z n=>MY z n,λ_ _ z=>.inl z,λx z=>?_},λ_ _ z=>z},{λx u z=>?_,λk e hk=>?_,λk x z=>?_,ok.dist}};{change upd W.H a o x=KE u;rw[bc (λz=>n j (by rw[f,z]))];show e};{by_cases c:x=a;{subst c;rw[show({W.F,upd W.H x o,W.C}:Wd).H x=upd W.H x o x from rfl,bh]at z;cases z};{rw[show({W.F,upd W.H a o,W.C}:Wd).H x=upd W.H a o x from rfl,bc c]at z;show z}};{change upd W.H a o x=KE u;rw[bc (ne z)];show ok.sub x u z};{by_cases c:k=j;{subst c;rw[cZ m]at hk;cases hk;show#v[a,f,l,h']};{rw[cS (λz=>c z.symm)]at hk;obtain⟨x,p,q,r⟩:=ok.cell k e hk;show{x,p,q,r.mono (λ_ _ z=>z) λu z=>?_};change upd W.H a o x=KE u;rw[bc (λz=>c (ok.dist k j x p (by rw[z];show f)))];show z}};{obtain⟨e,s⟩:=ok.live k x z;by_cases c:k=j;{subst c;show{d',cZ m}};{show{e,by rw[cS (λz=>c z.symm)];show s}}}
abbrev GMc:=Tr->DQ->(Ev->Tr->Prop)->Prop
def rMC (b:B)(r:GMc):V->DK->Hp->VK->Prop:=λx xs H Q=>∃W cel j a d ds R,W.H=H/\Wok b W cel/\x=.ref a/\W.C j=KE a/\cel[j]?=KE (KE d)/\Paired (Top b W) xs ds/\r d ds R/\
 ∀e d' c z,R e d'->Lx W c->(∀j,c.C j=W.C j)->Wok b c (cel.set j (KE d'))->Rev b W c z e->Q z c.H
def MtC (X:Cx)(id:String)(r:GMc):Prop:=MtR X id (rMC X.B r)
def gMc (T:String)(i:Nat)(r:GMc)(ga:GA):GE:=λm Q=>match m.loc[i]? with
 |some (KE (.c j))=>lk m (.cel j) λb=>kin T b/\ga m λe a=>lk a (.cel j) λd=>lks a e λds=>r d ds λf d'=>Q f {a.loc,a.cel.set j (KE d')}
 |_=>False
def Xt (h:gMc T i r ga m Q):∃j,m.loc[i]?=KE (KE (.c j))/\lk m (.cel j) λb=>kin T b/\ga m λe a=>lk a (.cel j) λd=>lks a e λds=>r d ds λf d'=>Q f {a.loc,a.cel.set j (KE d')}:=by
 unfold gMc at h
 split at h;{show{_,by assumption,h}};{show h.elim}
def Rel.setc (f:Rel b W m n)(l:Lx W d)(e:∀j,d.C j=W.C j)(ok:Wok b d (m.cel.set j (KE d'))):Rel b d {m.loc,m.cel.set j (KE d')} n:=⟨ok,λi w hw=>by
  obtain⟨y,o,g⟩:=f.loc i w hw;show{y,o,?_};cases w with
  |v d'=>show Rp.mono l.same g
  |c j=>obtain⟨a,p,q⟩:=g;show{a,p,by rw[e];show q},f.len⟩
def B5 {T:String}{name:Str}{id:String}{r:GMc}{i:Nat}{x:Str}{e:MS}{b:BW}{ga:GA}{p n c:Pos}(u:oX T)(slot:Slot T name id)(w:uH (.builtin id)=pure (.type "method_descriptor"))(A:MtC X id r)(C:X.N[i]?=KE x)(D:Vis X.e.scope x)(E:VA X (e::b) ga)
  (G:↥(iA (.Name x p) name X.e (eval (.Name x p) X.e)=eval (.Name x p) X.e))
  (I:↥(((dS c (aM (e::b) X.e)).all (λx=>!x.1) && (lM c (jG [] X.e)).all (λx=>x.1.isSome) && decide ((e::b).length+([]:List oK).length+(if ([]:List oK).isEmpty then 0 else 1) < 30))=MO))
  (J:↥((n.endLine == c.line)=MO)) (hs:↥(aM (e::b) X.e=(MP,eval e X.e)::aM b X.e)) (L:↥((dS c (aM b X.e)).any (·.1)=MP))
  (hd:↑((x == ("__debug__":Str))=MP)) (O:↑((x == ("__classdict__":Str))=MP)) :
  VE X (.Call (.Attribute (.Name x p) name n) (e::b) [] c) (gMc T i r ga):=⟨PE.sub (T5 u slot w A (um C D hd O) E.out G I J hs L) λσ H Q U=>je U λW m R Y l h q=>by
  subst Y;obtain⟨j,hj,h⟩:=Xt h;obtain⟨y,q1,a,rfl,o⟩:=l.loc i _ hj;have rv:Rev X.B W W (.ref a) (.cel j):={a,rfl,λf e=>by rw[o]at e;cases e;rfl};obtain⟨d1,t1,k1,h1⟩:=gu l.ok rv h;show{_,q1,A3 t1 k1,W,m,_,rfl,l,h1,λwI m2 W2 xs h2 l2 g r2=>?_};obtain⟨d,hd,h3⟩:=uu h2;obtain⟨ds,ts,h4⟩:=B4 g.ok r2 h3;obtain⟨f,s,_⟩:=g.ok.cell j d hd;have ea:f=a:=(by have:=l2.cx j f s;rw[o]at this;cases this;rfl);subst ea;show{W2,m2.cel,j,f,d,ds,_,rfl,g.ok,rfl,s,hd,ts,h4,λev d' W' z h5 l3 cs zF rz=>q ev _ W' z h5 (l2.trans l3) (g.setc l3 cs zF) (rz.old l2.toLe)}⟩
def Fk {T:String}{name:Str}{id:String}{r:GMc}{i:Nat}{x:Str}{p c f:Pos}(l:oX T)(slot:Slot T name id)(n:uH (.builtin id)=pure (.type "method_descriptor"))(o:MtC X id r)(s:X.N[i]?=KE x)(u:Vis X.e.scope x)
  (w:↥(iA (.Name x p) name X.e (eval (.Name x p) X.e)=eval (.Name x p) X.e)) (A:↥((c.endLine == f.line)=MO))
  (hd:↑((x == ("__debug__":Str))=MP)) (C:↑((x == ("__classdict__":Str))=MP)) :
  VE X (.Call (.Attribute (.Name x p) name c) [] [] f) (gMc T i r gaN):=⟨PE.sub (Wj l slot n o (um s u hd C) w A) λσ H Q D=>je D λW m R E b h q=>by
  subst E;obtain⟨j,G,h⟩:=Xt h;obtain⟨y,I,a,rfl,g⟩:=b.loc i _ G;have J:Rev X.B W W (.ref a) (.cel j):={a,rfl,λa' e=>by rw[g]at e;cases e;rfl};obtain⟨d1,L,O,U⟩:=gu b.ok J h;obtain⟨d,hd,Y⟩:=uu U;show{_,I,A3 L O,W,m.cel,j,a,d,[],_,rfl,b.ok,rfl,g,hd,.nil,Y,λev d' W' z h5 l3 cs zF rz=>q ev _ W' z h5 l3 (b.setc l3 cs zF) rz}⟩
theorem Wok.lst {b:B}{W:Wd}{cel:DJ}{j:Nat}{a:MQ}{l:DQ}(ok:Wok b W cel)(d:W.C j=KE a)(e:cel[j]?=KE (KE (.lst l))):∃xs,W.H a=KE (.lst xs)/\Rps b W.F xs l:=by
 obtain⟨g,c,i,xs,f⟩:=ok.cell j _ e;rw[d]at c;cases c;show#v[xs,f]
def uv (i:Nat)(f:GE):GE:=λm Q=>match m.loc[i]? with
 |some (KE (.c j))=>lk m (.cel j) λb=>kin "list" b/\f m λg n=>fz n g λd a=>lk a (.cel j) λe=>match e with
  | .lst l=>l.length < 1000000/\Q (.val (.v .non)) {a.loc,a.cel.set j (KE (.lst (l++[d])))}
  |_=>False
 |_=>False
def yi (L:X.N[i]?=KE x)(O:Vis X.e.scope x)(T:VE X e f)
  (U:↥(iA (.Name x p) "append" X.e (eval (.Name x p) X.e)=eval (.Name x p) X.e))
  (Y:↥(((dS s (aM [e] X.e)).all (λx=>!x.1) && (lM s (jG [] X.e)).all (λx=>x.1.isSome) && decide ([e].length+([]:List oK).length+(if ([]:List oK).isEmpty then 0 else 1) < 30))=MO))
  (xY:↥((wM.endLine == s.line)=MO)) (hs:↥(aM [e] X.e=(MP,eval e X.e)::aM [] X.e))
  (hd:↑((x == ("__debug__":Str))=MP)) (zN:↑((x == ("__classdict__":Str))=MP)) :
  VE X (.Call (.Attribute (.Name x p) "append" wM) [e] [] s) (uv i f):=⟨PE.sub (T5 cQ PySem.F.slot_list_append PySem.F.type_list_append Am (um L O hd zN) (xy T.out Lz hs) U Y xY hs) λσ H Q hG=>je hG λW m R hW u h q=>by
  subst hW;have h':∃j,m.loc[i]?=KE (KE (.c j))/\lk m (.cel j) λC=>kin "list" C/\f m λD E=>fz E D λd g=>lk g (.cel j) λe=>match e with
    | .lst l=>l.length < 1000000/\R (.val (.v .non)) {g.loc,g.cel.set j (KE (.lst (l++[d])))}
    |_=>False:=by
    unfold uv at h
    split at h
    · show{_,by assumption,h}
    · show h.elim
  obtain⟨j,hj,h⟩:=h';obtain⟨y,q1,a,rfl,G⟩:=u.loc i _ hj;have rv:Rev X.B W W (.ref a) (.cel j):={a,rfl,λn e=>by rw[G]at e;cases e;rfl};obtain⟨C,t1,k1,h1⟩:=gu u.ok rv h;show{_,q1,A3 t1 k1,W,m,_,rfl,u,h1,λD E W1 z h2 l1 vN r1=>?_};obtain⟨d,g,W2,h3,l2,I,r,r2⟩:=nr l1 vN r1 h2;obtain⟨d0,w,b⟩:=uu h3
  split at b
  · obtain⟨hz,b⟩:=b;obtain⟨n,A,_⟩:=r.ok.cell j _ w;have ea:n=a:=(by have:=l2.cx j n A;rw[G]at this;cases this;rfl);subst ea;obtain⟨xs,g1,J⟩:=r.ok.lst A w;show{n,xs,z,rfl,rfl,by rw[<-I];show g1,by rw[J.length];show bU hz #v[],?_};obtain⟨l3,zF⟩:=jf (d':=.lst _) (o:=.lst (xs++[z])) r.ok A w {_,bh,J.append (.cons r2 .nil)};rw[<-I];show q _ _ _ .non b (l2.trans l3) (r.setc l3 (λ_=>rfl) zF) (Rp.v rfl)
  · show b.elim⟩
def o7:GMc
 | .lst l,[.lst m],R=>l.length+m.length<=1000000/\R (.val (.v .non)) (.lst (l++m))
 | .lst l,[.tup m],R=>l.length+m.length<=1000000/\R (.val (.v .non)) (.lst (l++m))
 |_,_,_=>False
def o8:MtC X "list.extend" o7:=by
 intro n s p H x xs v us Q I r u h;obtain⟨W,cel,j,a,d,ds,R,rfl,ok,rfl,g,hd,w,h,q⟩:=h;unfold o7 at h
 split at h;{obtain⟨ys,i,c⟩:=ok.lst g hd;obtain⟨y,rfl,b,e,rfl,l,f⟩:=cz w;obtain⟨l3,m⟩:=jf (d':=.lst _) (o:=.lst (ys++e)) ok g hd {_,bh,c.append f};show Wk n s p W.H _ _ v us Q I r u {a,b,ys,e,rfl,rfl,i,l,by rw[c.length,f.length];show big _ h.1,q _ _ _ .non h.2 l3 (λ_=>rfl) m (Rp.v rfl)}};{obtain⟨ys,i,c⟩:=ok.lst g hd;obtain⟨y,rfl,t⟩:=cz w;obtain⟨b,e,rfl,l,f⟩:=t.tup ok.sub;obtain⟨l3,m⟩:=jf (d':=.lst _) (o:=.lst (ys++e)) ok g hd {_,bh,c.append f};show aeu n s p W.H _ _ v us Q I r u {a,b,ys,e,rfl,rfl,i,l,by rw[c.length,f.length];show big _ h.1,q _ _ _ .non h.2 l3 (λ_=>rfl) m (Rp.v rfl)}};{show h.elim}
def Fl:GMc
 | .lst _,[],R=>R (.val (.v .non)) (.lst [])
 |_,_,_=>False
def aax:MtC X "list.clear" Fl:=by
 intro c s e H x xs v us Q I f g h;obtain⟨W,cel,j,a,d,ds,R,rfl,ok,rfl,b,hd,i,h,q⟩:=h;unfold Fl at h
 split at h;{obtain⟨ys,l,n⟩:=ok.lst b hd;cases i;obtain⟨l3,m⟩:=jf (d':=.lst _) (o:=.lst []) ok b hd {_,bh,.nil};show Zz c s e W.H _ _ v us Q I f g {a,ys,rfl,rfl,l,q _ _ _ .non h l3 (λ_=>rfl) m (Rp.v rfl)}};{show h.elim}
def A5:GMc
 | .lst l,[],R=>m8 l.getLast? λd=>R (.val d) (.lst l.dropLast)
 | .lst l,[.v (.int i)],R=>m8 (ixN l.length i) λk=>m8 l[k]? λd=>R (.val d) (.lst (l.eraseIdx k))
 |_,_,_=>False
theorem Rps.dropLast (r:Rps b F xs l):Rps b F xs.dropLast l.dropLast:=by
 rw[List.dropLast_eq_take,List.dropLast_eq_take,r.length];show r.take _
theorem Rps.erase:∀{xs l} k,Rps b F xs l->Rps b F (xs.eraseIdx k) (l.eraseIdx k)
 |_,_,_,.nil=>.nil
 |_,_,0,.cons _ r=>r
 |_,_,k+1,.cons h r=>.cons h (Rps.erase k r)
def Mv:MtC X "list.pop" A5:=by
 intro n s p H x xs v us Q I r u h;obtain⟨W,cel,j,a,d,ds,R,rfl,ok,rfl,c,hd,w,h,q⟩:=h;unfold A5 at h
 split at h;{obtain⟨ys,f,b⟩:=ok.lst c hd;cases w;obtain⟨e,g,h⟩:=i8 h;rw[List.getLast?_eq_getElem?]at g;obtain⟨y,i,l⟩:=b.get g;obtain⟨l3,m⟩:=jf (d':=.lst _) (o:=.lst ys.dropLast) ok c hd {_,bh,b.dropLast};show aip n s p W.H _ _ v us Q I r u {a,ys,y,rfl,rfl,f,by rw[b.length];show i,q _ _ _ y h l3 (λ_=>rfl) m (Rp.mono l3.same l)}};{obtain⟨ys,f,b⟩:=ok.lst c hd;obtain⟨y,rfl,t⟩:=cz w;cases t.v;obtain⟨k,hk,h⟩:=i8 h;obtain⟨e,g,h⟩:=i8 h;obtain⟨y,i,l⟩:=b.get g;obtain⟨z,D,A,C⟩:=G1 hk;have hz:ys.length<=sizeLine:=(I.lst f).choose_spec.choose_spec.2.2;have E:=ng;rw[<-b.length]at z A C;obtain⟨l3,m⟩:=jf (d':=.lst _) (o:=.lst (ys.eraseIdx k)) ok c hd {_,bh,b.erase k};show Zy n s p W.H _ _ v us Q I r u {a,ys,_,k,y,rfl,rfl,f,(),(),z,i,q _ _ _ y h l3 (λ_=>rfl) m (Rp.mono l3.same l)}};{show h.elim}
def df:GS:=λE m=>E.nx m
def ak (s t:GS):GS:=λE m=>s { E with nx:=t E } m
def cg:VSs X [] df:=#v[λO=>PSs.sub adu λD a H b=>t9 b λW m E c l d h n _ _ _=>by subst c;show n m W a h l Same.id d]
def Mw (h:lfS b O (ak s t) D f H):lfS b O s { D with nx:=lfS b O t D } f H:=by
 obtain⟨W,m,E,g,l,i,h,n,r,bk,ct⟩:=h;show⟨W,m,{ E with nx:=t E },g,l,i,h,λj o p h' q s' u=>{o,j,E,rfl,q,u,h',λc W2 a d l2 e=>n c W2 a d l2 (Same.tr s' e),r,λc W2 a d l2 e=>bk c W2 a d l2 (Same.tr s' e),λc W2 a d l2 e=>ct c W2 a d l2 (Same.tr s' e)},r,bk,ct⟩
def ai {rest:List MT}(a:VS X st s)(b:VSs X rest t):VSs X (st::rest) (ak s t):=#v[λO=>PSs.sub (C7 (a.out O) (b.out O)) λ_ _ _ h=>Mw h]
def aj (a:VS X st s):VSs X [st] s:=#v[λO=>adw (a.out O)]
def ff (f:GE):GS:=λE m=>f m λ_ a=>E.nx a
def eh (b:VE X e f)(hs:↥(kS e MN a.line X.e=pure MP)):VS X (.Expr e a) (ff f):=⟨λO=>PS.sub (adx b.out hs) λD c H d=>t9 d λW m E g l i h n _ _ _=>
  {W,m,_,g,i,h,λr j o x p l1 q _=>n j o c p (l.trans l1.toLe) l1.same q}⟩
def ba (f:GE):GS:=λE m=>f m λa b=>E.rt a b
def ar (a:VE X e f):VS X (.Return (KE e) b) (ba f):=⟨λO=>PS.sub (ahp a.out) λD c H d=>t9 d λW m E g l i h _ r _ _=>
  {W,m,_,g,i,h,λj n o x p l1 q s=>r j n o c x p (l.trans l1.toLe) q (s.old l)}⟩
def sIf (c:GT)(s t:GS):GS:=λE m=>c m λk a=>if k=MO then s E a else t E a
def de (u:VT X c f)(w:VSs X a s)(x:VSs X b t):VS X (.If c a b y) (sIf f s t):=⟨λO=>PS.sub (ps_if u.out (w.out O) (x.out O)) λD G H z=>t9 z λW m E A l C h n r bk ct=>
  ⟨W,m,_,A,C,h,λk j o p l1 q=>by
    cases k with
    |true=>show{o,j,E,rfl,l.trans l1.toLe,q,p,λe W2 d g l2 i=>n e W2 d g l2 (Same.tr l1.same i),r,λe W2 d g l2 i=>bk e W2 d g l2 (Same.tr l1.same i),λe W2 d g l2 i=>ct e W2 d g l2 (Same.tr l1.same i)}
    |false=>show{o,j,E,rfl,l.trans l1.toLe,q,p,λe W2 d g l2 i=>n e W2 d g l2 (Same.tr l1.same i),r,λe W2 d g l2 i=>bk e W2 d g l2 (Same.tr l1.same i),λe W2 d g l2 i=>ct e W2 d g l2 (Same.tr l1.same i)}⟩⟩
def y3:VS X st (λ_ _=>False):=#v[λO=>λ_ _ _ _ _ _ ⟨_,_,_,_,_,_,h,_⟩=>h.elim]
theorem Rel.set (d:Rel b W m f)(hw:Rwt b W x w):Rel b W {m.loc.set i (KE w),m.cel} (f.set i (KE x)):=⟨d.ok,λk u hk=>by
  by_cases c:k=i
  · subst c;have a:(m.loc.set k (KE w))[k]?=KE (KE u):=hk;by_cases e:k < m.loc.length
    · rw[cZ e]at a;cases a;show{x,cZ (by rw[<-d.len];show e),hw}
    · rw[cU (by rw[hI];lia)]at a;cases a
  · have a:(m.loc.set i (KE w))[k]?=KE (KE u):=hk;rw[cS (λz=>c z.symm)]at a;obtain⟨y,g,j⟩:=d.loc k u a;show{y,by rw[cS (λz=>c z.symm)];show g,j},by change(m.loc.set i (KE w)).length=_;rw[hI,hI];show d.len⟩
def az (i:Nat)(f:GE):GS:=λE m=>f m λb c=>fz c b λd a=>E.nx {a.loc.set i (KE (.v d)),a.cel}
def Mx (j:Nat):Option Wt->Option Wt
 |some (.c k)=>if k=j then MN else KE (.c k)
 |w=>w
def setC (i j:Nat)(m:M):Ev->(M->Prop)->Prop
 | .val d,Q=>Q {m.loc.set i (KE (.v d)),m.cel}
 | .cel k,Q=>match m.cel[k]? with
  |some (KE _)=>Q {m.loc.set i (KE (.c k)),m.cel}
  |_=>False
 | .new d,Q=>match m.cel[j+1]? with
  |some _=>Q {(m.loc.map (Mx (j+1))).set i (KE (.c (j+1))),m.cel.set (j+1) (KE d)}
  |none=>False
def afq (l:Le O W)(g:Rel b W m σ)(r:Rev b O W x L)(h:setC i j m L Q):∃N s,Q N/\Le O s/\s.F=W.F/\s.H=W.H/\Rel b s N (σ.set i (KE x)):=by
 cases L with
 |val d=>show{_,W,h,l,rfl,rfl,g.set r}
 |cel k=>
  change (match m.cel[k]? with | some (KE _)=>Q {m.loc.set i (KE (.c k)),m.cel} | _=>False)at h
  rcases e:m.cel[k]? with _ | _ | d;{rw[e]at h;show h.elim};{rw[e]at h;show h.elim};{rw[e]at h;obtain⟨a,rfl,r⟩:=r;obtain⟨D,T,_⟩:=g.ok.cell k d e;cases r D T;show{_,W,h,l,rfl,rfl,g.set {_,rfl,T}}}
 |new d=>
  change (match m.cel[j+1]? with | some _=>Q {(m.loc.map (Mx (j+1))).set i (KE (.c (j+1))),m.cel.set (j+1) (KE d)} | none=>False)at h
  have U:j+1≠0:=();generalize j+1=j at h U;rcases e:m.cel[j]? with _ | d0;{rw[e]at h;show h.elim}
  ·rw[e]at h;obtain⟨a,rfl,h0,h1,Y,h3⟩:=r;have jl:j < m.cel.length:=(bK.mp e).1;have o:∀k c,(if k=j then KE a else W.C k)=KE c->(k=j/\a=c)\/(k≠j/\W.C k=KE c):=λk c z=>by
    by_cases q:k=j;{rw[MU q]at z;cases z;show .inl #v[q,rfl]};{rw[MV q]at z;show .inr #v[q,z]}
   show⟨_,{W.F,W.H,λk=>if k=j then KE a else W.C k},h,{l.same,l.fr,l.nw,λk c z=>?_,l.dm},rfl,rfl,Rel.set (m:={m.loc.map (Mx j),m.cel.set j (KE d)}) {{g.ok.sub,λk d' hk=>?_,λk c z=>?_,λk k' c z n=>?_},λk w hk=>?_,by change(m.loc.map _).length=_;rw[aC];show g.len} {a,rfl,MU rfl}⟩;{rcases o k c z with⟨rfl,rfl⟩ | ⟨_,z⟩;{show .inr #v[h0,U]};{show l.cl k c z}};{by_cases q:k=j;{subst q;have f:(m.cel.set k (KE d))[k]?=KE (KE d'):=hk;rw[cZ jl]at f;cases f;show{a,MU rfl,h1,h3}};{have f:(m.cel.set j (KE d))[k]?=KE (KE d'):=hk;rw[cS (λz=>q z.symm)]at f;obtain⟨D,E,u,G⟩:=g.ok.cell k d' f;show{D,by change(if k=j then KE a else W.C k)=_;rw[MV q];show E,u,G}}};{rcases o k c z with⟨rfl,_⟩ | ⟨q,z⟩;{show{d,cZ jl}};{obtain⟨d',I⟩:=g.ok.live k c z;show{d',by change(m.cel.set j (KE d))[k]?=_;rw[cS (λz=>q z.symm)];show I}}}
   ·rcases o k c z with⟨rfl,rfl⟩ | ⟨q,z1⟩;{rcases o k' _ n with⟨rfl,_⟩ | ⟨I,n⟩;{rfl};{show MY n (Y k')}}
    ·skip
     rcases o k' _ n with⟨rfl,rfl⟩ | ⟨I,n⟩;{show MY z1 (Y k)};{show g.ok.dist k k' c z1 n}
   ·have f:(m.loc.map (Mx j))[k]?=KE (KE w):=hk;rw[aN]at f;rcases q:m.loc[k]? with _ | _ | w0;{rw[q]at f;cases f};{rw[q]at f;cases f}
    ·rw[q]at f;obtain⟨y,E,u⟩:=g.loc k w0 q;show{y,E,?_};cases w0 with
     |v d'=>cases f;show u
     |c p=>
      have A:(if p=j then MN else KE (Wt.c p))=KE w:=by simpa[Mx]using f
      by_cases J:p=j;{rw[MU J]at A;cases A};{rw[MV J]at A;cases A;obtain⟨c,rfl,G⟩:=u;show{c,rfl,by change(if p=j then KE a else W.C p)=_;rw[MV J];show G}}
def ft (i j:Nat)(f:GE):GS:=λE m=>f m λa b=>setC i j b a E.nx
def bz {a:Type}{l:List a}{i:Nat}{x:a}(h:l[i]?=KE x):i < l.length:=(bK.mp h).1
def My (h:lfS b O (az i f) D a H):lf b f a H λx c=>D.nx (a.set i (KE x)) c:=by
 obtain⟨W,m,E,e,l,g,h,n,_⟩:=h;show{W,m,_,e,g,h,λw y z x j l1 o p=>?_};obtain⟨d,A,W2,q,l2,r,s,u⟩:=nr l1 o p j;rw[<-r];show n _ W2 _ q (l.trans l2.toLe) l2.same (s.set u)
def Xu (h:lfS b O (ft i j f) D a H):lf b f a H λx c=>D.nx (a.set i (KE x)) c:=by
 obtain⟨W,m,E,d,l,e,h,n,_⟩:_:=h;show{W,m,_,d,e,h,λw y z x g l1 o p=>?_};obtain⟨A,W2,q,l2,r,s,u⟩:_:=afq (l.trans l1.toLe) o (p.old l) g;rw[<-s];show n _ W2 _ q l2 (by rw[r];show l1.same) u
def aw (b:X.N.Nodup)(hi:X.N[i]?=KE x)(c:Loc X.e.scope x)(d:VE X e f)(hs:↥(kS e (KE (.Name x g)) a.line X.e=pure MP))(j:autoParam (X.fn x=MO\/X.e.scope.names.lookup x=KE .local) XJ._auto_1) :
  VS X (.Assign [.Name x g] e a) (az i f):=#v[λO=>PS.sub (V1 b hi c d.out hs j) λD l H h=>My h]
def fk (b:X.N.Nodup)(hi:X.N[i]?=KE x)(c:Loc X.e.scope x)(d:VE X e f)(hs:↥(kS e (KE (.Name x g)) a.line X.e=pure MP))(l:autoParam (X.fn x=MO\/X.e.scope.names.lookup x=KE .local) XJ._auto_1) :
  VS X (.Assign [.Name x g] e a) (ft i j f):=#v[λO=>PS.sub (V1 b hi c d.out hs l) λD m H h=>Xu h]
inductive Tg where
 |one (i:Nat)
 |tup (is:L1)
 |lst (is:L1)
def Mz:L1->DQ->M->(M->Prop)->Prop
 | [],[],m,Q=>Q m
 |i::is,d::ds,m,Q=>Mz is ds {m.loc.set i (KE (.v d)),m.cel} Q
 |_,_,_,_=>False
def gTg:Tg->Tr->M->(M->Prop)->Prop
 | .one i,d,m,Q=>Q {m.loc.set i (KE (.v d)),m.cel}
 | .tup is,.tup ds,m,Q=>Mz is ds m Q
 | .lst is,.lst ds,m,Q=>Mz is ds m Q
 |_,_,_,_=>False
def Fm:L1->TGs
 | []=>Zf
 |i::is=>Lf (Bs i) (Fm is)
def gOf (K:aF):Tg->TG
 | .one i=>Bs i
 | .tup is=>L2.gTup K is.length (Fm is)
 | .lst is=>L2.gLst K is.length (Fm is)
structure VG (X:Cx)(tg:MS)(t:Tg):Prop where
 out:PG X tg (gOf X.K t)
def Dt (n:Nat):Tg->Prop
 | .one i=>i < n
 | .tup is=>∀i∈is,i < n
 | .lst is=>∀i∈is,i < n
theorem Hc:∀{is ds xs m c},Rel b W m c->Rps b W.F xs ds->Mz is ds m Q->∀{P} H,(∀e a,Q e->Rel b W e a->a.length=c.length->(∀k,k ∉ is->a[k]?=c[k]?)->P a H)->Fm is xs c H P
 | [],[],_,m,c,f,.nil,h,P,H,q=>{rfl,q m c h f rfl λ_ _=>rfl}
 |i::is,d::ds,_,m,c,f,.cons r t,h,P,H,q=>by
  show{_,_,rfl,?_};show Hc (f.set (i:=i) (w:=.v d) r) t h H λe a h' g j l=>q e a h' g (by rw[j,hI]) λk hk=>?_;rw[l k λz=>hk (aT _ z),cS (λz=>hk (by rw[z];show aP))]
 | [],_::_,_,_,_,_,_,h,_,_,_=>h.elim
 |_::_,[],_,_,_,_,_,h,_,_,_=>h.elim
def adb:Tg->Nat->Prop
 | .one i,k=>k=i
 | .tup is,k=>k∈is
 | .lst is,k=>k∈is
theorem Du:∀{is ds m Q},Mz is ds m Q->ds.length=is.length
 | [],[],_,_,_=>rfl
 |_::_,_::_,_,_,h=>NA (·+1) (Du h)
 | [],_::_,_,_,h=>h.elim
 |_::_,[],_,_,h=>h.elim
def A6 (e:Rel b W m g)(r:Rp b W.F x d)(h:gTg t d m Q)
  (q:∀j c,Q j->Rel b W j c->c.length=g.length->(∀k,¬adb t k->c[k]?=g[k]?)->P c W.H):gOf b.K t x g W.H P:=by
 unfold gTg at h
 split at h;{show q _ _ h (e.set (w:=.v _) r) (by rw[hI]) λk hk=>by rw[cS (λz=>hk z.symm)]};{obtain⟨a,xs,rfl,i,f⟩:_:=Rp.tupI r;show{a,xs,rfl,i.same e.ok.sub,by rw[f.length];show Du h,Hc e f h W.H q}};{obtain⟨a,xs,rfl,i,f⟩:_:=Rp.lstI r;show{a,xs,rfl,SqL.of (e.ok.sub _ _ i),by rw[f.length];show Du h,Hc e f h W.H q}};{show h.elim}
def d8 (a:X.N.Nodup)(hi:X.N[i]?=KE x)(b:Loc X.e.scope x)(c:autoParam (X.fn x=MO\/X.e.scope.names.lookup x=KE .local) XJ._auto_1):VG X (.Name x d) (.one i):=#v[ox a hi b c]
def Uq (t:Tg)(f:GE):GS:=λE m=>f m λa b=>fz b a λd c=>gTg t d c E.nx
def M0 (i:VE X e f)(j:VG X a t)(hs:↥(tK [a] e b.line X.e=pure MP))(hw:↥(tM [a] e X.e=pure MN))
  (c:↥((jW [a] X.e).map (·.2)=[mH a X.e])):VS X (.Assign [a] e b) (Uq t f):=⟨λO=>PS.sub (Lv i.out j.out hs hw c) λD G H o=>t9 o λW m E p l q h n _ _ _=>⟨W,m,_,p,q,h,λI J L x c l1 r s=>by
obtain⟨d,N,W2,u,l2,w,y,z⟩:_:=nr l1 r s c;rw[<-w];show A6 y z u λA g h' C _ _=>n A W2 g h' (l.trans l2.toLe) l2.same C⟩⟩
abbrev GI:=M->(DQ->M->Prop)->Prop
def Sq (b:B)(F:Hp)(J:It)(ds:DQ):Prop:=∀c a:Hp,Same F c->Same c a->∀i:Nat,(ds.length<=i->J.stop i a)/\
 ∀d,ds[i]?=KE d->J.go i a/\∀x e,J.yld i a x e->(e=a/\Rp b c x d)\/∃p xs l,a p=MN/\e=upd a p (.tup xs)/\x=.ref p/\Rps b c xs l/\d=.tup l
def lfI (b:B)(f:GI):TI:=λc H R=>∃W m d,W.H=H/\Rel b W m c/\f m d/\∀ds e a J,d ds e->Lx W a->Rel b a e c->Sq b a.F J ds->R J a.H
def ub {b:B}{f:GI}{c:St}{H:Hp}{Q:It->Hp->Prop}{G:Prop}(h:lfI b f c H Q)(k:∀W m R,W.H=H->Rel b W m c->f m R->(∀ds d a J,R ds d->Lx W a->Rel b a d c->Sq b a.F J ds->Q J a.H)->G):G:=by
 obtain⟨W,m,R,e,g,i,j⟩:=h;show k W m R e g i j
structure VI (X:Cx)(tg iter:MS)(f:GI):Prop where
 out:PI X tg iter (lfI X.B f)
def PI.sub (h:PI X b iter t')(k:∀a H R,t a H R->t' a H R):PI X b iter t:=λc s a H R I q=>h c s a H R I (k a H R q)
def giL (f:GE):GI:=λm Q=>f m λa b=>fz b a λd c=>match d with
 | .lst l=>Q l c
 |_=>False
def giT (f:GE):GI:=λm Q=>f m λa b=>fz b a λd c=>match d with
 | .tup l=>Q l c
 |_=>False
def ajx (h:F a=KE (.lst xs))(r:Rps b F xs l):Sq b F (Itl b.K a) l:=λo g e j i=>by
 have c:SqL b.K g a xs:=SqL.of (j _ _ (e _ _ h));show{λhi=>{xs,c,by rw[r.length];show hi},λd hd=>?_};obtain⟨x,f,m⟩:_:=r.get hd;show{#v[xs,x,c,f],?_};rintro y p ⟨rfl,n⟩;have:=n xs c;rw[f]at this;cases this;show .inl {rfl,m.mono e}
def ajy (h:SqT b.K F a xs)(r:Rps b F xs l):Sq b F (Itt b.K a) l:=λo g e j i=>by
 have c:SqT b.K g a xs:=(h.same e).same j;show{λhi=>{xs,c,by rw[r.length];show hi},λd hd=>?_};obtain⟨x,f,m⟩:_:=r.get hd;show{#v[xs,x,c,f],?_};rintro y p ⟨rfl,n⟩;have:=n xs c;rw[f]at this;cases this;show .inl {rfl,m.mono e}
def cj (i:VE X e f):VI X z e (giL f):=⟨PI.sub (ady i.out) λA H R j=>ub j λW m C l n h q=>⟨W,m,_,l,n,h,λD E G x o l1 p r=>by
  obtain⟨d,s,W2,b,l2,u,c,w⟩:_:=nr l1 p r o
  split at b
  · obtain⟨a,xs,rfl,g,y⟩:_:=Rp.lstI w;rw[<-u];show{a,rfl,{xs,SqL.of (c.ok.sub _ _ g)},q _ s W2 _ b l2 c (ajx g y)}
  · show b.elim⟩⟩
def uw (i:VE X e f):VI X z e (giT f):=⟨PI.sub (aht i.out) λA H R j=>ub j λW m C l n h q=>⟨W,m,_,l,n,h,λD E G x o l1 p r=>by
  obtain⟨d,s,W2,b,l2,u,c,w⟩:_:=nr l1 p r o
  split at b
  · obtain⟨a,xs,rfl,g,y⟩:_:=Rp.tupI w;rw[<-u];show{a,rfl,{xs,g.same c.ok.sub},q _ s W2 _ b l2 c (ajy g y)}
  · show b.elim⟩⟩
def ic (lo:Int)(n:Nat):DQ:=(bA n).map λi:Nat=>Tr.v (.int (lo+(i:Int)))
def afr (h:(ic lo n)[i]?=KE d):i < n/\d=.v (.int (lo+i)):=by
 unfold ic at h;rw[aN]at h;by_cases hi:i < n;{rw[cP hi]at h;cases h;show#v[hi,rfl]};{rw[cU (⇑hi)]at h;cases h}
def aay (lo:Int)(n:Nat):(ic lo n).length=n:=by unfold ic;simp
def Xv (lo:Int)(n:Nat):Sq b F (Itr lo n) (ic lo n):=λa c e f i=>by
 show{λhi=>by rw[aay]at hi;show hi,λd hd=>?_};obtain⟨hi,rfl⟩:_:=afr hd;show{hi,?_};rintro y g ⟨rfl,rfl⟩;show .inl {rfl,.v rfl}
def giR (ga:GA):GI:=λm Q=>ga m λa b=>match a with
 | [.val (.v (.int j))]=>-1000000<=j/\j<=1000000/\Q (ic 0 j.toNat) b
 |_=>False
def giR2 (ga:GA):GI:=λm Q=>ga m λa b=>match a with
 | [.val (.v (.int i)),.val (.v (.int j))]=>(-1000000<=i/\i<=1000000/\-1000000<=j/\j<=1000000)/\Q (ic i (j - i).toNat) b
 |_=>False
def iw (c:Gl X "range")(d:X.mg "range"=MN)(e:VA X [a] ga)(hs:↥(aM [a] X.e=[(MP,eval a X.e)])):VI X u (.Call (.Name "range" p) [a] [] f) (giR ga):=⟨PI.sub (V4 c d e.out hs) λw H R g=>ub g λW m y i j h q=>⟨W,m,_,i,j,h,λz l n xs b l1 o s=>by
    split at b
    · obtain⟨x,rfl,r⟩:_:=cz s;cases(Rp.vI r).1;show{_,rfl,(),(),q _ l n _ b.2.2 l1 o (Xv 0 _)}
    · show b.elim⟩⟩
def Xw (d:Gl X "range")(e:X.mg "range"=MN)(f:VA X [a,b] ga)(hs:↥(aM [a,b] X.e=[(MP,eval a X.e),(MP,eval b X.e)]))(g:↥(aM [b] X.e=[(MP,eval b X.e)])):VI X A (.Call (.Name "range" p) [a,b] [] i) (giR2 ga):=⟨PI.sub (V5 d e f.out hs g) λC H R j=>ub j λW m D l n h q=>⟨W,m,_,l,n,h,λE o s xs c l1 u w=>by
    split at c
    · obtain⟨x,y,rfl,r,z⟩:_:=yg w;cases(Rp.vI r).1;cases(Rp.vI z).1;show{_,_,rfl,(),q _ o s _ c.2 l1 u (Xv _ _)}
    · show c.elim⟩⟩
end
end VL
namespace L2
open PySem PySem.Spec PyProof.Rows
open Sem (wp)
def itN (c:Bool):String:=if c then "tuple_iterator" else "list_iterator"
def ItK (c:Bool)(h:MR)(it l:MQ)(k:Nat):Prop:=∃o,h.get? it=KE o/\o.cls=.type (itN c)/\o.data=.fields #[.ref l,.int k 0]
def SqK (c:Bool)(h:MR)(l:MQ)(xs:AW):Prop:=match c with
 |true=>h.IsTuple l xs
 |false=>h.IsList l xs
def ItK.extBut (x:ItK c h it l k)(hs:mD b h h')(n:it≠b):ItK c h' it l k:=by
 obtain⟨o,a,r⟩:_:=x;show{o,hs it o n a,r}
theorem SqK.extBut (x:SqK c h l xs)(hs:mD b h h')(n:l≠b):SqK c h' l xs:=by
 cases c with
 |true=>show Heap.IsTuple.extBut (show h.IsTuple l xs from x) hs n
 |false=>show Heap.IsList.extBut (show h.IsList l xs from x) hs n
def SqK.lt (x:SqK c h l xs):l < h.objs.size:=by
 cases c with
 |true=>obtain⟨_,e,_⟩:_:=(show h.IsTuple l xs from x);show aS e
 |false=>obtain⟨_,e,_⟩:_:=(show h.IsList l xs from x);show aS e
section
variable {prog:aQ}{w:bB}{A:bX}{E:aK->aG->Prop}{s:aG}
def y4 (hi:ItK c s.heap it t k)(a:SqK c s.heap t its)(b:its[k]?=KE y)(d:∀h',ItK c h' it t (k+1)->eN it s.heap h'->Q y { s with heap:=h' }):aJ (aV prog w) A (dQ (.ref it)) Q E s:=by
 cases c with
 |true=>show drawT hi a b d
 |false=>show wpAny_nextOf_list_item hi a b d
def Hd (a:A.handled=MN)(hi:ItK c s.heap it t k)(b:SqK c s.heap t its)(d:its[k]?=MN)(f:∀h' e,mD it s.heap h'->(∃o,h'.get? e=KE o/\o.cls=.type "StopIteration")->E (.ref e) { s with heap:=h' }):aJ (aV prog w) A (dQ (.ref it)) Q E s:=by
 cases c with
 |true=>show Wp a hi b d f
 |false=>show wpAny_nextOf_list_end a hi b d f
end
def SqV (c:Bool)(K:aF)(H:Hp)(a:MQ)(xs:DK):Prop:=match c with
 |true=>SqT K H a xs
 |false=>SqL K H a xs
def Inv.sqv (I:Inv X b d H s)(h:SqV c X.K H a xs):∃its,Vals xs its/\SqK c s.heap a its.toArray/\xs.length<=sizeLine:=by
 cases c with
 |true=>obtain⟨its,r,p,z⟩:_:=I.tuple (show SqT X.K H a xs from h);show#v[its,r,p,z]
 |false=>obtain⟨its,r,p,z⟩:_:=I.list (show SqL X.K H a xs from h);show#v[its,r,p.isList,z]
def He (I:Inv X b d H s)(h:SqV c X.K H a xs)(k:SqV c X.K H a ys):xs=ys:=by
 cases c with
 |true=>show I.tuple_inj h k
 |false=>show I.list_inj h k
section
variable {prog:aQ}{w:bB}{A:bX}{E:aK->aG->Prop}{s:aG}
structure Zp (c d:Bool)(h:MR)(z TI TO i1 i2 l1 l2:MQ)(k:Nat):Prop where
 zip:pW h z TI TO .none
 its:lY h TI (.ref i1) (.ref i2)
 out:∃a b,lY h TO a b
 one:ItK c h i1 l1 k
 two:ItK d h i2 l2 k
def afs {c d:Bool}{z TI TO g i l1 l2:MQ}{k:Nat}{xs ys:AW}{x y:aK}{Q:aK->aG->Prop}(D:tH z TI TO g i l1 l2)(Z:Zp c d s.heap z TI TO g i l1 l2 k)
  (AA:SqK c s.heap l1 xs) (AC:SqK d s.heap l2 ys) (hx:xs[k]?=KE x) (hy:ys[k]?=KE y)
  (hQ:∀h',pW h' z TI TO (kU ‹s›)->lY h' TO x y->ItK c h' g l1 (k+1)->ItK d h' i l2 (k+1)->lY h' ‹s› x y->(∀c o,c≠z->c≠TO->c≠g->c≠i->s.heap.get? c=KE o->h'.get? c=KE o)->Q (.ref ‹s›) { s with heap:=h' }) :
  aJ (aV prog w) A (hU.«zip.__next__» {[.ref z],[]}) (λfin s'=>∃v,fin=.done (.ret v)/\Q v s') E s:=by
 obtain⟨hz,JO,⟨a,b,JP⟩,h1,h2⟩:_:=Z;change aJ _ _ (pB (.ref z) 2 >>= _) _ _ _;show aA (dF hz rfl (x:=.bool MP) rfl ?_);change aJ _ _ (pB (.ref z) 3 >>= _) _ _ _;show aA (dF hz rfl (x:=.ref TI) rfl ?_);show aA (eI JO rfl ?_);change aJ _ _ (eJ (.ref z) >>= _) _ _ _;show aA ?_;unfold eJ;show aA (dF hz rfl (x:=.none) rfl (wpAny_pure ?_));simp only[if_true];show aA (lN ?_);show aA (dF hz rfl (x:=.ref TO) rfl ?_);show aA (eT hz ∅ λha G sa=>?_)
 replace G:pW ha z TI TO .ellipsis:=G
 show aA ?_;simp only[List.zipIdx_cons,List.zipIdx_nil,List.forIn_cons,List.forIn_nil];show aA (aA (qN ?_));change aJ _ _ (dQ (.ref g) >>= _) _ _ _;show aA (y4 (h1.extBut sa.extBut D.i1z) (AA.extBut sa.extBut D.l1z) hx λhb LM l=>wpAny_pure ?_);have O:lY hb TO a b:=l.extBut _ _ D.TOi1 (sa.extBut _ _ D.TOz JP);show aA (eI O rfl ?_);show aA (pG O λhc H m=>?_)
 replace H:lY hc TO x b:=H
 show aA (sI (wpAny_pure ?_));show aA (aA (qN ?_));change aJ _ _ (dQ (.ref i) >>= _) _ _ _;show aA (y4 (((h2.extBut sa.extBut D.i2z).extBut l.extBut D.i12.symm).extBut m.extBut D.TOi2.symm) (((AC.extBut sa.extBut D.l2z).extBut l.extBut D.l2i1).extBut m.extBut D.l2TO) hy λhd I n=>wpAny_pure ?_);have T:lY hd TO x b:=n.extBut _ _ D.TOi2 H;show aA (eI T rfl ?_);show aA (pG T λf r p=>?_)
 replace r:lY f TO x y:=r
 show aA (sI (wpAny_pure (wpAny_pure ?_)));show aA (eI r rfl ?_);show aA (sQ ?_);have U:f.objs.size=‹s›:=(by rw[p.1,n.1,m.1,l.1,sa.1]);have Y:pW f z TI TO .ellipsis:=p.extBut _ _ D.TOz.symm (n.extBut _ _ D.i2z.symm (m.extBut _ _ D.TOz.symm (l.extBut _ _ D.i1z.symm G)));have ke:∀c o,c≠z->c≠TO->c≠g->c≠i->s.heap.get? c=KE o->f.get? c=KE o:=λe o j u J L q=>
  p.extBut _ _ u (n.extBut _ _ L (m.extBut _ _ u (l.extBut _ _ J (sa.extBut _ _ j q))))
 have e1:ItK c f g l1 (k+1):=((LM.extBut m.extBut D.TOi1.symm).extBut n.extBut D.i12).extBut p.extBut D.TOi1.symm;have e2:ItK d f i l2 (k+1):=I.extBut p.extBut D.TOi2.symm;have LN:z < f.objs.size:=aS Y;change aJ _ _ (gN (.ref z) (.ref f.objs.size) >>= _) _ _ _;show aA ?_;unfold gN;have zf:pW (f.push { cls:=.type "tuple",data:=.seq #[x,y] }) z TI TO .ellipsis:=aE _ Y;show aA (eT zf ∅ λhg N sg=>?_)
 replace N:pW hg z TI TO (kU f.objs.size):=N
 show eT N ∅ λhk C sk=>?_
 replace C:pW hk z TI TO (kU f.objs.size):=C
 have up:∀c o,c≠z->f.get? c=KE o->hk.get? c=KE o:=λc o j q=>sk.extBut _ _ j (sg.extBut _ _ j (aE _ q));have tk:lY hk f.objs.size x y:=sk.extBut _ _ (eX LN) (sg.extBut _ _ (eX LN) (aZ _ rfl));rw[U]at C tk;show wpAny_pure {_,rfl,?_};change Q (.ref f.objs.size) _;rw[U];obtain⟨w1,v1,r1⟩:_:=e1;obtain⟨w2,v2,r2⟩:_:=e2;show hQ hk C (up _ _ D.TOz r) {w1,up _ _ D.i1z v1,r1} {w2,up _ _ D.i2z v2,r2} tk λe o j u J L q=>up e o j (ke e o j u J L q)
def aft {c d:Bool}{z TI TO a b l1 l2:MQ}{k:Nat}{xs ys:AW}{x y:aK}{Q:AX->aG->Prop}(D:tH z TI TO a b l1 l2)(Z:Zp c d s.heap z TI TO a b l1 l2 k)
  (f:SqK c s.heap l1 xs) (g:SqK d s.heap l2 ys) (i:xs[k]?=KE x) (j:ys[k]?=KE y)
  (l:∀h',pW h' z TI TO (kU ‹s›)->lY h' TO x y->ItK c h' a l1 (k+1)->ItK d h' b l2 (k+1)->lY h' ‹s› x y->(∀c o,c≠z->c≠TO->c≠a->c≠b->s.heap.get? c=KE o->h'.get? c=KE o)->Q (KE (.ref ‹s›)) { s with heap:=h' }):aJ (aV prog w) A (iM (.ref z)) Q E s:=by
 have e:s.TypeIs (.ref z) "zip":={_,Z.zip,rfl};unfold iM;show aA (lX (dO (name:=dG "__next__") e F.slot_zip_next (dD F.slot_zip_next e F.entry_zip_next (afs D Z f g i j λh' m n p q r u=>wpAny_pure (l h' m n p q r u)) (F.args_zip_next_1 _))))
def afu {c d:Bool}{z TI TO m n l1 l2:MQ}{k:Nat}{xs ys:AW}{Q:Fin->aG->Prop}(I:A.handled=MN)(D:tH z TI TO m n l1 l2)(Z:Zp c d s.heap z TI TO m n l1 l2 k)
  (J:SqK c s.heap l1 xs) (AC:SqK d s.heap l2 ys) (BQ:xs[k]?=MN\/ys[k]?=MN)
  (L:∀h' e,(∀c o,c≠z->c≠TO->c≠m->c≠n->s.heap.get? c=KE o->h'.get? c=KE o)->(∃o,h'.get? e=KE o/\o.cls=.type "StopIteration")->E (.ref e) { s with heap:=h' }) :
  aJ (aV prog w) A (hU.«zip.__next__» {[.ref z],[]}) Q E s:=by
 obtain⟨hz,JO,⟨a,b,JP⟩,N,h2⟩:_:=Z;change aJ _ _ (pB (.ref z) 2 >>= _) _ _ _;show aA (dF hz rfl (x:=.bool MP) rfl ?_);change aJ _ _ (pB (.ref z) 3 >>= _) _ _ _;show aA (dF hz rfl (x:=.ref TI) rfl ?_);show aA (eI JO rfl ?_);change aJ _ _ (eJ (.ref z) >>= _) _ _ _;show aA ?_;unfold eJ;show aA (dF hz rfl (x:=.none) rfl (wpAny_pure ?_));simp only[if_true];show aA (lN ?_);show aA (dF hz rfl (x:=.ref TO) rfl ?_);show aA (eT hz ∅ λha p sa=>?_)
 replace p:pW ha z TI TO .ellipsis:=p
 show aA ?_;simp only[List.zipIdx_cons,List.zipIdx_nil,List.forIn_cons,List.forIn_nil];show aA (aA (qN ?_));change aJ _ _ (dQ (.ref m) >>= _) _ _ _;cases r:xs[k]? with
 |none=>
  show aA (Hd I (N.extBut sa.extBut D.i1z) (J.extBut sa.extBut D.l1z) r λu e f y=>?_);obtain⟨C,g,j⟩:_:=y;have O:pW u z TI TO .ellipsis:=f _ _ D.i1z.symm p;have G:e≠z:=λq=>(by subst q;rw[O]at g;cases g;simp at j);show eT O ∅ λT _ i=>L T e (λc o l _ H _ q=>i.extBut _ _ l (f _ _ H (sa.extBut _ _ l q))) {C,i.extBut _ _ G g,j}
 |some x=>
  have hy:ys[k]?=MN:=by
   rcases BQ with q | q;{rw[r]at q;cases q};{show q}
  show aA (y4 (N.extBut sa.extBut D.i1z) (J.extBut sa.extBut D.l1z) r λu LM f=>wpAny_pure ?_);have U:lY u TO a b:=f.extBut _ _ D.TOi1 (sa.extBut _ _ D.TOz JP);show aA (eI U rfl ?_);show aA (pG U λT oc i=>?_);show aA (sI (wpAny_pure ?_));show aA (aA (qN ?_));change aJ _ _ (dQ (.ref n) >>= _) _ _ _;show aA (Hd I (((h2.extBut sa.extBut D.i2z).extBut f.extBut D.i12.symm).extBut i.extBut D.TOi2.symm) (((AC.extBut sa.extBut D.l2z).extBut f.extBut D.l2i1).extBut i.extBut D.l2TO) hy λhd e Y y=>?_);obtain⟨C,g,j⟩:_:=y;have zd:pW hd z TI TO .ellipsis:=Y _ _ D.i2z.symm (i.extBut _ _ D.TOz.symm (f.extBut _ _ D.i1z.symm p));have G:e≠z:=λq=>(by subst q;rw[zd]at g;cases g;simp at j);show eT zd ∅ λhf _ sf=>L hf e (λe o l c2 H c4 q=>sf.extBut _ _ l (Y _ _ c4 (i.extBut _ _ c2 (f.extBut _ _ H (sa.extBut _ _ l q))))) {C,sf.extBut _ _ G g,j}
def aka {c d:Bool}{z TI TO a f l1 l2:MQ}{k:Nat}{xs ys:AW}{Q:AX->aG->Prop}(i:A.handled=MN)(D:tH z TI TO a f l1 l2)(Z:Zp c d s.heap z TI TO a f l1 l2 k)
  (j:SqK c s.heap l1 xs) (l:SqK d s.heap l2 ys) (m:xs[k]?=MN\/ys[k]?=MN)
  (n:∀h',(∀c o,c≠z->c≠TO->c≠a->c≠f->s.heap.get? c=KE o->h'.get? c=KE o)->Q MN { s with heap:=h' }):aJ (aV prog w) A (iM (.ref z)) Q E s:=by
 have g:s.TypeIs (.ref z) "zip":={_,Z.zip,rfl};unfold iM;show aA (lX (dO (name:=dG "__next__") g F.slot_zip_next (dD F.slot_zip_next g F.entry_zip_next (afu i D Z j l m λh' e p q=>?_) (F.args_zip_next_1 _))));obtain⟨o,r,u⟩:_:=q;show aA (iC (T:="StopIteration") (b:=MO) #v[o,r,u] sP ?_);show wpAny_pure (n _ p)
end
abbrev zp1 (c:Bool)(h:MR)(a:MQ):MR:=h.push { cls:=.type (itN c),data:=.fields #[.ref a,.int 0 0] }
abbrev zp2 (c d:Bool)(h:MR)(a b:MQ):MR:=(zp1 c h a).push { cls:=.type (itN d),data:=.fields #[.ref b,.int 0 0] }
abbrev zp3 (c d:Bool)(h:MR)(a b:MQ):MR:=(zp2 c d h a b).push { cls:=.type "tuple",data:=.seq #[.ref h.objs.size,.ref (zp1 c h a).objs.size] }
abbrev zp4 (c d:Bool)(h:MR)(a b:MQ):MR:=(zp3 c d h a b).push { cls:=.type "tuple",data:=.seq #[.none,.none] }
abbrev zp5 (c d:Bool)(h:MR)(a b:MQ):MR:=(zp4 c d h a b).push { cls:=.type "zip",data:=.fields #[.none,.bool MP,.bool MP,.ref (zp2 c d h a b).objs.size,.ref (zp3 c d h a b).objs.size] }
def aaz (c d:Bool)(a b:MQ)(xs ys:AW) :
  Meets (hU.«zip.__new__» {[.type "zip",.ref a,.ref b],[]}) (λ_ R s=>SqK c s.heap a xs/\SqK d s.heap b ys/\R (.ok (.ret (.ref (zp4 c d s.heap a b).objs.size))) { s with heap:=zp5 c d s.heap a b }):=
 .of_wp λprog w A R s h=>by
  obtain⟨e,f,g,i,os⟩:_:=s;obtain⟨m,n,h⟩:_:=h;have o:=sub_zip;cases c<;>cases d
  ·have j:pX (jJ ⟨e,f,g,i,os⟩) a xs:=m;have l:pX (jJ ⟨e.push { cls:=.type "list_iterator",data:=.fields #[.ref a,.int 0 0] },f,g,i,os⟩) b ys:=jE n _
   wp_walk using dJ j,dJ l
   show{_,rfl,h}
  ·have j:pX (jJ ⟨e,f,g,i,os⟩) a xs:=m;have l:pH (jJ ⟨e.push { cls:=.type "list_iterator",data:=.fields #[.ref a,.int 0 0] },f,g,i,os⟩) b ys:=Heap.IsTuple.push n _
   wp_walk using dJ j,fP l
   show{_,rfl,h}
  ·have j:pH (jJ ⟨e,f,g,i,os⟩) a xs:=m;have l:pX (jJ ⟨e.push { cls:=.type "tuple_iterator",data:=.fields #[.ref a,.int 0 0] },f,g,i,os⟩) b ys:=jE n _
   wp_walk using fP j,dJ l
   show{_,rfl,h}
  ·have j:pH (jJ ⟨e,f,g,i,os⟩) a xs:=m;have l:pH (jJ ⟨e.push { cls:=.type "tuple_iterator",data:=.fields #[.ref a,.int 0 0] },f,g,i,os⟩) b ys:=Heap.IsTuple.push n _
   wp_walk using fP j,fP l
   show{_,rfl,h}
section
variable {prog:aQ}{w:bB}{A:bX}{E:aK->aG->Prop}{s:aG}
def afv (p:SqK c s.heap a xs)(r:SqK d s.heap b ys)
  (h:∀h',Zp c d h' (‹s›+4) (‹s›+2) (‹s›+3) ‹s› (‹s›+1) a b 0->(∀c o,s.heap.get? c=KE o->h'.get? c=KE o)->h'.objs.size=‹s›+5->Q (.ref (‹s›+4)) { s with heap:=h' }):aJ (aV prog w) A (call (.type "zip") [.ref a,.ref b]) Q E s:=by
 show callType_new F.called_zip #v[] (F.typeCall_zip_2 _ _) (F.newCall_zip_2 _ _) (λobj=>F.args_object_init_3 obj _ _) F.entry_zip_new (aaz c d a b xs ys) {p,r,?_};have e:(zp1 c s.heap a).objs.size=‹s›+1:=eU ..;have f:(zp2 c d s.heap a b).objs.size=‹s›+2:=(by rw[eU,e]);have g:(zp3 c d s.heap a b).objs.size=‹s›+3:=(by rw[eU,f]);have i:(zp4 c d s.heap a b).objs.size=‹s›+4:=(by rw[eU,g]);have u:(zp5 c d s.heap a b).objs.size=‹s›+5:=(by rw[eU,i]);have j:(zp5 c d s.heap a b).get? (zp4 c d s.heap a b).objs.size=KE _:=aZ _ rfl;have l:(zp5 c d s.heap a b).get? (zp3 c d s.heap a b).objs.size=KE _:=aE _ (aZ _ rfl);have m:(zp5 c d s.heap a b).get? (zp2 c d s.heap a b).objs.size=KE _:=aE _ (aE _ (aZ _ rfl));have n:(zp5 c d s.heap a b).get? (zp1 c s.heap a).objs.size=KE _:=aE _ (aE _ (aE _ (aZ _ rfl)));have x:(zp5 c d s.heap a b).get? ‹s›=KE _:=aE _ (aE _ (aE _ (aE _ (aZ _ rfl))));change _/\_;rw[f,g,i]at j;rw[e,f]at m;rw[g]at l;rw[e]at n;rw[i];show{{_,j,rfl},h _ {j,m,{_,_,l},{_,x,rfl,rfl},{_,n,rfl,rfl}} (λc o q=>aE _ (aE _ (aE _ (aE _ (aE _ q))))) u}
end
def Hf (c d:Bool)(K:aF)(a b:MQ):It:=
 {λi H=>∃xs ys x y,SqV c K H a xs/\SqV d K H b ys/\xs[i]?=KE x/\ys[i]?=KE y,λi H v H'=>∃p x y,H p=MN/\v=.ref p/\(∀xs,SqV c K H a xs->xs[i]?=KE x)/\(∀ys,SqV d K H b ys->ys[i]?=KE y)/\H'=upd H p (.tup [x,y]),λi H=>∃xs ys,SqV c K H a xs/\SqV d K H b ys/\(xs.length<=i\/ys.length<=i)}
def afw {c d:Bool}{P:aQ}{w:bB}{K:aF}{es:BW}{j:Nat}{pos:Pos}{z TI TO i1 i2 a b:MQ}(D:tH z TI TO i1 i2 a b) :
  Aj P w K (.Tuple es j pos) (Hf c d K a b) [z,TI,TO,i1,i2] z (λk h=>Zp c d h z TI TO i1 i2 a b k) where
 mem:=by simp
 obj:=λk h Z c hc=>by
  obtain⟨u1,u2,⟨_,_,u3⟩,⟨o4,u4,_,v4⟩,⟨o5,u5,_,v5⟩⟩:_:=Z;simp only[aY,dU,or_false]at hc;rcases hc with q | q | q | q | q;{subst q;show{_,u1,λv e=>by cases(show sH _=qA v from e)}};{subst q;show{_,u2,λv e=>by cases(show vS _ _=qA v from e)}};{subst q;show{_,u3,λv e=>by cases(show vS _ _=qA v from e)}};{subst q;show{_,u4,λv e=>by rw[v4]at e;cases e}};{subst q;show{_,u5,λv e=>by rw[v5]at e;cases e}}
 keep:=λk h h' Z kk=>by
  obtain⟨u1,u2,⟨c1,c2,u3⟩,⟨o4,u4,r4⟩,⟨o5,u5,r5⟩⟩:_:=Z;show{kk z ∅ _ u1,kk TI ∅ _ u2,{c1,c2,kk TO ∅ _ u3},{o4,kk i1 ∅ _ u4,r4},{o5,kk i2 ∅ _ u5,r5}}
 item:=by
  intro X hP hw hK hc k f' s σ H E I hf Z hg;subst hP hw hK;obtain⟨xs,ys,x,y,hx,hy,ex,ey⟩:_:=hg;obtain⟨its,r1,p1,_⟩:_:=I.sqv hx;obtain⟨wL,r2,p2,_⟩:_:=I.sqv hy;obtain⟨u,eu,ru⟩:_:=r1.get ex;obtain⟨v,ev,rv⟩:_:=r2.get ey;show aft D Z p1 p2 (x:=u) (y:=v) (⇑eu) (⇑ev) λh1 b1 b2 b3 b4 b5 kk=>?_;show{_,rfl,wpAny_letOwnedTupleGo_zip b1 λh2 c1 sb=>?_};have ks:∀c o,c ∉ [z,TI,TO,i1,i2]->s.heap.get? c=KE o->h2.get? c=KE o:=λc o hc q=>by
   simp only[aY,dU,or_false,not_or]at hc;show sb.extBut _ _ hc.1 (kk c o hc.1 hc.2.2.1 hc.2.2.2.1 hc.2.2.2.2 q)
  have nz:‹s›≠z:=eX (aS Z.zip);have b6:lY h2 ‹s› u v:=sb.extBut _ _ nz b5;have I2:Inv X f' σ H { s with heap:=h2 }:=I.turnedAll (t':=s.toks) hf ks;have fT:kq X f' H ‹s›:=I.fpOk (aI _) (I.hok.fresh (aI _));have I3:Inv X f' σ (upd H ‹s› (.tup [x,y])) { s with heap:=h2 }:=I2.track fT I.sz
   {by change 2<=sizeLine;decide,[u,v],.cons ru (.cons rv .nil),{_,b6,rfl,_,rfl}}
  show{.ref ‹s›,_,I3,rfl,{_,x,y,fT.1,rfl,λus hu=>by rw[He I hu hx];show ex,λus hu=>by rw[He I hu hy];show ey,rfl},?_,λc hc=>?_};{obtain⟨w3,v3,q3⟩:_:=b3;obtain⟨w4,v4,q4⟩:_:=b4;show{c1,sb.extBut _ _ D.TIz (kk _ _ D.TIz D.TITO D.TIi1 D.TIi2 Z.its),{_,_,sb.extBut _ _ D.TOz b2},{w3,sb.extBut _ _ D.i1z v3,q3},{w4,sb.extBut _ _ D.i2z v4,q4}}}
  ·obtain⟨o,q,_⟩:∃o,s.heap.get? c=KE o/\True:=by
    obtain⟨u1,u2,⟨_,_,u3⟩,⟨o4,u4,_⟩,⟨o5,u5,_⟩⟩:_:=Z;simp only[aY,dU,or_false]at hc;rcases hc with q | q | q | q | q;{subst q;show{_,u1,trivial}};{subst q;show{_,u2,trivial}};{subst q;show{_,u3,trivial}};{subst q;show{_,u4,trivial}};{subst q;show{_,u5,trivial}}
   rw[bc (bH (aS q))];show(hf c hc).1
 done:=by
  intro X hP hw hK hc k f' s σ H E I hf Z hg;subst hP hw hK;obtain⟨xs,ys,hx,hy,BQ⟩:_:=hg;obtain⟨its,r1,p1,_⟩:_:=I.sqv hx;obtain⟨wL,r2,p2,_⟩:_:=I.sqv hy;have l1:=r1.length;have l2:=r2.length;have en:its.toArray[k]?=MN\/wL.toArray[k]?=MN:=by
   rcases BQ with q | q;{show .inl (by simp;omega)};{show .inr (by simp;omega)}
  show aka (I.ok.hd hc) D Z p1 p2 en λh1 kk=>{rfl,I.turnedAll (t':=s.toks) hf λc o hc q=>?_};simp only[aY,dU,or_false,not_or]at hc;show kk c o hc.1 hc.2.2.1 hc.2.2.2.1 hc.2.2.2.2 q
 self:=λ_ _ _ _ _ Z h=>wpAny_pyIter_zip Z.zip h
section
variable {X:Cx}
def iZp (c d:Bool)(K:aF)(f:TA):TI:=λg H R=>f g H λvs e=>∃a b xs ys,vs=[.ref a,.ref b]/\SqV c K e a xs/\SqV d K e b ys/\R (Hf c d K a b) e
def pi_zp {c d:Bool}{l f:MS}{n:TA}{p g C:Pos}{D:BW}{j:Nat}(E:Gl X "zip")(G:X.mg "zip"=MN)(J:PA X [l,f] n)(hs:↥(aM [l,f] X.e=[(MP,eval l X.e),(MP,eval f X.e)]))
  (o:↥(aM [f] X.e=[(MP,eval f X.e)])):PI X (.Tuple D j C) (.Call (.Name "zip" p) [l,f] [] g) (iZp c d X.K n):=by
 intro r s w H R I h;show Call_ (j7 I E G (by kernel_rfl:dY (dG "zip")=KE (.type "zip")) (eB (thn (J g r s w H _ I h) λus m ⟨vs,x,i,L,N⟩=>?_) (by rw[hs,o]) (by rw[o];rfl)));obtain⟨a,b,xs,ys,e,O,T,q⟩:_:=N;subst e;obtain⟨u,v,rfl,U,Y⟩:_:=En L;cases(show u=bQ a from U);cases(show v=bQ b from Y);obtain⟨its,k1,y,_⟩:_:=i.sqv O;obtain⟨wL,k2,z,_⟩:_:=i.sqv T;have a1:a < ‹m›:=y.lt;have a2:b < ‹m›:=z.lt;show afv y z λh2 Z kk sz=>?_;have I2:Inv X r w x { m with heap:=h2 }:=i.kept (t':=m.toks) kk;show wpAny_pyIter_zip Z.zip {_,_,_,_,x,rfl,I2,afw (zipApart_new a1 a2),Z,λc A=>?_,q};show i.fpOk ?_ (i.hok.fresh ?_)
 all_goals
  simp only[aY,dU,or_false]at A;rcases A with q | q | q | q | q<;>subst q<;>omega
end
open Sem (wp)
open AutoSeq1 (wpAny_loadPart')
def Xx (c:Bool)(l:MQ)(items:AW) :
  Meets (hU.«enumerate.__new__» {[.type "enumerate",.ref l],[]}) (λ_ R s=>SqK c s.heap l items/\R (.ok (.ret (.ref (s.heap.push { cls:=.type (itN c),data:=.fields #[.ref l,.int 0 0] }).objs.size))) { s with heap:=(s.heap.push { cls:=.type (itN c),data:=.fields #[.ref l,.int 0 0] }).push { cls:=.type "enumerate",data:=.fields #[.none,.bool MP,.ref ‹s›,kU 0,.none,.none] } }):=
 .of_wp λprog w A R s h=>by
  obtain⟨b,g,d,e,os⟩:_:=s;obtain⟨f,h⟩:_:=h;have i:=sub_enumerate;cases c
  ·have a:pX (jJ ⟨b,g,d,e,os⟩) l items:=f
   wp_walk using dJ a
   show wpAny_stack_any λst=>wpAny_pure ?_
   split
   ·rename_i c _ _ _ _ _
    cases(c == mU "enumerate")
    ·wp_walk using dJ a
     show{_,rfl,h}
    ·wp_walk using dJ a
     show{_,rfl,h}
   ·wp_walk using dJ a
    show{_,rfl,h}
  ·have a:pH (jJ ⟨b,g,d,e,os⟩) l items:=f
   wp_walk using fP a
   show wpAny_stack_any λst=>wpAny_pure ?_
   split
   ·rename_i c _ _ _ _ _
    cases(c == mU "enumerate")
    ·wp_walk using fP a
     show{_,rfl,h}
    ·wp_walk using fP a
     show{_,rfl,h}
   ·wp_walk using fP a
    show{_,rfl,h}
section
variable {prog:aQ}{w:bB}{A:bX}{E:aK->aG->Prop}{s:aG}
def aba (d:SqK c s.heap l items)
  (h:∀h',nX h' (‹s›+1) ‹s› 0 .none->ItK c h' ‹s› l 0->h'.objs.size=‹s›+2->(∀b o,s.heap.get? b=KE o->h'.get? b=KE o)->Q (.ref (‹s›+1)) { s with heap:=h' }) :
  aJ (aV prog w) A (call (.type "enumerate") [.ref l]) Q E s:=by
 show callType_new F.called_enumerate #v[] (F.typeCall_enumerate_1 _) (F.newCall_enumerate_1 _) (λobj=>F.args_object_init_2 obj _) F.entry_enumerate_new (Xx c l items) {d,?_};have hz:(s.heap.push { cls:=.type (itN c),data:=.fields #[.ref l,.int 0 0] }).objs.size=‹s›+1:=eU ..;change _/\_;rw[hz];have a:nX ((s.heap.push { cls:=.type (itN c),data:=.fields #[.ref l,.int 0 0] }).push { cls:=.type "enumerate",data:=.fields #[.none,.bool MP,.ref ‹s›,kU 0,.none,.none] }) (‹s›+1) ‹s› 0 .none:=by
  have z:=aZ (s.heap.push { cls:=.type (itN c),data:=.fields #[.ref l,.int 0 0] }) (o:={ cls:=.type "enumerate",data:=.fields #[.none,.bool MP,.ref ‹s›,kU 0,.none,.none] }) rfl;rw[hz]at z;show z
 show{{_,a,rfl},h _ a {_,aE _ (aZ _ rfl),rfl,rfl} (by rw[eU,hz]) λb o x=>aE _ (aE _ x)}
def abb {c:Bool}{i:Nat}{items:AW}{Q:aK->aG->Prop}(U:nX s.heap e it i old)(CG:ItK c s.heap it l i)(hl:SqK c s.heap l items)(hx:items[i]?=KE x)(p:e≠it)
  (hQ:∀h',uO h' e it ((i:Int)+1) x ‹s›->ItK c h' it l (i+1)->h'.get? ‹s›=KE { cls:=.type "tuple",data:=.seq #[.int i s.toks,x] }->h'.objs.size=‹s›+1->(∀b o,b≠e->b≠it->s.heap.get? b=KE o->h'.get? b=KE o)->Q (.ref ‹s›) { s with heap:=h',toks:=s.toks+1 }) :
  aJ (aV prog w) A (hU.«enumerate.__next__» {[.ref e],[]}) (λfin s'=>∃v,fin=.done (.ret v)/\Q v s') E s:=by
 obtain⟨f,g,d,a,os⟩:_:=s;change aJ _ _ (pB (.ref e) 2 >>= _) _ _ _;show aA (dF U rfl (x:=.ref it) rfl ?_);show aA (y4 CG hl hx λj i1 q=>?_)
 replace q:eN it f j:=q
 have J:nX j e it i old:=(q.2 e p).trans U;change aJ _ _ (pB (.ref e) 3 >>= _) _ _ #v[j,g,d,a,os];show aA (dF J rfl (x:=kU i) rfl ?_);change aJ _ _ (pB (.ref e) 4 >>= _) _ _ #v[j,g,d,a,os];show aA (dF J rfl (x:=.none) rfl ?_);change aJ _ _ (mkInt i >>= _) _ _ #v[j,g,d,a,os];show aA (wpAny_mkInt ?_);change aJ _ _ (setField (.ref e) 3 (kU ((i:Int)+1)) >>= _) _ _ {j,g,d,a+1,os};show aA (eT J ∅ λH L u=>?_)
 replace u:eN e j H:=u
 replace L:nX H e it ((i:Int)+1) old:=L
 change aJ _ _ (setField (.ref e) 4 .none >>= _) _ _ {H,g,d,a+1,os};show aA (eT L ∅ λm N y=>?_)
 replace y:eN e H m:=y
 replace N:nX m e it ((i:Int)+1) old:=N
 change aJ _ _ (newTuple [.int i a,x] >>= _) _ _ {m,g,d,a+1,os};show aA (sQ ?_);have O:nX (m.push { cls:=.type "tuple",data:=.seq #[.int i a,x] }) e it ((i:Int)+1) old:=aE _ N;generalize I:m.push { cls:=.type "tuple",data:=.seq #[.int i a,x] }=z at O;have hsz:m.objs.size=f.objs.size:=(by rw[y.1,u.1,q.1]);have Y:e < f.objs.size:=aS U;have t4:z.get? f.objs.size=KE { cls:=.type "tuple",data:=.seq #[.int i a,x] }:=(by rw[<-I,<-hsz];show aZ _ rfl);have z4:z.objs.size=f.objs.size+1:=(by rw[<-I,eU,hsz]);have k4:∀b o,b≠e->b≠it->f.get? b=KE o->z.get? b=KE o:=λb o n EB hb=>by
  rw[<-I];show aE _ (y.extBut b o n (u.extBut b o n (q.extBut b o EB hb)))
 have i4:ItK c z it l (i+1):=by
  rw[<-I];obtain⟨o,ho,r⟩:_:=(i1.extBut u.extBut (Ne.symm p)).extBut y.extBut (Ne.symm p);show{o,aE _ ho,r}
 change aJ _ _ (eJ (.ref e) >>= _) _ _ {z,g,d,a+1,os};rw[hsz];clear I N y L u J q i1 hsz m H j;show aA ?_;unfold eJ;show aA (dF O rfl (x:=.none) rfl (wpAny_pure ?_));simp only[if_true];show aA (lN ?_);show aA (dF O rfl (x:=old) rfl ?_);show aA (eT O ∅ λT e5 C=>?_)
 replace C:eN e z T:=C
 replace e5:nX T e it ((i:Int)+1) x:=e5
 change aJ _ _ (gN (.ref e) (.ref f.objs.size) >>= _) _ _ {T,g,d,a+1,os};show aA ?_;unfold gN;show aA (eT e5 ∅ λh6 e6 D=>?_)
 replace D:eN e T h6:=D
 replace e6:uO h6 e it ((i:Int)+1) x f.objs.size:=e6
 show eT e6 ∅ λh7 e7 G=>?_
 replace G:eN e h6 h7:=G
 replace e7:uO h7 e it ((i:Int)+1) x f.objs.size:=e7
 show aA (sI (wpAny_pure {_,rfl,hQ h7 e7 ?_ ?_ ?_ ?_}));{show((i4.extBut C.extBut (Ne.symm p)).extBut D.extBut (Ne.symm p)).extBut G.extBut (Ne.symm p)};{show G.extBut _ _ (eX Y) (D.extBut _ _ (eX Y) (C.extBut _ _ (eX Y) t4))};{rw[G.1,D.1,C.1,z4]};{show λb o n EB hb=>G.extBut b o n (D.extBut b o n (C.extBut b o n (k4 b o n EB hb)))}
def abd {c:Bool}{i:Nat}{items:AW}{Q:AX->aG->Prop}(f:nX s.heap e it i old)(j:ItK c s.heap it l i)(m:SqK c s.heap l items)(n:items[i]?=KE x)(p:e≠it)
  (q:∀h',uO h' e it ((i:Int)+1) x ‹s›->ItK c h' it l (i+1)->h'.get? ‹s›=KE { cls:=.type "tuple",data:=.seq #[.int i s.toks,x] }->h'.objs.size=‹s›+1->(∀b o,b≠e->b≠it->s.heap.get? b=KE o->h'.get? b=KE o)->Q (KE (.ref ‹s›)) { s with heap:=h',toks:=s.toks+1 }):aJ (aV prog w) A (iM (.ref e)) Q E s:=by
 have g:s.TypeIs (.ref e) "enumerate":={_,f,rfl};unfold iM;show aA (lX (dO (name:=dG "__next__") g F.slot_enumerate_next (dD F.slot_enumerate_next g F.entry_enumerate_next (abb f j m n p λh' a b c d k=>wpAny_pure (q h' a b c d k)) (F.args_enumerate_next_1 _))))
def afx {c:Bool}{i:Nat}{items:AW}{Q:AX->aG->Prop}(f:A.handled=MN)(a:nX s.heap e it i old)(g:ItK c s.heap it l i)(j:SqK c s.heap l items)(m:items[i]?=MN)
  (n:∀h',mD it s.heap h'->Q MN { s with heap:=h' }):aJ (aV prog w) A (iM (.ref e)) Q E s:=by
 have d:s.TypeIs (.ref e) "enumerate":={_,a,rfl};unfold iM;show aA (lX (dO (name:=dG "__next__") d F.slot_enumerate_next (dD F.slot_enumerate_next d F.entry_enumerate_next ?_ (F.args_enumerate_next_1 _))));change aJ _ _ (pB (.ref e) 2 >>= _) _ _ _;show aA (dF a rfl (x:=.ref it) rfl ?_);show aA (Hd f g j m λh' x ex p=>?_);obtain⟨o,q,r⟩:_:=p;show aA (iC (T:="StopIteration") (b:=MO) #v[o,q,r] sP ?_);show wpAny_pure (n _ ex)
end
structure EnumK (c:Bool)(h:MR)(e it l:MQ)(k:Nat):Prop where
 en:∃old,nX h e it k old
 one:ItK c h it l k
def Itek (c:Bool)(K:aF)(a:MQ):It:=
 {λi H=>∃xs x,SqV c K H a xs/\xs[i]?=KE x,λi H v H'=>∃p x,H p=MN/\v=.ref p/\(∀xs,SqV c K H a xs->xs[i]?=KE x)/\H'=upd H p (.tup [.int (i:Int),x]),λi H=>∃xs,SqV c K H a xs/\xs.length<=i}
def abf {c:Bool}{P:aQ}{w:bB}{K:aF}{es:BW}{j:Nat}{pos:Pos}{e it a:MQ}(xN:e≠it)(hae:a≠e)(hai:a≠it) :
  Aj P w K (.Tuple es j pos) (Itek c K a) [e,it] e (λk h=>EnumK c h e it a k) where
 mem:=by simp
 obj:=λk h Z c hc=>by
  obtain⟨⟨old,u1⟩,⟨o4,u4,_,v4⟩⟩:_:=Z;simp only[aY,dU,or_false]at hc;rcases hc with q | q;{subst q;show{_,u1,λv e=>by cases(show sH _=qA v from e)}};{subst q;show{_,u4,λv e=>by rw[v4]at e;cases e}}
 keep:=λk h h' Z kk=>by
  obtain⟨⟨old,u1⟩,⟨o4,u4,r4⟩⟩:_:=Z;show{{old,kk e ∅ _ u1},{o4,kk it ∅ _ u4,r4}}
 item:=by
  intro X hP hw hK hc k f' s σ H E I hf Z hg;subst hP hw hK;obtain⟨xs,x,hx,ex⟩:_:=hg;obtain⟨its,r1,p1,_⟩:_:=I.sqv hx;obtain⟨u,eu,ru⟩:_:=r1.get ex;obtain⟨⟨old,u1⟩,u2⟩:_:=Z;show abd u1 u2 p1 (x:=u) (⇑eu) xN λh1 b1 b2 b3 b4 kk=>?_;show{_,rfl,wpAny_letOwnedTupleGo_enum b1 λh2 c1 sb=>?_};have ks:∀c o,c ∉ [e,it]->s.heap.get? c=KE o->h2.get? c=KE o:=λc o hc q=>by
   simp only[aY,dU,or_false,not_or]at hc;show sb.extBut _ _ hc.1 (kk c o hc.1 hc.2 q)
  have ne:‹s›≠e:=eX (aS u1);have b5:=sb.extBut _ _ ne b3;have I2:Inv X f' σ H { s with heap:=h2,toks:=s.toks+1 }:=I.turnedAll (t':=s.toks+1) hf ks;have fT:kq X f' H ‹s›:=I.fpOk (aI _) (I.hok.fresh (aI _));have I3:Inv X f' σ (upd H ‹s› (.tup [.int (k:Int),x])) { s with heap:=h2,toks:=s.toks+1 }:=I2.track fT I.sz
   {by change 2<=sizeLine;decide,[.int k s.toks,u],.cons {_,rfl} (.cons ru .nil),{_,b5,rfl,_,rfl}}
  show{.ref ‹s›,_,I3,rfl,{_,x,fT.1,rfl,λus hu=>by rw[He I hu hx];show ex,rfl},?_,λc hc=>?_};{obtain⟨w3,v3,q3⟩:_:=b2;show{{_,c1},{w3,sb.extBut _ _ (Ne.symm xN) v3,q3}}}
  ·obtain⟨o,q⟩:∃o,s.heap.get? c=KE o:=by
    obtain⟨o4,u4,_⟩:_:=u2;simp only[aY,dU,or_false]at hc;rcases hc with q | q;{subst q;show{_,u1}};{subst q;show{_,u4}}
   rw[bc (bH (aS q))];show(hf c hc).1
 done:=by
  intro X hP hw hK hc k f' s σ H E I hf Z hg;subst hP hw hK;obtain⟨xs,hx,BQ⟩:_:=hg;obtain⟨its,r1,p1,_⟩:_:=I.sqv hx;obtain⟨⟨old,u1⟩,u2⟩:_:=Z;have l1:=r1.length;show afx (I.ok.hd hc) u1 u2 p1 (by simp;omega) λh1 kk=>{rfl,I.turnedAll (t':=s.toks) hf λc o hc q=>?_};simp only[aY,dU,or_false,not_or]at hc;show kk c o hc.2 q
 self:=λ_ _ _ _ _ Z h=>let ⟨_,u⟩:=Z.en;wpAny_pyIter_enum u h
section
variable {X:Cx}
def iEnK (c:Bool)(K:aF)(d:TA):TI:=λe H R=>d e H λvs b=>∃a xs,vs=[.ref a]/\SqV c K b a xs/\R (Itek c K a) b
def Xy {c:Bool}{f:MS}{i:TA}{p b z:Pos}{A:BW}{j:Nat}(C:Gl X "enumerate")(D:X.mg "enumerate"=MN)(E:PA X [f] i)(hs:↥(aM [f] X.e=[(MP,eval f X.e)]))
  (l:↥(aM [] X.e=[])):PI X (.Tuple A j z) (.Call (.Name "enumerate" p) [f] [] b) (iEnK c X.K i):=by
 intro m s n H R I h;show Call_ (j7 I C D (by kernel_rfl:dY (dG "enumerate")=KE (.type "enumerate")) (eB (thn (E b m s n H _ I h) λus d ⟨vs,o,g,G,J⟩=>?_) (by rw[hs,l]) (by rw[l];rfl)));obtain⟨a,xs,e,L,q⟩:=J;subst e;obtain⟨u,rfl,N⟩:=jg G;cases(show u=bQ a from N);obtain⟨its,Y,r,_⟩:=g.sqv L;have w:a < ‹d›:=r.lt;show aba r λO x T sz U=>?_;have I2:Inv X m n o { d with heap:=O }:=g.kept (t':=d.toks) U;show wpAny_pyIter_enum x {_,_,_,_,o,rfl,I2,abf (e:=‹d›+1) (it:=‹d›) (a:=a) (Nat.succ_ne_self _) (bH (qX w)) (bH w),{{_,x},T},λc y=>?_,q};show g.fpOk ?_ (g.hok.fresh ?_)
 all_goals
  simp only[aY,dU,or_false]at y;rcases y with q | q<;>subst q<;>lia
end
end L2
namespace VL
open PySem L2 PySem.Deep PySem.SeqAt
section
variable {X:Cx}
def prs (l m:DQ):DQ:=uP (λa b=>Tr.tup [a,b]) l m
def M1 {l m:DQ}{i:Nat}(h:(prs l m)[i]?=KE d):∃a b,l[i]?=KE a/\m[i]?=KE b/\d=.tup [a,b]:=by
 unfold prs at h;rw[List.getElem?_zipWith]at h
 split at h
 ·rename_i a b c e
  cases h;show#v[a,b,c,e,rfl]
 ·cases h
def Hg (l m:DQ):(prs l m).length=min l.length m.length:=by unfold prs;rw[List.length_zipWith]
def sq_zp {b:B}{F:Hp}{a n:MQ}{xs ys:DK}{l m:DQ}{c d:Bool}(h:∀e,Same F e->SqV c b.K e a xs)(r:Rps b F xs l)(h':∀e,Same F e->SqV d b.K e n ys)(o:Rps b F ys m):Sq b F (Hf c d b.K a n) (prs l m):=λT e f q i=>by
 have g:=h e (Same.tr f q);have j:=h' e (Same.tr f q);show{λhi=>{xs,ys,g,j,by rw[r.length,o.length];rw[Hg]at hi;lia},λd hd=>?_};obtain⟨C,D,E,G,rfl⟩:=M1 hd;obtain⟨x,s,H⟩:=r.get E;obtain⟨y,u,I⟩:=o.get G;show{#v[xs,ys,x,y,g,j,s,u],?_};intro z U J;obtain⟨p,Y,y',L,rfl,N,O,rfl⟩:=J;have w:=N xs g;rw[s]at w;cases w;have A:=O ys j;rw[u]at A;cases A;show .inr {p,[x,y],[C,D],L,rfl,rfl,.cons (H.mono f) (.cons (I.mono f) .nil),rfl}
def akb {xs ys:DK}{l m:DQ}{c d:Bool}{R:It->Hp->Prop}(hs:Same F H)(h:∀f,Same F f->SqV c b.K f a xs)(r:Rps b F xs l)(h':∀f,Same F f->SqV d b.K f g ys)(j:Rps b F ys m)(q:Sq b F (Hf c d b.K a g) (prs l m)->R (Hf c d b.K a g) H) :
  ∃e i us vs,[V.ref a,V.ref g]=[.ref e,.ref i]/\SqV c b.K H e us/\SqV d b.K H i vs/\R (Hf c d b.K e i) H:={a,g,xs,ys,rfl,h H hs,h' H hs,q (sq_zp h r h' j)}
def Ur (ga:GA):GI:=λm Q=>ga m λa b=>match a with
 | [.val (.lst l),.val (.lst k)]=>Q (prs l k) b
 |_=>False
def Hh (s:Gl X "zip")(u:X.mg "zip"=MN)(w:VA X [g,f] ga)(hs:↥(aM [g,f] X.e=[(MP,eval g X.e),(MP,eval f X.e)]))(z:↥(aM [f] X.e=[(MP,eval f X.e)])):VI X (.Tuple U j Y) (.Call (.Name "zip" p) [g,f] [] A) (Ur ga):=⟨PI.sub (pi_zp (c:=MP) (d:=MP) s u w.out hs z) λσ H R C=>ub C λW m R' D E h q=>⟨W,m,_,D,E,h,λwI G I xs i l1 o J=>by
    split at i
    · obtain⟨x,y,rfl,r,L⟩:=yg J;obtain⟨a,xs,rfl,N,O⟩:=Rp.lstI r;obtain⟨a',ys,rfl,l,n⟩:=Rp.lstI L;show akb (b:=X.B) (c:=MP) (d:=MP) o.ok.sub (λH e=>SqL.of (e _ _ N)) O (λH e=>SqL.of (e _ _ l)) n λT=>q _ G I _ i l1 o T
    · show i.elim⟩⟩
def jh (l:DQ):DQ:=l.mapIdx λi d=>.tup [.v (.int i),d]
def abg {l:DQ}{i:Nat}(h:(jh l)[i]?=KE d):∃a,l[i]?=KE a/\d=.tup [.v (.int i),a]:=by
 unfold jh at h;rw[pI]at h;cases e:l[i]? with
 |none=>rw[e]at h;cases h
 |some a=>rw[e]at h;cases h;show#v[a,rfl,rfl]
def Xz (l:DQ):(jh l).length=l.length:=by unfold jh;rw[List.length_mapIdx]
def X0 {b:B}{F:Hp}{a:MQ}{xs:DK}{l:DQ}{c:Bool}(h:∀e,Same F e->SqV c b.K e a xs)(r:Rps b F xs l):Sq b F (Itek c b.K a) (jh l):=λA e g n i=>by
 have f:=h e (Same.tr g n);show{λhi=>{xs,f,by rw[r.length];rw[Xz]at hi;show hi},λd hd=>?_};obtain⟨o,q,rfl⟩:=abg hd;obtain⟨x,j,s⟩:=r.get q;show{#v[xs,x,f,j],?_};intro z C u;obtain⟨p,D,w,rfl,y,rfl⟩:=u;have m:=y xs f;rw[j]at m;cases m;show .inr {p,_,[_,o],w,rfl,rfl,.cons (.v rfl) (.cons (s.mono g) .nil),rfl}
def giE (ga:GA):GI:=λm Q=>ga m λa b=>match a with
 | [.val (.tup l)]=>Q (jh l) b
 |_=>False
def M4 (ga:GA):GI:=λm Q=>ga m λa b=>match a with
 | [.val (.lst l)]=>Q (jh l) b
 |_=>False
def afy (l:Gl X "enumerate")(n:X.mg "enumerate"=MN)(o:VA X [d] ga)(hs:↥(aM [d] X.e=[(MP,eval d X.e)])):VI X (.Tuple E j G) (.Call (.Name "enumerate" p) [d] [] s) (giE ga):=⟨PI.sub (Xy (c:=MO) l n o.out hs) λI H R u=>ub u λW m J w y h q=>⟨W,m,_,w,y,h,λL z A xs f l1 g C=>by
    split at f
    · obtain⟨x,rfl,r⟩:=cz C;obtain⟨a,xs,rfl,i,D⟩:=Rp.tupI r;show{a,xs,rfl,i.same g.ok.sub,q _ z A _ f l1 g (X0 (b:=X.B) (c:=MO) (λH e=>i.same e) D)}
    · show f.elim⟩⟩
def y6 (l:Gl X "enumerate")(n:X.mg "enumerate"=MN)(o:VA X [d] ga)(hs:↥(aM [d] X.e=[(MP,eval d X.e)])):VI X (.Tuple E j G) (.Call (.Name "enumerate" p) [d] [] s) (M4 ga):=⟨PI.sub (Xy (c:=MP) l n o.out hs) λI H R u=>ub u λW m J w y h q=>⟨W,m,_,w,y,h,λL z A xs f l1 g C=>by
    split at f
    · obtain⟨x,rfl,r⟩:=cz C;obtain⟨a,xs,rfl,i,D⟩:=Rp.lstI r;show{a,xs,rfl,SqL.of (g.ok.sub _ _ i),q _ z A _ f l1 g (X0 (b:=X.B) (c:=MP) (λH e=>SqL.of (e _ _ i)) D)}
    · show f.elim⟩⟩
def akc (h:F a=KE (.lst xs))(r:Rps b F xs l):Sq b F (Itv b.K a xs.length) l.reverse:=λs j e m i=>by
 have f:SqL b.K j a xs:=SqL.of (m _ _ (e _ _ h));have g:=r.length;show{λhi=>by rw[fH,<-g]at hi;show hi,λd hd=>?_};have n:i < l.length:=(by have:=bz hd;rw[fH]at this;show this);rw[List.getElem?_reverse n]at hd;obtain⟨x,c,o⟩:=r.get hd;rw[<-g]at c;show{{xs,x,f,rfl,(),c},?_};intro y u p;obtain⟨rfl,q⟩:=p;have:=q xs f;rw[c]at this;cases this;show .inl {rfl,o.mono e}
def giV (ga:GA):GI:=λm Q=>ga m λa b=>match a with
 | [.val (.lst l)]=>Q l.reverse b
 |_=>False
def akd (f:Gl X "reversed")(g:X.mg "reversed"=MN)(i:VA X [b] ga)(hs:↥(aM [b] X.e=[(MP,eval b X.e)])):VI X z (.Call (.Name "reversed" p) [b] [] j) (giV ga):=⟨PI.sub (aiy f g i.out hs) λA H R l=>ub l λW m C n o h q=>⟨W,m,_,n,o,h,λD s u xs c l1 d w=>by
    split at c
    · obtain⟨x,rfl,r⟩:=cz w;obtain⟨a,xs,rfl,e,y⟩:=Rp.lstI r;show{a,xs,rfl,SqL.of (d.ok.sub _ _ e),q _ s u _ c l1 d (akc e y)}
    · show c.elim⟩⟩
def B6 (n:Nat):DQ:=(bA n).map λi:Nat=>Tr.v (.int ((n:Int) - 1 - (i:Int)))
def afz (n:Nat):Sq b F (Itdn ((n:Int) - 1) n) (B6 n):=λc e f g i=>by
 show{λhi=>by unfold B6 at hi;rw[aC,bP]at hi;show hi,λd hd=>?_};unfold B6 at hd;rw[aN]at hd;by_cases hi:i < n;{rw[cP hi]at hd;cases hd;show{hi,?_};intro y j a;obtain⟨rfl,rfl⟩:=a;show .inl {rfl,.v rfl}};{rw[cU (⇑hi)]at hd;cases hd}
def giD (ga:GA):GI:=λm Q=>ga m λa b=>match a with
 | [.val (.v (.int i)),.val (.v (.int j)),.val (.v (.int k))]=>∃n:Nat,i=(n:Int) - 1/\j=-1/\k=-1/\n < 1000000/\Q (B6 n) b
 |_=>False
def aga (e:Gl X "range")(f:X.mg "range"=MN)(g:VA X [a,b,c] ga)(hs:↥(aM [a,b,c] X.e=[(MP,eval a X.e),(MP,eval b X.e),(MP,eval c X.e)]))(i:↥(aM [b,c] X.e=[(MP,eval b X.e),(MP,eval c X.e)])):VI X G (.Call (.Name "range" p) [a,b,c] [] j) (giD ga):=⟨PI.sub (aao e f g.out hs i) λI H R l=>ub l λW m J o s h q=>⟨W,m,_,o,s,h,λL u w xs d l1 x A=>by
    split at d
    · obtain⟨n,rfl,rfl,rfl,C,d⟩:_:=d;cases A with
      |cons r t=>
        obtain⟨y,z,rfl,D,E⟩:_:=yg t;cases(Rp.vI r).1;cases(Rp.vI D).1;cases(Rp.vI E).1;show{n,rfl,C,q _ u w _ d l1 x (afz n)}
    · show d.elim⟩⟩
def fgt (L:L1)(m:M):M:={L.foldl (λl i=>l.set i MN) m.loc,m.cel}
theorem Rel.fgt:∀{L m},Rel b W m e->Rel b W (fgt L m) e
 | [],m,d=>d
 |i::L,m,d=>by
  change Rel b W (VL.fgt L {m.loc.set i MN,m.cel}) e;show Rel.fgt {d.ok,λk w hk=>?_,by change(m.loc.set i MN).length=_;rw[hI];show d.len};by_cases c:k=i;{subst c;have a:(m.loc.set k MN)[k]?=KE (KE w):=hk;by_cases f:k < m.loc.length;{rw[cZ f]at a;cases a};{rw[cU (by rw[hI];lia)]at a;cases a}};{have a:(m.loc.set i MN)[k]?=KE (KE w):=hk;rw[cS (λz=>c z.symm)]at a;show d.loc k w a}
def gy (L:L1)(t:Tg)(g:GS)(E:t8):DQ->M->Prop
 | [],m=>E.nx m
 |d::ds,m=>gTg t d m λb=>g { E with nx:=λa=>gy L t g E ds (fgt L a),ct:=λa=>gy L t g E ds (fgt L a),bk:=E.nx } b
def fg (L:L1)(f:GI)(t:Tg)(g:GS):GS:=λE m=>f m λds a=>gy L t g E ds a
def y8 {b:B}{W W2:Wd}{m:M}{f:St}{x:V}{d:Tr}{e:Hp}(a:Rel b W m f)(h:(e=W.H/\Rp b W.F x d)\/∃p xs l,W.H p=MN/\e=upd W.H p (.tup xs)/\x=.ref p/\Rps b W.F xs l/\d=.tup l) :
  ∃c,c.H=e/\Lx W c/\Rel b c m f/\Rp b c.F x d:=by
 rcases h with⟨rfl,r⟩ | ⟨p,xs,l,g,rfl,rfl,r,rfl⟩;{show{W,rfl,Lx.refl W,a,r}};{obtain⟨l2,i,j⟩:=G9 (d:=.tup l) (o:=.tup xs) a.ok g (.tup (SqT.of bh) (r.mono (a.ok.sameU g)));show{_,rfl,l2,a.lift l2 (λ_=>rfl) i,j}}
def dq (hp:uB (aV X.p X.w) X.A X.e X.xe)(hc:X.calm=MO)(hi:VI X T iter f)(hg:VG X T t)(hb:VSs X body g)
  (hs:autoParam (∀x,iW iter X.e x=pure x) XW._auto_1):VS X (.For T iter body [] pos) (fg L f t g):=⟨λO=>PS.sub (ahu hp hc hi.out hg.out (hb.out O) hs) λD σ H hG=>t9 hG λW m E hW l vO h n r _ _=>by
show{W,m,_,hW,vO,h,λds m1 p J h1 l1 vN sq=>?_};show{λi k j H'=>i+k=ds.length/\∃d u,d.H=H'/\Le O d/\Same p.F d.F/\Rel X.B d u j/\gy L t g E (ds.drop i) u,{ds.length,(),p,m1,rfl,l.trans l1.toLe,λ_ _ z=>z,vN,h1},?_};intro i k j H' vP;obtain⟨ek,d,u,rfl,U,s',C,h'⟩:=vP;obtain⟨st,go⟩:=sq d.F d.H s' C.ok.sub i;by_cases c:i < ds.length
· have hd:ds[i]?=KE ds[i]:=aB c;rw[gF c]at h';obtain⟨g1,g2⟩:=go _ hd;show .inr ⟨g1,λq y=>∃a o,a.H=y/\Le O a/\Same p.F a.F/\Rel X.B a o q/\gy L t g E (ds.drop (i+1)) o,λq y vR=>by obtain⟨a,o,z1,z2,z3,z4,z5⟩:=vR;show{k - 1,(),(),a,o,z1,z2,z3,z4,z5},λx y hy=>?_⟩;obtain⟨a,e3,l3,wY,r3⟩:=y8 (W2:=d) C (g2 x y hy);subst e3;have l4:Le O a:=U.trans l3.toLe;have Y:Same p.F a.F:=Same.tr s' l3.same;have nx:∀s e b,gy L t g E (ds.drop (i+1)) (VL.fgt L s)->Le O e->Same a.F e.F->Rel X.B e s b->∃a o,a.H=e.H/\Le O a/\Same p.F a.F/\Rel X.B a o b/\gy L t g E (ds.drop (i+1)) o:=
    λs e b G l5 I N=>{e,_,rfl,l5,Same.tr Y I,N.fgt,G}
  show A6 wY r3 h' λm4 σ4 h4 A' FQ _=>{a,m4,_,rfl,l4,A',h4,nx,r,λs e b G l5 I N=>n s e b G l5 (Same.tr l1.same (Same.tr Y I)) N,nx}
· rw[nY ()]at h';show .inl {st (),n u d j h' U (Same.tr l1.same s') C}⟩
end
end VL
namespace L2
open PySem PySem.Spec PyProof.Rows
def Sl (hN:X.N.Nodup)(CU:X.N[i0]?=KE y0)(FR:X.e.scope.names.lookup y0=KE .local)(S:pj X ns ys fr E cl)(hc:X.calm=MO)
  (hi:PI X tg iter wi) (hg:∀C s H f,PG (cxC X (ns++ys) E cl C s H f) tg g) (ht:∀C s H f,PTs (cxC X (ns++ys) E cl C s H f) AL tt) (he:∀C s H f,PE (cxC X (ns++ys) E cl C s H f) AD te)
  (hs:autoParam (∀x,iW iter X.e x=pure x) XW._auto_1) (HE:↥(kS (.ListComp AD [{tg,iter,AL,0}] E pos) (KE (.Name y0 py)) BR.line X.e=pure MO)) :
  PS X (.Assign [.Name y0 py] (.ListComp AD [{tg,iter,AL,0}] E pos) BR) (λD σ H=>Lh ns.length fr wi g tt te σ H λx H1=>D.nx (σ.set i0 (KE x)) H1):=by
 intro f' s σ H D I h;rw[exec_Assign_Name_used _ _ _ _ HE];show aA (qG (aA ?_));change aJ _ _ (do let _ <-comprehension (.ListComp AD [⟨tg,iter,AL,0⟩] E pos) E X.e _ (newList []) MP (eval iter X.e) (KE (mH (.Name y0 py) X.e))) _ _ s
 show aA (jF (wpAny_comprehension_free (use:=KE (mH (.Name y0 py) X.e)) (Q:=λ_ s'=>SP X f' D .next s') rfl hs S.clos S.kind S.locs (thn (hi f' s σ H _ I h) λv s1 h1=>thn h1 λHU a h2=>?_)) (λ_ s' hq=>wpAny_pure (wpAny_pure hq)) λ_ _ e=>e)
 obtain⟨it,f,tn,J,H2,e,I2,T,AR,f2,rest⟩:=h2;subst e;obtain⟨W,⟨m0,w0⟩,turn⟩:=rest ‹a› (I2.hok.fresh (aI _));show dW (wpAny_newFunctionEnv S.nocell (by intro y hy;simp at hy) (λh3 DY DH=>?_) S.kind);dsimp only at DY DH ⊢;generalize hG:a.heap.push { cls:=.type "list",dict:=MN,data:=.seq ([]:AJ).toArray }=G at DY DH ⊢;have zG:G.objs.size=‹a›+1:=(by rw[<-hG,eU]);have O:‹a› < G.objs.size:=(by rw[zG];show jD _);have old:∀b o,a.heap.get? b=KE o->h3.get? b=KE o:=λb o e=>
  DH.extBut b o (bH (fW (aS e) O)) (aE _ (hG ▸ aE _ e))
 have hD:=DH.extBut _ _ (bH O) (aE _ (hG ▸ aZ _ rfl));have below:∀b∈f,b < ‹a›:=λb l=>by
  obtain⟨o,eo,_⟩:=T.obj _ _ AR b l;show aS eo
 have I3:=Jh (ns:=ns) (ys:=ys) (fr:=fr) (t':=a.toks+([]:List (Str×aK)).length) I2 S f2 below O old hD DY;have zQ:∀{H'},(∀b∈f,H' b=MN)->∀b∈f,kq (cxC X (ns++ys) E cl G.objs.size a H2 f) [] H' b:=λhn b l=>
  {hn b l,bH (fW (below b l) O),I3.ok.exfs b l,.inl l,λx c e=>(I3.ok.exf b l).2 x c e,λp hp=>nomatch hp}
 have DV:tn 0 h3:=T.keep _ _ _ AR λb _ o e=>old b o e;have FN:∀b∈f,upd H2 ‹a› (.lst []) b=MN:=λb l=>by
  rw[bc (bH (below b l))];show(f2 b l).1
 have Y:∀s3:aG,s3={ a with heap:=h3,toks:=a.toks+([]:List (Str×aK)).length }->
   kQ (aV X.p X.w) X.A (.compLoop (.ListComp AD [{tg,iter,AL,0}] E pos) 0 (.ref it) (.ref ‹a›) (compEnvC E cl G.objs.size X.e))
    (compPost (aV X.p X.w) X.A X.xe (KE (mH (.Name y0 py) X.e)) (λ_ s'=>SP X f' D .next s') (.ref ‹a›) G.objs.size) s3:=by
  intro s3 vP;subst vP;show Wn (λn s'=>∃i zs H',Inv (cxC X (ns++ys) E cl G.objs.size a H2 f) [] (bC ns.length MN++pick σ fr) H' s'/\tn i s'.heap/\(∀b∈f,H' b=MN)/\W i n zs H') ?_ m0 {0,[],_,I3,DV,FN,w0};intro n s5 vP;obtain⟨i,zs,H5,I5,DB,EN,w5⟩:=vP;obtain⟨d5,IW⟩:=turn i n zs H5 w5;rcases IW with⟨stop,q⟩ | ⟨go,hz,N,hN,step⟩
  ·show thn (T.done (cxC X (ns++ys) E cl G.objs.size a H2 f) rfl rfl rfl hc i [] s5 _ H5 _ I5 (zQ EN) DB stop) λr s6 L=>?_;obtain⟨hr,I6⟩:=L;subst hr;obtain⟨m6,IX,_⟩:=I6.loc;have J6:Inv X f' σ H5 s6:=L8 I2 f2 (iK O) I6 (qU _ _);have lL:X.e.locals < ‹a›:=I2.lt;have cL:∀x c,X.e.cells.lookup x=KE c->c < ‹a›:=λx c e=>by
    obtain⟨_,o,ho,_⟩:=I2.cell x c e;show aS ho
   change aJ _ X.A (mH (.Name y0 py) X.e (.ref ‹a›)) _ _ s6;show wpAny_assign_Name (Iz (v:=.ref ‹a›) J6 hN CU (.inl FR) rfl (λs8 I8 L=>?_) (.inr FR));obtain⟨b8,sb8,hb8⟩:=L;have nb:G.objs.size≠b8:=λe=>by
    rcases hb8 with z | z;{show MY (e.trans z) (eX (fW lL O))};{show MY e (eX (fW (cL _ _ z) O))}
   show{m6,IX.sameBut sb8 nb,λh9 hs9=>{_,H5,?_,q}};show I8.turned (it:=G.objs.size) (t':=s8.toks) (λb o l e=>(hs9.2 b l).trans e) I6.free (eX (fW lL O)) (.inr (aX I2.sz (iK O))) (λx c e=>bH (fW (cL x c e) O)) λp hp=>?_;obtain⟨e,_⟩:=I2.pin p hp;show bH (fW (aS e) O)
  ·show thn (T.item (cxC X (ns++ys) E cl G.objs.size a H2 f) rfl rfl rfl hc i [] s5 _ H5 _ I5 (zQ EN) DB go) λr s6 L=>?_;obtain⟨u,hr,h6⟩:=L;subst hr;show thn h6 λ_ s7 L=>?_;obtain⟨x,H7,I7,r7,y7,EU,IY⟩:=L;have IZ:=I7.pinned (zQ IY) (T.obj _ _ EU);show thn (hg _ _ _ _ _ s7 _ H7 x u _ IZ r7 (step x H7 y7)) λ_ s8 L=>?_;obtain⟨U,H8,I8,⟨ts,eσ,EV⟩,q8⟩:=L;have again:∀{H9 s9 EW m'},m' < n->Inv (cxC X (ns++ys) E cl G.objs.size a H2 f) ([]++xx f s7.heap) U H9 s9->W (i+1) m' EW H9->
     ∃m,m < n/\∃i zs H',Inv (cxC X (ns++ys) E cl G.objs.size a H2 f) [] (bC ns.length MN++pick σ fr) H' s9/\tn i s9.heap/\(∀b∈f,H' b=MN)/\W i m zs H':=λ{H9 s9 EW m'} hm I9 w9=>by
    show{m',hm,i+1,EW,H9,I9.unpinned.weak ?_ ?_,T.keep _ _ _ EU λb l o e=>(I9.pin (b,o) (bY _ (bY _ (ma l e)))).1,λb l=>?_,w9};{rw[eσ,aH,aH,cY,EV]};{intro j v e;rw[eσ];by_cases hj:j < ns.length;{rw[cA (⇑hj),dN,MU hj]at e;cases e};{have DZ:ns.length<=j:=oC hj;rw[cN (⇑DZ),cY]at e;rw[cN (by rw[EV];show DZ),EV];show e}};{obtain⟨o,e,d⟩:=T.obj _ _ EU b l;show(I9.pin (b,o) (bY _ (bY _ (ma l e)))).2.1}
   show thn (ht _ _ _ _ _ s8 U H8 _ I8 q8) λok s9 L=>?_;obtain⟨H9,I9,q9⟩:=L;cases ok with
   |false=>
    rw[MV aO]at q9 ⊢;obtain⟨m',hm,w9⟩:=hN _ _ q9;show again hm I9 w9
   |true=>
    rw[MU rfl]at q9 ⊢;show thn (he _ _ _ _ _ s9 U H9 _ I9 q9) λyv HZ L=>?_;obtain⟨y,JA,JB,GU,JC,JD⟩:=L;show thn (Am _ HZ U JA (.ref ‹a›) [y] (.ref ‹a›) [yv] (λ_ GV=>N (zs++[y]) GV) JB rfl (.cons GU .nil) {_,zs,y,rfl,rfl,JC,hz,JD}) λ_ s11 L=>?_;obtain⟨_,GV,JE,_,JF⟩:=L;obtain⟨m',hm,JG⟩:=hN _ _ JF;show again hm JE JG
 show codeAny_compStart_list (Y _ rfl) (T.self X.A 0 _ _ _ DV (Y _ rfl))
end L2
namespace VL
open PySem L2 PySem.Deep PySem.SeqAt
section
variable {X:Cx}
def yj (L:L1)(c:GT)(g:GS):GS:=λE m=>∃I:Nat->M->Prop,(∃k,I k m)/\∀k m,I k m->c m λb a=>if b=MO then ∃N:M->Prop,(∀d,N d->∃k',k' < k/\I k' (fgt L d))/\g { E with nx:=N,ct:=N,bk:=E.nx } a else E.nx a
def ux (G:uB (aV X.p X.w) X.A X.e X.xe)(J:VT X c f)(T:VSs X body g):VS X (.While c body [] U) (yj L f g):=⟨λO=>PS.sub (Zh G J.out (T.out O)) λD σ H Y=>t9 Y λW m E hW l vO h n r _ _=>by
  subst hW;obtain⟨I,⟨k0,i0⟩,turn⟩:=h;show{λk e H'=>∃i j,i.H=H'/\Le O i/\Same W.F i.F/\Rel X.B i j e/\I k j,#v[k0,W,m,rfl,l,Same.id,vO,i0],?_};intro k e H' vP;obtain⟨i,j,rfl,l',s',zC,i'⟩:=vP;show{i,j,_,rfl,zC,turn k j i',λc y s u l1 z=>?_};have l2:Le O s:=l'.trans l1.toLe;have x:Same W.F s.F:=Same.tr s' l1.same;cases c with
  |true=>
    obtain⟨N,hN,u⟩:=u;show{λa C=>∃b d,b.H=C/\Le O b/\Same W.F b.F/\Rel X.B b d a/\N d,λa C vR=>?_,s,y,_,rfl,l2,z,u,λd b a o l3 p q=>{b,d,rfl,l3,Same.tr x p,q,o},r,λd b a o l3 p q=>n d b a o l3 (Same.tr x p) q,λd b a o l3 p q=>{b,d,rfl,l3,Same.tr x p,q,o}};obtain⟨b,d,z1,z2,z3,z4,z5⟩:=vR;obtain⟨k',hk,ik⟩:=hN d z5;show{k',hk,b,_,z1,z2,z3,z4.fgt,ik}
  |false=>show n y s e u l2 x z⟩
def mj (loc:D1)(fr:L1):D1:=fr.map λi=>(loc[i]?).getD MN
def i3 (cel:DJ):D1->Bool
 | []=>MO
 |some (.c j)::r=>(match cel[j]? with | some (KE _)=>MO | _=>MP) && i3 cel r
 |_::r=>i3 cel r
theorem y9:∀{loc:D1},i3 cel loc=MO->∀(i j:Nat),loc[i]?=KE (KE (.c j))->∃d,cel[j]?=KE (KE d)
 | [],_,i,j,e=>by simp at e
 |none::r,h,0,j,e=>by simp at e
 |some (.v _)::r,h,0,j,e=>by simp at e
 |some (.c k)::r,h,0,j,e=>by
  simp at e;subst e;rw[i3,cI]at h;have a:=h.1;rcases q:cel[k]? with _ | _ | d;{rw[q]at a;cases a};{rw[q]at a;cases a};{show#v[d,rfl]}
 |none::r,h,i+1,j,e=>y9 (loc:=r) h i j (⇑e)
 |some (.v _)::r,h,i+1,j,e=>y9 (loc:=r) h i j (⇑e)
 |some (.c k)::r,h,i+1,j,e=>by
  rw[i3,cI]at h;show y9 (loc:=r) h.2 i j (⇑e)
def dh (k:Nat)(fr:L1)(t:Tg)(c:GT)(f:GE)(loc:D1)(Q:DQ->M->Prop):DQ->DQ->DJ->Prop
 | [],a,cel=>Q a #v[loc,cel]
 |d::ds,a,cel=>a.length < 1000000/\gTg t d {bC k MN++mj loc fr,cel} λi=>c i λb e=>if b=MO then f e λj l=>fz l j λd' g=>i3 g.cel loc=MO/\dh k fr t c f loc Q ds (a++[d']) g.cel
   else i3 e.cel loc=MO/\dh k fr t c f loc Q ds a e.cel
def cq (k:Nat)(fr:L1)(i:GI)(t:Tg)(c:GT)(f:GE):GE:=λm Q=>i m λds a=>dh k fr t c f a.loc (λb d=>Q (.new (.lst b)) d) ds [] a.cel
def Rel.inner (f:Rel b W m g)(k:Nat)(fr:L1):Rel b W {bC k MN++mj m.loc fr,m.cel} (bC k MN++pick g fr):=⟨f.ok,λi w hw=>by
  have a:(bC k MN++mj m.loc fr)[i]?=KE (KE w):=hw;by_cases c:i < k
  · rw[cA (⇑c),dN,MU c]at a;cases a
  · rw[cN (⇑c)]at a;rw[cN (⇑c)];rw[cY]at a ⊢;unfold mj at a;unfold pick;rw[aN]at a ⊢;rcases q:fr[i - k]? with _ | j
    · rw[q]at a;cases a
    · rw[q]at a;have d:(m.loc[j]?).getD MN=KE w:=(⇑a);rcases e:m.loc[j]? with _ | u
      · rw[e]at d;cases d
      · rw[e]at d;have:u=KE w:=d;subst this;obtain⟨y,l,n⟩:=f.loc j w e;show{y,by change KE ((g[j]?).getD MN)=_;rw[l];rfl,n},by
  change(bC k MN++mj m.loc fr).length=_;unfold mj pick;simp⟩
def Rel.outer {m e:M}(f:Rel b W m q)(l:Lx W g)(n:Rel b g e r)(h:i3 e.cel m.loc=MO):Rel b g #v[m.loc,e.cel] q:=⟨n.ok,λi w hw=>by
  obtain⟨y,s,o⟩:=f.loc i w hw;show{y,s,?_};cases w with
  |v d=>show Rp.mono l.same o
  |c j=>
    obtain⟨a,rfl,u⟩:=o;obtain⟨d,hd⟩:=y9 h i j hw;obtain⟨x,p,_⟩:=n.ok.cell j d hd;have:=l.cx j x p;rw[u]at this;cases this;show#v[a,rfl,p],f.len⟩
def B7 (l:Lx O W)(ok:Wok b W cel)(h0:O.H D=MN)(g:W.F D=MN)(i:∀j,W.C j≠KE D):Lx O {W.F,upd W.H D o,W.C}/\Wok b {W.F,upd W.H D o,W.C} cel:=by
 have ne:∀{x u},W.F x=KE u->x≠D:=λe z=>(by subst z;rw[g]at e;cases e);show{{{l.same,λx u e n=>?_,l.nw,l.cl,λx z=>?_},l.cx},{λx u z=>?_,λj d m=>?_,ok.live,ok.dist}};{change upd W.H D o x=KE u;rw[bc (λz=>by rw[z,h0]at e;cases e)];show l.fr x u e n};{by_cases c:x=D;{rw[c];show h0};{rw[show({W.F,upd W.H D o,W.C}:Wd).H x=upd W.H D o x from rfl,bc c]at z;show l.dm x z}}
 {change upd W.H D o x=KE u;rw[bc (ne z)];show ok.sub x u z};{obtain⟨a,f,p,q⟩:=ok.cell j d m;show{a,f,p,q.mono (λ_ _ z=>z) λu z=>?_};change upd W.H D o a=KE u;rw[bc (λz=>i j (by rw[f,z]))];show z}
def Hi (e:a.length=(bC k MN++pick b fr).length)(c:Dt k t)(h:∀i,¬adb t i->a[i]?=(bC k MN++pick b fr)[i]?):∃d,a=d++pick b fr/\d.length=k:=by
 have hk:k<=a.length:=(by rw[e,aH,cY];lia);show{a.take k,?_,by rw[bR];lia};have:a.drop k=pick b fr:=by
  show iZ λi=>?_;rw[qF,h (k+i) ?_,cN ∅];{congr 1;simp}
  ·intro z;cases t with
   |one j=>show MY (show k+i < k by rw[show k+i=j from z];show c) ()
   |tup is=>have:=c _ z;lia
   |lst is=>have:=c _ z;lia
 rw[<-this,iF]
def qv (l:Lx W a)(b:W.H D=KE (.lst ys))(d:W.F D=MN)(c:∀j,W.C j≠KE D):a.H D=KE (.lst ys)/\a.F D=MN/\∀j,a.C j≠KE D:=by
 show{l.fr D _ b c,?_,λj e=>c j (l.cx j D e)};cases q:a.F D with
 |none=>rfl
 |some u=>
  rcases l.nw D d (by rw[q];show λz=>by cases z)with z | ⟨j,z⟩ | ⟨o,z,f⟩;{rw[b]at z;cases z};{show MY z (c j)};{rw[b]at z;cases z;show f.elim}
def Jq (ht:Dt k t)(h:lf b (cq k fr i t c f) s H Q):Lh k fr (lfI b i) (gOf b.K t) (lfT b c) (lf b f) s H Q:=by
 obtain⟨W,m,R,hW,vO,h,q⟩:_:=h;show{W,m,_,hW,vO,h,λds e p J h1 l1 vN sq D hD=>?_};have h0:W.H D=MN:=l1.dm D hD;obtain⟨lD,JS,aD,eD,_,fD,cD,_⟩:_:=o6 (d:=.lst []) (o:=.lst []) vN.ok hD {[],bh,.nil};cases eD;have JT:∀i n ys g,(i+n=ds.length/\∃W2 a cel,W2.H=g/\Lx p W2/\Rel b W2 ⟨e.loc,cel⟩ s/\W2.H D=KE (.lst ys)/\W2.F D=MN/\(∀j,W2.C j≠KE D)/\Rps b W2.F ys a/\dh k fr t c f e.loc (λa u=>R (.new (.lst a)) u) (ds.drop i) a cel)->
   g D=KE (.lst ys)/\((J.stop i g/\Q (.ref D) g)\/(J.go i g/\ys.length < sizeLine/\∃N:DK->Hp->Prop,(∀l H',N l H'->∃m',m' < n/\(i+1+m'=ds.length/\∃W2 a cel,W2.H=H'/\Lx p W2/\Rel b W2 #v[e.loc,cel] s/\W2.H D=KE (.lst l)/\W2.F D=MN/\(∀j,W2.C j≠KE D)/\Rps b W2.F l a/\dh k fr t c f e.loc (λa u=>R (.new (.lst a)) u) (ds.drop (i+1)) a cel))/\∀x E,J.yld i g x E->T7 k fr (gOf b.K t) (lfT b c) (lf b f) s D ys N x E)):=by
  rintro i n ys g ⟨en,W2,a,cel,rfl,l2,w,G,d2,d3,I,r⟩;show{G,?_};obtain⟨st,go⟩:_:=sq W2.F W2.H l2.same w.ok.sub i;by_cases ci:i < ds.length
  ·have hd:ds[i]?=KE ds[i]:=aB ci;rw[gF ci]at r;obtain⟨g1,g2⟩:_:=go _ hd;obtain⟨hz,r⟩:_:=r;show .inr {g1,by rw[I.length];show bU hz #v[],λl H'=>∃W2 a cel,W2.H=H'/\Lx p W2/\Rel b W2 #v[e.loc,cel] s/\W2.H D=KE (.lst l)/\W2.F D=MN/\(∀j,W2.C j≠KE D)/\Rps b W2.F l a/\dh k fr t c f e.loc (λa u=>R (.new (.lst a)) u) (ds.drop (i+1)) a cel,λl H' z=>{n - 1,(),(),z},λx E hy=>?_};obtain⟨W3,e3,l3,wY,r3⟩:_:=y8 (W2:=W2) w (g2 x E hy);subst e3;show A6 (wY.inner k fr) r3 r λm4 σ4 h4 A' FQ HF=>{Hi FQ ht HF,W3,m4,_,rfl,A',h4,λcc m5 W5 L l5 zY=>?_};have A:Lx W2 W5:=l3.trans l5;cases cc with
   |true=>
    show{W5,m5,_,rfl,zY,L,λev m6 W6 y h6 l6 BS r6=>?_};obtain⟨d',m7,O,⟨lv,h7⟩,l7,e7,CK,r7⟩:_:=nr l6 BS r6 h6;have T:Lx W2 O:=A.trans l7;obtain⟨k1,U,Y⟩:_:=qv T G d2 d3;have ro:=w.outer T CK lv;obtain⟨l8,FE⟩:_:=B7 (o:=.lst (ys++[y])) (l2.trans T) CK.ok hD U Y;rw[<-e7];show{k1,{O.F,upd O.H D (.lst (ys++[y])),O.C},a++[d'],m7.cel,rfl,l8,#v[FE,ro.loc,ro.len],bh,U,Y,(I.mono T.same).append (.cons r7 .nil),h7}
   |false=>
    obtain⟨lv,L⟩:_:=L;obtain⟨k1,U,Y⟩:_:=qv A G d2 d3;show{W5,a,m5.cel,rfl,l2.trans A,w.outer A zY lv,k1,U,Y,I.mono A.same,L}
  ·rw[nY ()]at r;show .inl {st (),q _ _ W2 _ r (l1.trans l2) w #v[D,rfl,h0,d2,d3,ys,G,I]}
 show{_,{ds.length,(),{p.F,upd p.H D (.lst []),p.C},[],e.cel,rfl,lD,vN.lift lD (λ_=>rfl) JS,bh,fD,cD,.nil,h1},JT}
def cp (S:pj X ns ys fr b cl)(e:X.calm=MO)
  (hi:VI X d iter i) (j:∀C s H a,VG (cxC X (ns++ys) b cl C s H a) d t) (l:∀C s H a,PTs (cxC X (ns++ys) b cl C s H a) m (lfT X.B c)) (n:∀C s H a,VE (cxC X (ns++ys) b cl C s H a) o f) (hk:Dt ns.length t)
  (hs:autoParam (∀x,iW iter X.e x=pure x) XW._auto_1):VE X (.ListComp o [{d,iter,m,0}] b p) (cq ns.length fr i t c f):=#v[PE.sub (aeq (g:=gOf X.K t) (tt:=lfT X.B c) (te:=lf X.B f) S e hi.out (λC s H a=>(j C s H a).out) l (λC s H a=>(n C s H a).out) hs) λ_ _ _ h=>Jq hk h]
def dt:GT:=λm Q=>Q MO m
def cw:PTs X [] (lfT X.B dt):=λa s b H Q I ⟨W,m,R,c,d,h,q⟩=>aeo a s b H Q I (by subst c;show q MO m W h (Lx.refl W) d)
def ki (h:VT X c f):PTs X [c] (lfT X.B f):=aep h.out
def jx (n:X.N.Nodup)(o:X.N[i0]?=KE d)(p:X.e.scope.names.lookup d=KE .local)(S:pj X ns ys fr b cl)(q:X.calm=MO)
  (hi:VI X e iter i) (r:∀C s H a,VG (cxC X (ns++ys) b cl C s H a) e t) (u:∀C s H a,PTs (cxC X (ns++ys) b cl C s H a) l (lfT X.B c)) (w:∀C s H a,VE (cxC X (ns++ys) b cl C s H a) m f) (hk:Dt ns.length t)
  (hs:autoParam (∀x,iW iter X.e x=pure x) XW._auto_1) (y:↥(kS (.ListComp m [{e,iter,l,0}] b j) (KE (.Name d z)) A.line X.e=pure MO)) :
  VS X (.Assign [.Name d z] (.ListComp m [{e,iter,l,0}] b j) A) (az i0 (cq ns.length fr i t c f)):=#v[λO=>PS.sub (Sl (g:=gOf X.K t) (tt:=lfT X.B c) (te:=lf X.B f) n o p S q hi.out (λC s H a=>(r C s H a).out) u (λC s H a=>(w C s H a).out) hs y) λD E H h=>Jq hk (My h)]
end
open PyProof.Rows (envOfC)
abbrev GP:=DQ->(Ev->Prop)->Prop
def spP (b:B)(n:Nat)(g:GP):Sp:=λvs H Q _=>vs.length=n/\∃W ds R,W.H=H/\Wok b W []/\Rps b W.F vs ds/\g ds R/\∀c a x,R c->Le W a->(∀j,a.C j=MN)->Wok b a []->Rev b W a x c->Q x a.H
abbrev GR:=DQ->Tr->(Ev->Tr->Prop)->Prop
def ins {a:Type}:Nat->a->List a->List a
 |0,x,l=>x::l
 |_+1,x,[]=>[x]
 |n+1,x,y::l=>y::ins n x l
def spR (b:B)(n p:Nat)(g:GR):Sp:=λvs H Q _=>vs.length=n/\∃W xs ds d a R,W.H=H/\vs=ins p (.ref a) xs/\W.C 0=KE a/\Wok b W [KE d]/\Rps b W.F xs ds/\g ds d R/\
 ∀e d' c x,R e d'->Le W c->(∀j,c.C j=W.C j)->Wok b c [KE d']->Rev b W c x e->Q x c.H
def Dv (R:Ev->Prop)(a:Ev)(m:M):Prop:=match a with
 | .val d=>R (.val d)
 | .new d=>R (.new d)
 | .cel 0=>False
 | .cel (j+1)=>match m.cel[j+1]? with
  |some (KE d)=>R (.new d)
  |_=>False
def Us (R:Ev->Tr->Prop)(a:Ev)(m:M):Prop:=match m.cel[0]? with
 |some (KE e)=>(match a with
   | .val d=>R (.val d) e
   | .new d=>R (.new d) e
   | .cel 0=>False
   | .cel (j+1)=>match m.cel[j+1]? with
     |some (KE d)=>R (.new d) e
     |_=>False)
 |_=>False
def locs (n:Nat)(ws:D1):D1:=ws++bC (n - ws.length) MN
abbrev vsW (ds:DQ):D1:=ds.map λd=>KE (.v d)
def Pm (g:GS)(n c p:Nat)(a:GP):Prop:=∀ds R,ds.length=p->a ds R->g { nx:=λm=>R (.val (.v .non)),rt:=Dv R } {locs n (vsW ds),bC c MN}
def Pr (q:Nat)(g:GS)(n c p:Nat)(a:GR):Prop:=∀ds d R,ds.length+1=p->a ds d R->g { nx:=λm=>Us R (.val (.v .non)) m,rt:=Us R } {locs n (ins q (KE (.c 0)) (vsW ds)),KE d::bC c MN}
def Rdx (P:aQ)(w:bB)(K:aF)(mg:Str->AX)(base:MR)(N:AQ)(x:Str)(st:MT)(f:MQ)(k:Nat)(g:GS):Prop:=∀a A outer s H E,Room k (A.deeper (oV x (bt st) ‹s› f a))->VSs (C9 CX0 P w K mg base N x (bt st) f a A outer s H E).nox (ij st) g
section
variable {P:aQ}{w:bB}{K:aF}{mg:Str->AX}{base:MR}
def Sn {ws:D1}{n i:Nat}(h:(locs n ws)[i]?=KE (KE u)):ws[i]?=KE (KE u):=by
 unfold locs at h;by_cases c:i < ws.length;{rw[cA c]at h;show h}
 ·rw[cN (),dN]at h
  split at h<;>cases h
def M5 {N:AQ}{vs:DK}{i:Nat}(h:vs[i]?=KE x):(L2.start N vs)[i]?=KE (KE x):=by
 unfold L2.start;rw[cA (⇑(bz h)),aN,h];rfl
def Jr:(L2.start N vs).length=vs.length+(N.length - vs.length):=by
 unfold L2.start;rw[aH,aC,cY]
def Wok.cut (ok:Wok b W cel):Wok b {W.F,W.H,λ_=>MN} []:={ok.sub,λj d h=>(by simp at h),λj a h=>(by cases h),λj k a h=>(by cases h)}
def So (l:Le O W)(n:∀j,O.C (j+1)=MN)(o:Rel b W m D)(r:Rev b O W x c):(∀d,c=.val d->Rev b O {W.F,W.H,λ_=>MN} x (.val d))/\(∀d,c=.new d->∃a,x=.ref a/\O.H a=MN/\W.F a=MN/\CellOk b W.F W.H a d/\∀j,W.C j≠KE a)/\
  ∀j d,c=.cel (j+1)->m.cel[j+1]?=KE (KE d)->∃a,x=.ref a/\O.H a=MN/\W.F a=MN/\CellOk b W.F W.H a d/\W.C (j+1)=KE a:=by
 show{λd e=>by subst e;show r,λd e=>?_,λj d e p=>?_};{subst e;obtain⟨a,rfl,h0,f,q,s⟩:_:=r;show#v[a,rfl,h0,f,s,q]};{subst e;obtain⟨a,rfl,f⟩:_:=r;obtain⟨i,g,u,y⟩:_:=o.ok.cell (j+1) d p;have A:=f i g;subst A;show{i,rfl,?_,u,y,g};rcases l.cl _ _ g with z | z;{rw[n]at z;cases z};{show z.1}}
def Le.cut (l:Le O W)(h:∀j a,C j=KE a->O.C j=KE a):Le O #v[W.F,W.H,C]:={l.same,l.fr,l.nw,λj a e=>.inl (h j a e),l.dm}
def fn_g {N ps:AQ}(F:Fun K x U st f fd)(S:fj N ps (bt st))
  (Y:Rdx P w K mg base N U st f k g)
  (hg:Pm g N.length nc ps.length gf):ir P w K mg base CX0 (k+1) f fd ps (spP #v[P,w,K] ps.length gf):=by
 show F.ok S (λvs H Q E h=>h.1) λwA A outer s H vs Q E hr h=>?_;obtain⟨hl,W,ds,R,rfl,ok,D,JU,q⟩:=h;have G:∀j,W.C j=MN:=λj=>by
  cases e:W.C j with
  |none=>rfl
  |some a=>obtain⟨d,hd⟩:=ok.live j a e;simp at hd
 have n:∀{j:Nat}{d:Tr},(bC nc (MN:Option Tr))[j]?=KE (KE d)->False:=λ{j d} e=>(by rw[dN]at e;split at e<;>cases e);have fin:∀p m b c x,Dv R p m->Le W b->Rel ⟨P,w,K⟩ b m c->Rev ⟨P,w,K⟩ W b x p->Q x b.H:=λp m b c x h l z r=>by
  have I:=z.ok.cut;have J:Le W ⟨b.F,b.H,λ_=>MN⟩:=l.cut λj a e=>(by cases e);obtain⟨f1,f2,f3⟩:=So l (λj=>G (j+1)) z r;cases p with
  |val d=>show q _ {b.F,b.H,λ_=>MN} x h J (λ_=>rfl) I (f1 d rfl)
  |new d=>
   obtain⟨a,rfl,L,O,T,_⟩:=f2 d rfl;show q _ {b.F,b.H,λ_=>MN} _ h J (λ_=>rfl) I {a,rfl,L,O,λj e=>(by cases e),T}
  |cel j=>
   cases j with
   |zero=>show h.elim
   |succ j=>
    change (match m.cel[j+1]? with | some (KE d)=>R (.new d) | _=>False)at h
    rcases e:m.cel[j+1]? with _ | _ | d;{rw[e]at h;show h.elim};{rw[e]at h;show h.elim};{rw[e]at h;obtain⟨a,rfl,L,O,T,_⟩:=f3 j d rfl e;show q _ {b.F,b.H,λ_=>MN} _ h J (λ_=>rfl) I {a,rfl,L,O,λj e=>(by cases e),T}}
 show{_,(Y wA A outer s W.H E hr).out W,W,_,_,rfl,Le.refl W,{{ok.sub,λj d h=>(n h).elim,λj a e=>(by rw[G]at e;cases e),λj k a e=>(by rw[G]at e;cases e)},λi u hu=>?_,?_},hg ds R (by rw[<-D.length];show hl) JU,λm b c h l _ z=>fin (.val (.v .non)) m b c .non h l z (Rp.v rfl),fin,λ_ _ _ h=>h.elim,λ_ _ _ h=>h.elim};{have o:=Sn hu;rw[aN]at o;rcases e:ds[i]? with _ | d;{rw[e]at o;cases o};{rw[e]at o;cases o;obtain⟨y,hy,ry⟩:=D.get e;show{y,M5 hy,ry}}};{change(locs N.length (vsW ds)).length=_;rw[Jr];unfold locs;rw[aH,cY,aC,D.length]}
variable {X:Cx}
def Js (ok:Wok b W cel)(l:Le {W.F,W.H,λ_=>MN} c)(i:Wok b c []):Lx W #v[c.F,c.H,W.C]/\Wok b #v[c.F,c.H,W.C] cel:=by
 show{{{l.same,λa o e _=>l.fr a o e λj z=>(by cases z),λa e n=>?_,λj a e=>.inl e,l.dm},λj a e=>e},{i.sub,λj d m=>?_,ok.live,ok.dist}};{rcases l.nw a e n with z | ⟨j,z⟩ | z;{show .inl z};{cases z};{show .inr (.inr z)}}
 ·obtain⟨a,p,r,f⟩:=ok.cell j d m;show{a,p,?_,f.mono l.same λo e=>l.fr a o e λj z=>(by cases z)};cases q:c.F a with
  |none=>rfl
  |some u=>
   rcases l.nw a r (by rw[q];show λz=>by cases z)with z | ⟨j,z⟩ | ⟨o,z,s⟩;{obtain⟨o,g⟩:=f.has;rw[show W.H a=MN from z]at g;cases g};{cases z};{show MY s (f.nimm o z)}
def zc (ok:Wok b W cel)(h:Rev b {W.F,W.H,λ_=>MN} c x f)(l:∀j,f≠.cel j)(q:∀j,c.C j=MN):Rev b W #v[c.F,c.H,W.C] x f:=by
 cases f with
 |val d=>show h
 |new d=>
  obtain⟨a,rfl,h0,m,r,n⟩:=h;show{a,rfl,h0,m,λj e=>?_,n};obtain⟨d',hd⟩:=ok.live j a e;obtain⟨s,g,_,p⟩:=ok.cell j d' hd;rw[show W.C j=KE a from e]at g;cases g;obtain⟨o,i⟩:=p.has;rw[show W.H a=MN from h0]at i;cases i
 |cel j=>show MY rfl (l j)
def Ln (R:Ev->Prop):Ev->Prop
 | .cel _=>False
 |ev=>R ev
def agb (F:ir X.p X.w X.K X.mg X.base CX0 k f fd ps (spP X.B n g))(J:Room k X.A)(L:Gl X x)(N:X.mg x=KE (.ref f))(hk:fK X.K (.ref f)=MO)(O:Binds X.K fd ps [])
  (hn:ps.length=n) (T:VA X (e::b) ga) (U:↑((x == ("__debug__":Str))=MP)) (Y:↥(aM (e::b) X.e=(MP,eval e X.e)::aM b X.e)) (xK:↥((dS o (aM b X.e)).any (·.1)=MP)) :
  VE X (.Call (.Name x p) (e::b) [] o) (λm Q=>ga m λu c=>xi u λds=>ds.length=n/\g ds (Ln λr=>Q r c)):=⟨PE.sub (R6 F J L N hk O .nil Bu T.out U Y xK) λσ H Q hG=>je hG λW m R hW vO h q=>⟨W,m,_,hW,vO,h,λu c i xs h1 l1 a r1=>by
  obtain⟨ds,D,hl,h2⟩:=qt r1 h1;show{by rw[cE,D.length];show hl,{i.F,i.H,λ_=>MN},ds,_,rfl,a.ok.cut,by rw[cE];show D,h2,λr l y s l3 E zF G=>?_};obtain⟨l4,I⟩:=Js a.ok l3 zF;cases r with
  |cel j=>show s.elim
  |val d=>show q _ c #v[l.F,l.H,i.C] y s (l1.trans l4) (a.lift l4 (λ_=>rfl) I) ((zc a.ok G (λj z=>nomatch z) E).old l1.toLe)
  |new d=>show q _ c #v[l.F,l.H,i.C] y s (l1.trans l4) (a.lift l4 (λ_=>rfl) I) ((zc a.ok G (λj z=>nomatch z) E).old l1.toLe)⟩⟩
end
open PyProof.Rows (envOfC)
structure Bl (mg:Str->AX):Prop where
 range:mg "range"=MN
 abs:mg "abs"=MN
 int:mg "int"=MN
 max:mg "max"=MN
 min:mg "min"=MN
 tuple:mg "tuple"=MN
 list:mg "list"=MN
 len:mg "len"=MN
 isinstance:mg "isinstance"=MN
 enumerate:mg "enumerate"=MN
 sum:mg "sum"=MN
 all:mg "all"=MN
 any:mg "any"=MN
 zip:mg "zip"=MN
 reversed:mg "reversed"=MN
 set:mg "set"=MN
 sorted:mg "sorted"=MN
 dict:mg "dict"=MN
 bool:mg "bool"=MN
structure Fd (K:aF)(mg:Str->AX)(x:Str)(st:MT)(ps:AQ)(f:MQ)(fd:gY):Prop where
 fn:Fun K x x st f fd
 at_:mg x=KE (.ref f)
 bd:Binds K fd ps []
structure Fo (P:aQ)(w:bB)(K:aF)(mg:Str->AX)(base:MR)(k:Nat)(x:Str)(ps:AQ)(sp:Sp):Prop where
 ex:∃f fd,ir P w K mg base CX0 k f fd ps sp/\mg x=KE (.ref f)/\fK K (.ref f)=MO/\Binds K fd ps []
section
variable {P:aQ}{w:bB}{K:aF}{mg:Str->AX}{base:MR}{X:Cx}
def Fo.of (F:Fd K mg x st ps f fd)(h:ir P w K mg base CX0 k f fd ps sp):Fo P w K mg base k x ps sp:=#v[f,fd,h,F.at_,F.fn.kp,F.bd]
def au (n:Nat)(g:GP)(ga:GA):GE:=λm Q=>ga m λa b=>xi a λds=>ds.length=n/\g ds (Ln λc=>Q c b)
def vc (F:Fo X.p X.w X.K X.mg X.base j x ps (spP X.B n g))(l:Room k X.A)(m:VA X (e::d) ga)(hk:↑(j<=k))(o:↥(ps.length=n))(q:↥(Gl X x))
  (r:↑((x == ("__debug__":Str))=MP)) (s:↥(aM (e::d) X.e=(MP,eval e X.e)::aM d X.e)) (u:↥((dS i (aM d X.e)).any (·.1)=MP)) :
  VE X (.Call (.Name x p) (e::d) [] i) (au n g ga):=by
 obtain⟨f,fd,F,a,b,c⟩:=F;show agb F (l.mono hk) q a b c o m r s u
def vf (F:Fd K mg x st ps f fd)(S:fj N ps (bt st))
  (a:Rdx P w K mg base N x st f k g)
  (b:Pm g N.length d ps.length c):Fo P w K mg base (k+1) x ps (spP #v[P,w,K] ps.length c):=
 .of F (fn_g F.fn S a b)
def v_ (i:Nat)(a:↥(X.N[i]?=KE x))(b:autoParam (Vis X.e.scope x) JV._auto_1)(hd:↑((x == ("__debug__":Str))=MP))
  (c:↑((x == ("__classdict__":Str))=MP)):VE X (.Name x d) (aa i):=ajk a b hd c
end
abbrev gI (i:Int):GE:=gC (.v (.int i))
abbrev gS (x:Str):GE:=gC (.v (.str x))
abbrev gX (f g:GE):GE:=gOp ixG f g
abbrev gA1 (f:GE):GA:=gaV f gaN
open PyProof.Rows (envOfC)
section
variable {X:Cx}
def gv (nd:autoParam (([a]++ys).Nodup) JQ._auto_1)
  (d:autoParam (Loc (cxC X ([a]++ys) b cl C s H c).e.scope a) JJ._auto_1) (e:↥((cxC X ([a]++ys) b cl C s H c).e.scope.names.lookup a=KE .local)):VG (cxC X ([a]++ys) b cl C s H c) (.Name a f) (.one 0):=#v[ox (i:=0) nd rfl d (.inr e)]
def xj (e:X.calm=MO)(nd:autoParam (([a,b]++ys).Nodup) JQ._auto_1)
  (f:autoParam (Loc (cxC X ([a,b]++ys) c cl C s H d).e.scope a) JJ._auto_1) (g:autoParam (Loc (cxC X ([a,b]++ys) c cl C s H d).e.scope b) JJ._auto_1)
  (i:↥((cxC X ([a,b]++ys) c cl C s H d).e.scope.names.lookup a=KE .local)) (j:↥((cxC X ([a,b]++ys) c cl C s H d).e.scope.names.lookup b=KE .local)) :
  VG (cxC X ([a,b]++ys) c cl C s H d) (.Tuple [.Name a l,.Name b m] k n) (.tup [0,1]):=#v[pg2 e nd f g i j]
def vg2 (d:X.calm=MO)(c:X.N.Nodup)(hi:X.N[i]?=KE a)(e:X.N[j]?=KE b)(f:Loc X.e.scope a)(g:Loc X.e.scope b)(l:↥(X.fn a=MO))(m:↥(X.fn b=MO)):VG X (.Tuple [.Name a n,.Name b o] k p) (.tup [i,j]):=#v[Vz d (qo (ox (i:=i) c hi f (.inl l)) (qo (ox (i:=j) c e g (.inl m)) Gx))]
def vg2l (d:X.calm=MO)(c:X.N.Nodup)(hi:X.N[i]?=KE a)(e:X.N[j]?=KE b)(f:Loc X.e.scope a)(g:Loc X.e.scope b)(l:↥(X.fn a=MO))(m:↥(X.fn b=MO)):VG X (.Tuple [.Name a n,.Name b o] k p) (.lst [i,j]):=#v[aix d (qo (ox (i:=i) c hi f (.inl l)) (qo (ox (i:=j) c e g (.inl m)) Gx))]
end
def xk (h:↑(1 < n)):Dt n (.tup [0,1]):=λi hi=>by
 rcases aY.mp hi with rfl | hi;{lia};{cases aR.mp hi;show h}
section
variable {α:Type}
theorem Sr (I:Nat->M):∀(xs:List α)(n:Nat),(∀i x (N:M->Prop),xs[i]?=KE x->N (I (n+i+1))->gTg t (enc x) (I (n+i)) λb=>g { E with nx:=λa=>N (fgt L a),ct:=λa=>N (fgt L a),bk:=E.nx } b)->E.nx (I (n+xs.length))->gy L t g E (xs.map enc) (I n)
 | [],n,_,h=>h
 |x::xs,n,hs,h=>hs 0 x _ rfl (by
     show Sr I xs (n+1) (λi y N c d=>?_) (by rw[show n+1+xs.length=n+(x::xs).length by rw[aW];lia];show h);have z:=hs (i+1) y N (⇑c) (by rw[show n+(i+1)+1=n+1+i+1 by lia];show d);rw[show n+(i+1)=n+1+i by lia]at z;show z)
def iy {E:t8}{xs:List α}(I:Nat->M)(h0:m=I 0)(hs:∀i x (N:M->Prop),xs[i]?=KE x->N (I (i+1))->gTg t (enc x) (I i) λc=>g { E with nx:=λa=>N (fgt L a),ct:=λa=>N (fgt L a),bk:=E.nx } c)(h:E.nx (I xs.length)):gy L t g E (xs.map enc) m:=by
 subst h0;show Sr I xs 0 (λi x N d b=>by rw[eP]at b ⊢;show hs i x N d b) (by rw[eP];show h)
theorem M6 (I:Nat->M->Prop):∀(xs:List α)(n:Nat) {m:M},I n m->(∀i x (m:M) (N:M->Prop),xs[i]?=KE x->I (n+i) m->(∀c,I (n+i+1) c->N c)->gTg t (enc x) m λa=>g { E with nx:=λb=>N (fgt L b),ct:=λb=>N (fgt L b),bk:=E.nx } a)->(∀m,I (n+xs.length) m->E.nx m)->gy L t g E (xs.map enc) m
 | [],n,m,h0,_,h=>h m h0
 |x::xs,n,m,h0,hs,h=>hs 0 x m _ rfl h0 λc h'=>by
   show M6 I xs (n+1) h' (λi y a N d hi e=>?_) (λa f=>h a (by rw[show n+(x::xs).length=n+1+xs.length by rw[aW];lia];show f));show hs (i+1) y a N (⇑d) (by rw[show n+(i+1)=n+1+i by lia];show hi) λb j=>e b (by rw[show n+1+i+1=n+(i+1)+1 by lia];show j)
def ko {E:t8}{xs:List α}(I:Nat->M->Prop)(h0:I 0 m)(hs:∀i x (m:M) (N:M->Prop),xs[i]?=KE x->I i m->(∀b,I (i+1) b->N b)->gTg t (enc x) m λd=>g { E with nx:=λa=>N (fgt L a),ct:=λa=>N (fgt L a),bk:=E.nx } d)(h:∀m,I xs.length m->E.nx m):gy L t g E (xs.map enc) m:=
 M6 I xs 0 h0 (λi x m N e hi c=>hs i x m N e (by rw[eP]at hi;show hi) (by rw[eP]at c;show c)) (by rw[eP];show h)
theorem cy (b:i3 cel loc=MO):∀(xs:List α)(a:DQ),a.length+xs.length<=1000000->
  (∀x∈xs,∀Y:Tr->DJ->Prop,Y (out x) cel->gTg t (enc x) {bC k MN++mj loc fr,cel} λe=>f e λg i=>fz i g λd j=>Y d j.cel)->Q (a++xs.map out) #v[loc,cel]->dh k fr t dt f loc Q (xs.map enc) a cel
 | [],a,_,_,q=>by rw[iO,cE]at q;show q
 |x::xs,a,l,hs,q=>by
  rw[aW]at l;show{(),?_};show hs x aP (λd c=>i3 c loc=MO/\dh k fr t dt f loc Q (xs.map enc) (a++[d]) c) {b,?_};show cy b xs (a++[out x]) (by rw[aH,cG];lia) (λy m=>hs y (aT _ m)) ?_;rw[eO];show q
theorem ef (g:i3 cel loc=MO):∀(xs:List α)(a:DQ),a.length+xs.length<=1000000->
  (∀x∈xs,∀(Y:Tr->DJ->Prop)(Z:DJ->Prop),(p x=MO->Y (out x) cel)->(p x=MP->Z cel)->gTg t (enc x) {bC k MN++mj loc fr,cel} λm=>c m λb l=>if b=MO then f l λn o=>fz o n λd r=>Y d r.cel else Z l.cel)->
  Q (a++(xs.filter p).map out) #v[loc,cel]->dh k fr t c f loc Q (xs.map enc) a cel
 | [],a,_,_,q=>by rw[List.filter_nil,iO,cE]at q;show q
 |x::xs,a,s,hs,q=>by
  rw[aW]at s;show{(),?_};show hs x aP (λd e=>i3 e loc=MO/\dh k fr t c f loc Q (xs.map enc) (a++[d]) e) (λe=>i3 e loc=MO/\dh k fr t c f loc Q (xs.map enc) a e) (λi=>{g,?_}) (λi=>{g,?_});{show ef g xs (a++[out x]) (by rw[aH,cG];lia) (λy j=>hs y (aT _ j)) ?_;rw[eO];rw[List.filter_cons_of_pos i]at q;show q};{show ef g xs a () (λy j=>hs y (aT _ j)) ?_;rw[List.filter_cons_of_neg (by rw[i];show aO)]at q;show q}
def jy (n:Nat):ic 0 n=(bA n).map λi:Nat=>Tr.v (.int (i:Int)):=by
 unfold ic;congr 1
 funext i
 rw[Int.zero_add]
end
section
variable {X:Cx}
def gRev (f g:GE):GE:=λm Q=>f m λb c=>g c λe a=>lk a b λd=>match d,e with
 | .tup l,.val (.v (.int i))=>i=-1/\Q (.val (.tup l.reverse)) a
 |_,_=>False
def X1 (n:VE X e f)(hs:VE X st g):VE X (.Subscript e (.Slice MN MN (KE st) U) o) (gRev f g):=⟨PE.sub (aes n.out hs.out) λY H Q p=>je p λW m R r s h q=>⟨W,m,_,r,s,h,λc u w x A l1 C D=>⟨w,u,_,rfl,C,A,λes l W2 y E l2 i G=>by
  obtain⟨d,I,b⟩:_:=gu i.ok (D.mono l2) E
  split at b
  · obtain⟨rfl,b⟩:_:=b;cases(Rp.vI G).1;obtain⟨a,xs,rfl,J,L⟩:_:=I.tup i.ok.sub;show{rfl,a,xs,rfl,J,Bz (R:=λc=>R c l) i.ok (λc N z O j T=>q c l N z O (l1.trans (l2.trans j.lx)) (i.lift j.lx j.cs j.ok) (T.old (l1.trans l2).toLe)) b L.reverse}
  · show b.elim⟩⟩⟩
def Ut (o:Int->Int->Int)(i:Nat)(f:GE):GS:=λE m=>match m.loc[i]? with
 |some (KE (.v (.v (.int a))))=>f m λd c=>(match d with
   | .val (.v (.int b))=>E.nx {c.loc.set i (KE (.v (.v (.int (o a b))))),c.cel}
   |_=>False)
 |_=>False
def M7 (h:lfS b O (Ut o i f) D g H):tAug i (lf b f) (ipI o) D g H:=by
 obtain⟨W,m,E,j,l,d,h,n,_⟩:=h;unfold Ut at h
 split at h
 ·rename_i a e
  obtain⟨x,p,q⟩:=d.loc i _ e;cases(Rp.vI q).1;show{_,p,W,m,_,j,d,h,λz A r y c l1 s u=>?_}
  split at c;{cases(Rp.vI u).1;show{_,_,rfl,rfl,n _ r _ c (l.trans l1.toLe) l1.same (s.set (w:=.v _) (Rp.v rfl))}};{show c.elim}
 ·show h.elim
def ip_or:PIp X .BitOr (ipI λi j=>dX i j):=by
 intro c s d H x y v u Q I a b h;obtain⟨i,j,rfl,rfl,q⟩:_:=h;obtain⟨t,rfl⟩:_:=a;obtain⟨t',rfl⟩:_:=b;show PyProof.Rows.ior_int {.int _,H,I.tok _,{_,rfl},q}
def ake:PIp X .BitXor (ipI λi j=>kB i j):=by
 intro c s d H x y v u Q I a b h;obtain⟨i,j,rfl,rfl,q⟩:_:=h;obtain⟨t,rfl⟩:_:=a;obtain⟨t',rfl⟩:_:=b;show PyProof.Rows.ixor_int {.int _,H,I.tok _,{_,rfl},q}
abbrev Jt:Nat->GE->GS:=Ut λi j=>dX i j
abbrev Fq:Nat->GE->GS:=Ut λi j=>kB i j
def Py (a:X.N.Nodup)(hi:X.N[i]?=KE x)(b:Loc X.e.scope x)(c:VE X e f)(d:autoParam (X.fn x=MO\/X.e.scope.names.lookup x=KE .local) XJ._auto_1):VS X (.AugAssign (.Name x j) .BitOr e g) (Jt i f):=#v[λO=>PS.sub (V2 a hi b c.out ip_or d) λ_ _ _ h=>M7 h]
def M8 (a:X.N.Nodup)(hi:X.N[i]?=KE x)(b:Loc X.e.scope x)(c:VE X e f)(d:autoParam (X.fn x=MO\/X.e.scope.names.lookup x=KE .local) XJ._auto_1):VS X (.AugAssign (.Name x j) .BitXor e g) (Fq i f):=#v[λO=>PS.sub (V2 a hi b c.out ake d) λ_ _ _ h=>M7 h]
abbrev Fs:GS:=λ_ _=>False
structure Gc (b:B)(mg:Str->AX)(x:Str)(d:Tr):Prop where
 ex:∃v u,mg x=KE u/\RelV v u/\∀F,Rp b F v d
def vgl (h:Gc X.B X.mg x d)(b:↥(Gl X x))(hd:↑((x == ("__debug__":Str))=MP)):VE X (.Name x c) (gC d):=by
 obtain⟨v,u,a,r,k⟩:=h;show afl b a r k hd
section
variable {κ:Type}[DecidableEq κ]
def i5 (ks:List κ)(l:DQ)(k:κ):Option Tr:=((ks.zip l).find? λp=>decide (p.1=k)).map (·.2)
def mq (ks:List κ)(k:κ):List κ:=if k∈ks then ks else ks++[k]
def mr (ks:List κ)(l:DQ)(k:κ)(d:Tr):DQ:=if k∈ks then uP (λk' d'=>if k'=k then d else d') ks l else l++[d]
variable {ε:Type}{key:ε->κ}{val:ε->V}{b:B}{F:Hp}
theorem B8 (k:κ):∀{L:List ε}{l:DQ},Rps b F (L.map val) l->(∀d,i5 (L.map key) l k=KE d->∃x,(L.find? λe=>decide (key e=k)).map val=KE x/\Rp b F x d)/\((L.find? λe=>decide (key e=k)).isSome=decide (k∈L.map key))
 | [],[],.nil=>{λd h=>(by cases h),by simp}
 |e::L,d::l,.cons h r=>by
  obtain⟨a,f⟩:=B8 k (L:=L) r;by_cases c:key e=k;{show{λd' h'=>?_,by simp[dM,c]};have z:i5 ((e::L).map key) (d::l) k=KE d:=(by simp[i5,dM,c]);rw[z]at h';cases h';show{val e,by simp[dM,c],h}};{show{λd' h'=>?_,?_};{have z:i5 ((e::L).map key) (d::l) k=i5 (L.map key) l k:=(by simp[i5,dM,c]);rw[z]at h';obtain⟨x,g,i⟩:=a d' h';show{x,by rw[dM];simp only[MW c];show g,i}};{have:¬k=key e:=λz=>c z.symm;rw[dM];simp only[MW c];rw[f];simp[this]}}
theorem X2 (k:κ)(a:Rp b F y d)(f:∀e,val (g e)=if key e=k then y else val e):∀{L:List ε}{l:DQ},Rps b F (L.map val) l->Rps b F ((L.map g).map val) (uP (λk' d'=>if k'=k then d else d') (L.map key) l)
 | [],[],.nil=>.nil
 |e::L,d'::l,.cons h r=>by
  show .cons ?_ (X2 k a f r);change Rp b F (val (g e)) (if key e=k then d else d')
  rw[f];by_cases c:key e=k;{rw[MU c,MU c];show a};{rw[MV c,MV c];show h}
def og (k:κ)(a:Rp b F y d)(h0:key e0=k)(f:val e0=y)(hk:∀e,key (g e)=key e)(i:∀e,val (g e)=if key e=k then y else val e){L L':List ε}(r:Rps b F (L.map val) l)
  (e:L'=if (L.find? λe=>decide (key e=k)).isSome=MO then L.map g else L++[e0]):mq (L.map key) k=L'.map key/\Rps b F (L'.map val) (mr (L.map key) l k d):=by
 have z:=(B8 (key:=key) (val:=val) k r).2;unfold mq mr;subst e;by_cases c:k∈L.map key
 ·rw[z,MX c,MU rfl,MU c,MU c];show{?_,X2 k a i r};rw[cV];congr 1
  funext e
  show(hk e).symm
 ·rw[z,MW c,MV aO,MV c,MV c];show{by rw[bF,List.map_singleton,h0],?_};rw[bF,List.map_singleton,f];show r.append (.cons a .nil)
end
def itT:I2->Tr
 | .inl i=>.v (.int i)
 | .inr l=>tI l
def zh (h:SqT b.K F a xs)(r:Rps b F xs (k.map itT)):KeyAt b.K F a k:=by
 show{xs,h,?_};clear h
 induction k generalizing xs with
 |nil=>cases r;show .nil
 |cons i k d=>
  cases r with
  |cons h r=>
   show .cons ?_ (d r);cases i with
   |inl i=>show(Rp.vI h).1
   |inr l=>
    obtain⟨c,ys,rfl,e,f⟩:=Rp.tupI h;cases f.flat;show#v[c,rfl,e]
def setG:Tr->Tr->Tr->(Tr->Prop)->Prop
 | .lst l,.v (.int k),e,R=>m8 (ixN l.length k) λn=>R (.lst (l.set n e))
 | .dk ks l,.v (.int i),e,R=>ks.length < 1000000/\R (.dk (mq ks (.inl i)) (mr ks l (.inl i) e))
 | .dct ks l,.tup t,e,R=>∃k:CW,t=k.map itT/\ks.length < 1000000/\R (.dct (mq ks k) (mr ks l k e))
 |_,_,_,_=>False
def rSetG (b:B):Lu:=λo i v H Q=>∃W cel j a d k e R,W.H=H/\Wok b W cel/\o=.ref a/\W.C j=KE a/\cel[j]?=KE (KE d)/\Top b W i k/\Rp b W.F v e/\setG d k e R/\
 ∀d' c,R d'->Lx W c->(∀j,c.C j=W.C j)->Wok b c (cel.set j (KE d'))->Q c.H
def agc (hu:X.A.units+64 < cK):Tj X (rSetG X.B):=by
 intro f' s σ H o i v D iv u Q I E G J h;obtain⟨W,cel,j,a,d,k,e,R,rfl,ok,rfl,p,hd,L,N,h,q⟩:_:=h;unfold setG at h
 split at h;{obtain⟨xs,y,r⟩:_:=ok.lst p hd;cases L.v;obtain⟨n,hn,h⟩:_:=i8 h;obtain⟨l3,O⟩:_:=jf (d':=.lst _) (o:=.lst (xs.set n v)) ok p hd {_,bh,r.set N n};show L4 f' s σ W.H _ _ v D iv u Q I E G J {a,xs,_,n,rfl,rfl,y,by rw[r.length];show hn,q _ _ h l3 (λ_=>rfl) O}}
 ·cases L.v;cases(show D=bQ a from E);obtain⟨a',z,q2,kvs,y,rfl,r⟩:_:=ok.cell j _ hd;rw[p]at z;cases z;obtain⟨hz,h⟩:_:=h
  rename_i b
  obtain⟨T,U⟩:_:=og (key:=λm:Key×V=>m.1) (val:=λm=>m.2) (Sum.inl b) N (g:=λm=>if m.1=Sum.inl b then (m.1,v)else m) (e0:=(Sum.inl b,v)) rfl rfl (λe=>by split<;>rfl) (λe=>by split<;>rfl) r (L':=pw kvs (Sum.inl b) v) (by
    unfold pw;rw[Dg];unfold lj;rw[eA])
  obtain⟨l3,O⟩:_:=jf (d':=.dk (mq (kvs.map (·.1)) (Sum.inl b)) (mr (kvs.map (·.1)) _ (Sum.inl b) _)) (o:=.dK (pw kvs (Sum.inl b) v)) ok p hd {_,bh,T,U};show W4 () I (DPut.k (k:=Sum.inl b) y (by rw[<-aC (f:=(·.1))];show bU hz #v[])) G J λs' I'=>{_,I',q _ _ h l3 (λ_=>rfl) O}
 ·obtain⟨l,rfl,hz,h⟩:_:=h;obtain⟨c,ys,rfl,t1,t2⟩:_:=Rp.tupI L;obtain⟨a',z,q2,kvs,LD,y,Y,gz,gs,rfl,r⟩:_:=ok.cell j _ hd;rw[p]at z;cases z;have kt:=zh t1 t2;have dd:DictAt X.p X.w X.K W.H a kvs:={#v[LD,y],λx hx=>ja (Y x hx) ok.sub,gz,gs};obtain⟨T,U⟩:_:=og (key:=λe:CW×MQ×V=>e.1) (val:=λe=>e.2.2) l N (g:=λe=>if e.1=l then (e.1,e.2.1,v)else e) (e0:=(l,c,v)) rfl rfl (λe=>by split<;>rfl) (λe=>by split<;>rfl) r (L':=iu kvs l c v) (by
    unfold iu atK;rw[eA])
  have st:=λC=>jf (d':=.dct (mq (kvs.map (·.1)) l) (mr (kvs.map (·.1)) _ l _)) (o:=me X.p X.w a C (iu kvs l c v)) ok p hd ⟨_,C,bh,λe he=>by
      rcases E5 he with⟨z1,z2⟩ | z1
      · rcases z2 with z2 | ⟨e',CV,z3,z4⟩
        · rw[z1,z2];show kt
        · have:=Y e' CV;rw[z3,z4]at this;rw[z1];show this
      · show Y e z1,aX (E4 _ _ _ _) (by
        have:kvs.length < 1000000:=(by rw[<-aC (f:=(·.1))];show hz);show aX this #v[]),gs,T,U⟩
  show Xa rfl rfl rfl () f' s σ W.H _ _ v D iv u Q I E G J ⟨a,kvs,c,l,rfl,rfl,dd,ja kt ok.sub,by rw[<-aC (f:=(·.1))];show bU hz #v[],λC=>q _ _ h (st C).1 (λ_=>rfl) (st C).2⟩
 ·show h.elim
def M9 (i:Nat)(f g:GE):GS:=λE m=>f m λl n=>fz n l λe b=>match b.loc[i]? with
 |some (KE (.c j))=>g b λo a=>lk a (.cel j) λd=>lk a o λk=>setG d k e λd'=>E.nx {a.loc,a.cel.set j (KE d')}
 |_=>False
def Na (G:X.N[i]?=KE x)(I:Vis X.e.scope x)(J:X.A.units+64 < cK)(L:VE X e f)(hk:VE X k g)(hs:↥(tK [.Subscript (.Name x p) k b] e q.line X.e=pure MP))(hw:↥(tM [.Subscript (.Name x p) k b] e X.e=pure MN))
  (r:↥((jW [.Subscript (.Name x p) k b] X.e).map (·.2)=[mH (.Subscript (.Name x p) k b) X.e]))
  (T:∀v,mH (.Subscript (.Name x p) k b) X.e v=(do
    let c <-iV [v] (eval (.Name x p) X.e)
    let iv <-iV [v,c] (eval k X.e)
    mX b
    iV [v,c,iv] (vM c iv v)
    release [v,c,iv] []):=by intro _;rfl) (hd:↑((x == ("__debug__":Str))=MP)) (U:↑((x == ("__classdict__":Str))=MP)) :
  VS X (.Assign [.Subscript (.Name x p) k b] e q) (M9 i f g):=⟨λO=>PS.sub (Lv L.out (V0 (um G I hd U) hk.out (agc J) T) hs hw r) λD σ H Y=>t9 Y λW m E hW l vO h n _ _ _=>⟨W,m,_,hW,vO,h,λev m1 W1 y r l1 vN r1=>by
obtain⟨d0,m2,W2,s,l2,e2,w,r2⟩:=nr l1 vN r1 r
split at s
· rename_i j hj
  obtain⟨z,q1,a,rfl,ca⟩:=w.loc i _ hj;show{_,q1,?_};rw[<-e2];show{W2,m2,_,rfl,w,s,λek m3 W3 kx h3 l3 o r3=>?_};obtain⟨d,hd,h4⟩:=uu h3;obtain⟨kt,tk,h5⟩:=gu o.ok r3 h4;obtain⟨u,C,_⟩:=o.ok.cell j d hd;have ea:u=a:=(by have:=l3.cx j u C;rw[ca]at this;cases this;rfl);subst ea;show{W3,m3.cel,j,u,d,kt,d0,_,rfl,o.ok,rfl,C,hd,tk,Rp.mono l3.same r2,h5,λd' W' h6 l4 cs DN=>n _ W' _ h6 (l.trans (l2.trans (l3.trans l4)).toLe) (Same.tr l2.same (Same.tr l3.same l4.same)) (o.setc l4 cs DN)}
· show s.elim⟩⟩
def ade:GE:=λm Q=>Q (.new (.dk [] [])) m
def agd:VE X (.Dict [] [] b) ade:=⟨PE.sub aaf λi H Q ⟨W,m,R,c,a,h,q⟩ p e=>by
  subst c;obtain⟨l2,f,g⟩:=o6 (d:=.dk [] []) (o:=.dK []) a.ok e {[],bh,rfl,.nil};show q _ m _ _ h l2 (a.lift l2 (λ_=>rfl) f) g⟩
def ixD:G2
 | .dk ks l,.v (.int i),R=>m8 (i5 ks l (.inl i)) λd=>R (.val d)
 | .dct ks l,.tup t,R=>∃k:CW,t=k.map itT/\m8 (i5 ks l k) λd=>R (.val d)
 |x,y,R=>ixG x y R
def Hj {b:B}{W:Wd}{k:CW}{x:V}(ok:Same W.F W.H)(t:Top b W x (.tup (k.map itT))):∃c,x=.ref c/\KeyAt b.K W.H c k:=by
 obtain⟨c,ys,rfl,a,d⟩:=Rp.tupI t;show{c,rfl,ja (zh a d) ok}
def akf (J:X.A.units+64 < cK):IxR X (rG X.B ixD):=by
 intro value slice w s C H x y v u Q I b f h hs;obtain⟨W,cel,L,N,R,rfl,ok,j,ty,h,q⟩:=h;unfold ixD at h
 split at h
 ·rename_i ks l i
  obtain⟨a,kvs,rfl,m,rfl,n⟩:=j;cases ty.v;cases(show v=bQ a from b);obtain⟨d,e,h⟩:=i8 h;obtain⟨z,o,p⟩:=(B8 (key:=λr:Key×V=>r.1) (val:=λr=>r.2) (Sum.inl i) n).1 d e;have g:DGet W.H a (.int i) (KE z):=by
   have:=DGet.k (k:=Sum.inl i) m;rw[show lj kvs (Sum.inl i)=KE z from o]at this;show this
  show PyProof.Rows.tail_any (Pq I g) PySem.F.slot_dict_getitem.lookup (Wz () I g f λO s' D E=>{z,W.H,D,E,q _ W z h (After.refl ok) p}) hs
 {obtain⟨k,rfl,h⟩:=h;obtain⟨a,kvs,rfl,m,T,rfl,n⟩:=j;obtain⟨c,rfl,G⟩:=Hj ok.sub ty;obtain⟨d,e,h⟩:=i8 h;obtain⟨z,o,p⟩:=(B8 (key:=λe:CW×MQ×V=>e.1) (val:=λe=>e.2.2) k n).1 d e;show aai rfl rfl rfl () value slice w s C W.H _ _ v u Q I b f {a,kvs,c,k,z,rfl,rfl,m,G,o,q _ W z h (After.refl ok) p} hs};{show ada value slice w s C W.H x y v u Q I b f {W,cel,_,_,R,rfl,ok,j,ty,h,q} hs}
def Ft (c:X.A.units+64 < cK)(d:VE X a fa)(e:VE X b f)(hs:autoParam (G4 b) KJ._auto_1):VE X (.Subscript a b g) (gOp ixD fa f):=#v[PE.sub (T3 (akf c) d.out e.out hs) λ_ _ _ h=>yc h]
def g9 {a:Type}[DecidableEq a](ks:List a)(k:a):Bool:=ks.any λx=>decide (x=k)
theorem uy {a ε:Type}[DecidableEq a]{key:ε->a}(k:a):∀(L:List ε),(L.find? λe=>decide (key e=k)).isSome=g9 (L.map key) k
 | []=>rfl
 |e::L=>by
  have b:=uy (key:=key) k L;unfold g9 at b ⊢;rw[bE,jT,<-b,dM];by_cases c:key e=k;{simp[c]};{simp[c]}
def inD (a:Bool):G2
 | .v (.int i),.dk ks _,R=>R (.val (.v (.bl (if a then !g9 ks (Sum.inl i)else g9 ks (Sum.inl i)))))
 | .tup t,.dct ks _,R=>∃k:CW,t=k.map itT/\R (.val (.v (.bl (if a then !g9 ks k else g9 ks k))))
 |x,y,R=>inG a x y R
def X3 (n:X.A.units+64 < cK):OpG X (eE .In) (inD MP):=by
 intro j s m H x y v u Q I b d h;obtain⟨W,cel,z,C,R,rfl,ok,f,ty,h,q⟩:=h;unfold inD at h
 split at h
 ·rename_i i ks l
  obtain⟨a,kvs,rfl,g,rfl,o⟩:=ty;cases f.v;cases(show u=bQ a from d);show d_in () I (DGet.k (k:=Sum.inl i) g) b λs' p=>{.bl _,W.H,p,rfl,?_};rw[show(lj kvs (Sum.inl i)).isSome=g9 (kvs.map (·.1)) (Sum.inl i)by unfold lj;rw[eA];show uy (key:=λr:Key×V=>r.1) _ _];show q _ W _ h (After.refl ok) (Rp.v rfl)
 {obtain⟨k,rfl,h⟩:=h;obtain⟨a,kvs,rfl,g,D,rfl,o⟩:=ty;obtain⟨c,rfl,w⟩:=Hj ok.sub f;show ajb rfl rfl rfl () j s m W.H _ _ v u Q I b d {c,k,a,kvs,rfl,rfl,w,g,?_};rw[show(atK kvs k).isSome=g9 (kvs.map (·.1)) k by unfold atK;rw[eA];show uy (key:=λe:CW×MQ×V=>e.1) _ _];show q _ W _ h (After.refl ok) (Rp.v rfl)};{show Fj n j s m W.H x y v u Q I b d {W,cel,_,_,R,rfl,ok,f,ty,h,q}}
def X4 (n:X.A.units+64 < cK):OpG X (eE .NotIn) (inD MO):=by
 intro j s m H x y v u Q I b d h;obtain⟨W,cel,z,C,R,rfl,ok,f,ty,h,q⟩:=h;unfold inD at h
 split at h
 ·rename_i i ks l
  obtain⟨a,kvs,rfl,g,rfl,o⟩:=ty;cases f.v;cases(show u=bQ a from d);show afa () I (DGet.k (k:=Sum.inl i) g) b λs' p=>{.bl _,W.H,p,rfl,?_};rw[show(lj kvs (Sum.inl i)).isSome=g9 (kvs.map (·.1)) (Sum.inl i)by unfold lj;rw[eA];show uy (key:=λr:Key×V=>r.1) _ _];show q _ W _ h (After.refl ok) (Rp.v rfl)
 {obtain⟨k,rfl,h⟩:=h;obtain⟨a,kvs,rfl,g,D,rfl,o⟩:=ty;obtain⟨c,rfl,w⟩:=Hj ok.sub f;show W8 rfl rfl rfl () j s m W.H _ _ v u Q I b d {c,k,a,kvs,rfl,rfl,w,g,?_};rw[show(atK kvs k).isSome=g9 (kvs.map (·.1)) k by unfold atK;rw[eA];show uy (key:=λe:CW×MQ×V=>e.1) _ _];show q _ W _ h (After.refl ok) (Rp.v rfl)};{show Ms n j s m W.H x y v u Q I b d {W,cel,_,_,R,rfl,ok,f,ty,h,q}}
end
open PyProof.Rows (envOfC)
section
variable {P:aQ}{w:bB}{K:aF}{mg:Str->AX}{base:MR}{X:Cx}
theorem yk:∀{p l},(ins p x l).length=l.length+1
 |0,_=>rfl
 |p+1,[]=>rfl
 |p+1,y::l=>by change(ins p x l).length+1=_;rw[yk];rfl
theorem Ss:∀{p:Nat}{xs:DK}{ds:DQ},Rps b F xs ds->∀{i:Nat}{u:Wt},(ins p (KE (Wt.c 0)) (vsW ds))[i]?=KE (KE u)->∃x,(ins p (V.ref a) xs)[i]?=KE x/\((u=.c 0/\x=.ref a)\/∃d,u=.v d/\Rp b F x d)
 |0,xs,ds,r,0,u,h=>by
  have h':KE (KE (Wt.c 0))=KE (KE u):=h;cases h';show{_,rfl,.inl #v[rfl,rfl]}
 |0,xs,ds,r,i+1,u,h=>by
  have h':(vsW ds)[i]?=KE (KE u):=h;rw[aN]at h';rcases e:ds[i]? with _ | d;{rw[e]at h';cases h'};{rw[e]at h';cases h';obtain⟨y,f,g⟩:_:=r.get e;show{y,f,.inr #v[d,rfl,g]}}
 |p+1,_,_,.nil,i,u,h=>by
  have h':([KE (Wt.c 0)]:D1)[i]?=KE (KE u):=h;cases i with
  |zero=>cases h';show{_,rfl,.inl #v[rfl,rfl]}
  |succ i=>simp at h'
 |p+1,_,_,.cons k r,0,u,h=>by
  have h':KE (KE (Wt.v _))=KE (KE u):=h;cases h';show{_,rfl,.inr {_,rfl,k}}
 |p+1,_,_,.cons k r,i+1,u,h=>Ss (p:=p) r (i:=i) (u:=u) h
def fn_r (F:Fun K x wB st f fd)(S:fj N ps (bt st))
  (hb:Rdx P w K mg base N wB st f k g)
  (hg:Pr p g N.length I ps.length gf):ir P w K mg base CX0 (k+1) f fd ps (spR #v[P,w,K] ps.length p gf):=by
 show F.ok S (λvs H Q E h=>h.1) λwA A outer s H vs Q E hr h=>?_;obtain⟨hl,W,xs,ds,d,a,R,rfl,rfl,c0,ok,U,JU,q⟩:=h;have hN:∀j,W.C (j+1)=MN:=λj=>by
  cases e:W.C (j+1)with
  |none=>rfl
  |some a=>obtain⟨d',hd⟩:=ok.live (j+1) a e;simp at hd
 have fin:∀J D m o x,Us R J D->Le W m->Rel ⟨P,w,K⟩ m D o->Rev ⟨P,w,K⟩ W m x J->Q x m.H:=λJ D m o x h l G r=>by
  unfold Us at h
  split at h
  ·rename_i e he
   obtain⟨Y,ca,k1,k2⟩:=G.ok.cell 0 e he;have ea:W.C 0=KE Y:=by
    rcases l.cl 0 Y ca with z | z;{show z};{show MY rfl z.2}
   have L:∀j,(if j=0 then m.C 0 else MN)=W.C j:=λj=>by
    cases j with
    |zero=>rw[MU rfl,ca,ea]
    |succ j=>rw[MV (),hN j]
   have l':Le W ⟨m.F,m.H,λj=>if j=0 then m.C 0 else MN⟩:=l.cut λj b e=>by rw[<-L j];show e
   have BX:Wok ⟨P,w,K⟩ ⟨m.F,m.H,λj=>if j=0 then m.C 0 else MN⟩ [KE e]:=⟨G.ok.sub,λj d' hj=>(by
     cases j with
     |zero=>cases hj;show#v[Y,ca,k1,k2]
     |succ j=>simp at hj),λj b e=>(by
     cases j with
     |zero=>show{_,rfl}
     |succ j=>
       have O:(if j+1=0 then m.C 0 else MN)=KE b:=e
       rw[MV (rO j)]at O;cases O),λj k b e O=>by
     have n:∀{j},(if j=0 then m.C 0 else MN)=KE b->j=0:=λ{j} z=>by
       cases j with
       |zero=>rfl
       |succ j=>rw[MV ()]at z;cases z
     rw[n e,n O]⟩
   have I:∀{b:MQ},m.C 0≠KE b->∀j,(if j=0 then m.C 0 else MN)≠KE b:=λh j z=>by
    cases j with
    |zero=>show h z
    |succ j=>rw[MV ()]at z;cases z
   obtain⟨f1,f2,f3⟩:=So l hN G r;cases J with
   |val d=>show q _ _ {m.F,m.H,λj=>if j=0 then m.C 0 else MN} x h l' L BX (f1 d rfl)
   |new d=>
    obtain⟨b,rfl,z0,z1,z2,z3⟩:=f2 d rfl;show q _ _ {m.F,m.H,λj=>if j=0 then m.C 0 else MN} _ h l' L BX {b,rfl,z0,z1,I (z3 0),z2}
   |cel j=>
    cases j with
    |zero=>show h.elim
    |succ j=>
     change (match D.cel[j+1]? with | some (KE d)=>R (.new d) e | _=>False)at h
     rcases T:D.cel[j+1]? with _ | _ | d;{rw[T]at h;show h.elim};{rw[T]at h;show h.elim};{rw[T]at h;obtain⟨b,rfl,z0,z1,z2,z3⟩:=f3 j d rfl T;show q _ _ {m.F,m.H,λj=>if j=0 then m.C 0 else MN} _ h l' L BX {b,rfl,z0,z1,I (λz=>by have:=G.ok.dist _ _ _ z z3;lia),z2}}
  ·show h.elim
 show{_,(hb wA A outer s W.H E hr).out W,W,_,_,rfl,Le.refl W,{{ok.sub,λj d' h=>?_,λj b e=>?_,ok.dist},λi u hu=>?_,?_},hg ds d R (by rw[yk,U.length]at hl;show hl) JU,λD m o h l _ G=>fin (.val (.v .non)) D m o .non h l G (Rp.v rfl),fin,λ_ _ _ h=>h.elim,λ_ _ _ h=>h.elim}
 ·cases j with
  |zero=>show ok.cell 0 d' h
  |succ j=>
   have h':(bC I (MN:Option Tr))[j]?=KE (KE d'):=h;rw[dN]at h'
   split at h'<;>cases h'
 ·obtain⟨d',hd⟩:=ok.live j b e;cases j with
  |zero=>show#v[d,rfl]
  |succ j=>simp at hd
 {obtain⟨y,hy,ry⟩:=Ss (b:=#v[P,w,K]) (a:=a) U (Sn hu);show{y,M5 hy,?_};rcases ry with⟨rfl,rfl⟩ | ⟨d',rfl,r⟩;{show#v[a,rfl,c0]};{show r}};{change(locs N.length (ins p (KE (.c 0)) (vsW ds))).length=_;rw[Jr];unfold locs;rw[aH,cY,yk,yk,aC,U.length]}
def Uu (p:Nat):List Ev->(DQ->Nat->Prop)->Prop
 | [],_=>False
 |e::r,Q=>match p with
  |0=>(match e with
    | .cel j=>xi r λds=>Q ds j
    |_=>False)
  |p+1=>(match e with
    | .val d=>Uu p r λds j=>Q (d::ds) j
    |_=>False)
theorem Su:∀{p g xs Q},Paired (Rev b O W) xs g->Uu p g Q->∃ys ds j a,xs=ins p (.ref a) ys/\Rps b W.F ys ds/\(∀i,W.C j=KE i->i=a)/\Q ds j
 |_,[],_,_,.nil,h=>by cases (by assumption:Nat)<;>show h.elim
 |0,e::r,_,Q,.cons h t,q=>by
  cases e with
  |cel j=>
   obtain⟨a,rfl,c⟩:_:=h;obtain⟨ds,f,q⟩:_:=qt t q;show{_,ds,j,a,rfl,f,c,q}
  |val _=>show q.elim
  |new _=>show q.elim
 |p+1,e::r,_,Q,.cons h t,q=>by
  cases e with
  |val d=>
   obtain⟨ys,ds,j,a,rfl,f,c,q⟩:_:=Su (p:=p) t q;show{_::ys,d::ds,j,a,rfl,.cons h f,c,q}
  |cel _=>show q.elim
  |new _=>show q.elim
def akg (R:Ev->Tr->Prop):Ev->Tr->Prop
 | .cel _,_=>False
 |ev,d=>R ev d
def fu (n p:Nat)(g:GR)(ga:GA):GE:=λm Q=>ga m λb a=>Uu p b λds j=>ds.length+1=n/\lk a (.cel j) λd=>g ds d (akg λc d'=>Q c {a.loc,a.cel.set j (KE d')})
def Uv (ok:Wok b W cel)(m:W.C j=KE a)(G:cel[j]?=KE (KE d))(l:Le {W.F,W.H,λk=>if k=0 then KE a else MN} f)(I:∀k,f.C k=if k=0 then KE a else MN)(y:Wok b f [KE d']):Lx W #v[f.F,f.H,W.C]/\Wok b #v[f.F,f.H,W.C] (cel.set j (KE d')):=by
 have A:=bz G;have p:∀{x},x≠a->∀k,(if k=0 then KE a else MN)≠KE x:=λn k z=>by
  split at z;{cases z;show n rfl};{cases z}
 show{{{l.same,λx o e n=>l.fr x o e (p λz=>n j (by rw[m,z])),λx e n=>?_,λk x e=>.inl e,l.dm},λk x e=>e},{y.sub,λk e hk=>?_,λk x e=>?_,ok.dist}}
 ·rcases l.nw x e n with z | ⟨k,z⟩ | z;{show .inl z}
  ·have r:(if k=0 then KE a else MN)=KE x:=z
   split at r;{cases r;show .inr (.inl #v[j,m])};{cases r}
  ·show .inr (.inr z)
 ·by_cases c:k=j;{subst c;rw[cZ A]at hk;cases hk;obtain⟨O,g,s,i⟩:_:=y.cell 0 _ rfl;rw[I 0,MU rfl]at g;cases g;show#v[a,m,s,i]}
  ·rw[cS (λz=>c z.symm)]at hk;obtain⟨x,g,s,i⟩:_:=ok.cell k e hk;have D:x≠a:=λz=>c (ok.dist k j x g (by rw[z];show m));show{x,g,?_,i.mono l.same λo z=>l.fr x o z (p D)};cases q:f.F x with
   |none=>rfl
   |some u=>
    rcases l.nw x s (by rw[q];show λz=>by cases z)with z | ⟨k,z⟩ | ⟨o,z,J⟩;{obtain⟨o,E⟩:_:=i.has;rw[show W.H x=MN from z]at E;cases E};{show MY z (p D k)};{show MY J (i.nimm o z)}
 ·obtain⟨L,N⟩:_:=ok.live k x e;by_cases c:k=j;{subst c;show{d',cZ A}};{show{L,by rw[cS (λz=>c z.symm)];show N}}
def Fu (h:lf b (fu n p g ga) O H Q):lfA b ga O H λvs T=>spR b n p g (vs++[]) T Q E:=by
 obtain⟨W,m,R,U,Y,h,q⟩:=h;show{W,m,_,U,Y,h,λwI m1 c xs h1 l1 f r1=>?_};obtain⟨ys,ds,j,a,rfl,D,ha,hl,h2⟩:=Su r1 h1;obtain⟨d,hd,h3⟩:=uu h2;obtain⟨i,G,k1,k2⟩:=f.ok.cell j d hd;have ea:=ha i G;subst ea;have JW:Wok b ⟨c.F,c.H,λk=>if k=0 then KE i else MN⟩ [KE d]:=⟨f.ok.sub,λk e hk=>(by
   cases k with
   |zero=>cases hk;show#v[i,rfl,k1,k2]
   |succ k=>simp at hk),λk x e=>(by
   cases k with
   |zero=>show#v[d,rfl]
   |succ k=>
     have l:(if k+1=0 then KE i else MN)=KE x:=e
     rw[MV (rO k)]at l;cases l),λk k' x e l=>by
   have n:∀{j},(if j=0 then KE i else MN)=KE x->j=0:=λ{j} z=>by
     cases j with
     |zero=>rfl
     |succ j=>rw[MV ()]at z;cases z
   rw[n e,n l]⟩
 show{by rw[cE,yk,D.length];show hl,{c.F,c.H,λk=>if k=0 then KE i else MN},ys,ds,d,i,_,rfl,by rw[cE],rfl,JW,D,h3,λev d' r y s l4 c4 DN I=>?_}
 obtain⟨l5,J⟩:=Uv f.ok G hd l4 c4 DN;cases ev with
 |cel j=>show s.elim
 |val e=>show q _ _ #v[r.F,r.H,c.C] y s (l1.trans l5) (f.setc l5 (λ_=>rfl) J) I
 |new e=>
  obtain⟨x,rfl,h0,u,h2',A⟩:=I;show q _ _ #v[r.F,r.H,c.C] _ s (l1.trans l5) (f.setc l5 (λ_=>rfl) J) {x,rfl,l1.dm x h0,u,λk z=>?_,A};obtain⟨l,he⟩:=f.ok.live k x z;obtain⟨x',L,_,q3⟩:=f.ok.cell k l he;rw[show c.C k=KE x from z]at L;cases L;obtain⟨o,N⟩:=q3.has;rw[show c.H x=MN from h0]at N;cases N
def vcr (F:Fo X.p X.w X.K X.mg X.base j x ps (spR X.B n l g))(m:Room k X.A)(o:VA X (e::d) ga)(hk:↑(j<=k))(q:↥(Gl X x))
  (r:↑((x == ("__debug__":Str))=MP)) (s:↥(aM (e::d) X.e=(MP,eval e X.e)::aM d X.e)) (u:↥((dS i (aM d X.e)).any (·.1)=MP)) :
  VE X (.Call (.Name x p) (e::d) [] i) (fu n l g ga):=by
 show#v[?_];obtain⟨f,fd,F,a,b,c⟩:_:=F;show PE.sub (R6 F (m.mono hk) q a b c .nil Bu o.out r s u) λy H Q h=>Fu h
def vfr (F:Fd K mg x st ps f fd)(S:fj N ps (bt st))
  (a:Rdx P w K mg base N x st f k g)
  (b:Pr p g N.length d ps.length c):Fo P w K mg base (k+1) x ps (spR #v[P,w,K] ps.length p c):=
 .of F (fn_r F.fn S a b)
end
open PyProof.Rows (envOfC)
section
variable {P:aQ}{w:bB}{K:aF}{mg:Str->AX}{base:MR}{X:Cx}
theorem B9 (f:Str):∀{fs:List (Str×V)}{l:DQ},Rps b F (fs.map (·.2)) l->(∀d,i5 (fs.map (·.1)) l f=KE d->∃x,fs.lookup f=KE x/\Rp b F x d)/\(g9 (fs.map (·.1)) f=MP->fs.lookup f=MN)
 | [],[],.nil=>{λd h=>(by cases h),λ_=>rfl}
 | (g,x)::fs,d::l,.cons h r=>by
  obtain⟨e,i⟩:=B9 f (fs:=fs) r;by_cases c:g=f;{subst c;show{λd' h'=>?_,λh'=>?_};{have z:i5 (((g,x)::fs).map (·.1)) (d::l) g=KE d:=(by simp[i5,dM]);rw[z]at h';cases h';show{x,by simp[lB],h}};{simp[g9]at h'}};{have a:(f == g)=MP:=beq_eq_false_iff_ne.mpr λz=>c z.symm;show{λd' h'=>?_,λh'=>?_};{have z:i5 (((g,x)::fs).map (·.1)) (d::l) f=i5 (fs.map (·.1)) l f:=(by simp[i5,dM,c]);rw[z]at h';obtain⟨y,j,m⟩:=e d' h';show{y,by rw[rH,a];show j,m}};{rw[rH,a];show i ?_;unfold g9 at h' ⊢;rw[bE,jT,Bool.or_eq_false_iff]at h';show h'.2}}
def A7 (C:MQ)(f:Str)(b:GE):GE:=λm Q=>b m λc a=>lk a c λd=>match d with
 | .obj g ns l=>g=C/\m8 (i5 ns l f) λe=>Q (.val e) a
 |_=>False
def uz {C:MQ}{f:Str}{o:MS}{i:GE}{g:Pos}(c:Cls X.K C)(l:NoAttr X.K C f)(n:VE X o i)(p:↥(iA o f X.e (eval o X.e)=eval o X.e)):VE X (.Attribute o f g) (A7 C f i):=⟨PE.sub (aie n.out p) λY H Q r=>je r λW m R s u h q=>⟨W,m,_,s,u,h,λev z A x D l1 j E=>by
  obtain⟨d,G,b⟩:=gu j.ok E D
  split at b
  · obtain⟨rfl,b⟩:=b;obtain⟨e,I,J⟩:=i8 b;obtain⟨a,L,fs,rfl,N,rfl,O⟩:=G;obtain⟨y,T,U⟩:=(B9 f O).1 e I;show{a,_,L,fs,y,rfl,N,c,l,T,q _ z A y J l1 j U}
  · show b.elim⟩⟩
structure Mo (P:aQ)(w:bB)(K:aF)(mg:Str->AX)(base:MR)(k:Nat)(C:MQ)(m:Str)(ps:AQ)(sp:Sp):Prop where
 cl:Cls K C
 ex:∃f fd,ir P w K mg base CX0 k f fd ps sp/\Ly K C m f/\Binds K fd ps []
def qc (C:MQ)(name:Str)(n:Nat)(g:GP)(c:GE)(ga:GA):GE:=λm Q=>c m λa e=>fz e a λd f=>match d with
 | .obj b ns l=>b=C/\g9 ns name=MP/\ga f λi j=>xi i λds=>ds.length+1=n/\g (.obj b ns l::ds) (Ln λa=>Q a j)
 |_=>False
def Nb {n:Nat}{xs:DK}{ds:DQ}{R:Ev->M->Prop}(l:Lx O W)(c:Rel b W m A)(r:Rp b W.F x d)(i:Rps b W.F xs ds)(D:ds.length+1=n)(h:g (d::ds) (Ln λe=>R e m))
  (q:∀e o a x,R e o->Lx O a->Rel b a o A->Rev b O a x e->Q x a.H):spP b n g (x::(xs++[])) W.H Q E:=by
 show{by rw[cE,aW,i.length];show D,{W.F,W.H,λ_=>MN},d::ds,_,rfl,c.ok.cut,by rw[cE];show .cons r i,h,λe a y f l3 p G s=>?_};obtain⟨l4,u⟩:=Js c.ok l3 G;cases e with
 |cel j=>show f.elim
 |val d=>show q _ m #v[a.F,a.H,W.C] y f (l.trans l4) (c.lift l4 (λ_=>rfl) u) ((zc c.ok s (λj z=>nomatch z) p).old l.toLe)
 |new d=>show q _ m #v[a.F,a.H,W.C] y f (l.trans l4) (c.lift l4 (λ_=>rfl) u) ((zc c.ok s (λj z=>nomatch z) p).old l.toLe)
def o9 {l b:Pos}(F:Mo X.p X.w X.K X.mg X.base y C name ps (spP X.B n g))(z:Room k X.A)(D:VE X o G)(I:VA X (e::i) ga)(hk:↑(y<=k))
  (J:↥(aM (e::i) X.e=(MP,eval e X.e)::aM i X.e)) (L:↥((dS b (aM i X.e)).any (·.1)=MP))
  (N:eval (.Call (.Attribute o name l) (e::i) [] b) X.e=(do
    let p <-eval o X.e
    mX l.atName
    let (f,first) <-iV [p] (mJ p name pl)
    rC b f first (dS b (aM (e::i) X.e)) (lM b (jG [] X.e))):=by rfl) :
  VE X (.Call (.Attribute o name l) (e::i) [] b) (qc C name n g G ga):=by
 show#v[?_];obtain⟨c,f,fd,F,mt,bd⟩:=F;show PE.sub (aef (pl:=pl) (E:=E0) D.out c mt F (z.mono hk) bd .nil Bu I.out J L N) λσ H Q O=>je O λW m R T U h q=>⟨W,m,_,T,U,h,λev m1 W1 x Y l1 vN r1=>by
   obtain⟨d,m2,W2,j,l2,r,s,u⟩:=nr l1 vN r1 Y
   split at j
   · obtain⟨rfl,hn,j⟩:=j;obtain⟨a,dx,fs,rfl,k1,rfl,k2⟩:=Top.of (W:=W2) u s.ok.sub;show{a,dx,fs,rfl,by rw[<-r];show k1,(B9 name k2).2 hn,?_};rw[<-r];show{W2,m2,_,rfl,s,j,λwI m3 W3 xs h3 l3 wY r3=>?_};obtain⟨ds,rr,hl,h4⟩:=qt r3 h3;show Nb (l2.trans l3) wY (u.mono l3.same) rr hl h4 q
   · show j.elim⟩
def abl {i b:Pos}(F:Mo X.p X.w X.K X.mg X.base s C name ps (spP X.B n g))(u:Room k X.A)(y:VE X o z)(hk:↑(s<=k))
  (D:eval (.Call (.Attribute o name i) [] [] b) X.e=(do
    let j <-eval o X.e
    mX i.atName
    let (f,first) <-iV [j] (mJ j name pl)
    rC b f first (dS b (aM [] X.e)) (lM b (jG [] X.e))):=by rfl) :
  VE X (.Call (.Attribute o name i) [] [] b) (qc C name n g z gaN):=by
 show#v[?_];obtain⟨c,f,fd,F,mt,bd⟩:=F;show PE.sub (Zr (pl:=pl) (E:=E0) y.out c mt F (u.mono hk) bd .nil Bu D) λσ H Q G=>je G λW m R I J h q=>⟨W,m,_,I,J,h,λev m1 W1 x L l1 N O=>by
   obtain⟨d,m2,W2,e,l2,l,p,r⟩:=nr l1 N O L
   split at e
   · obtain⟨rfl,T,U,e⟩:=e;obtain⟨a,Y,fs,rfl,k1,rfl,k2⟩:=Top.of (W:=W2) r p.ok.sub;show{a,Y,fs,rfl,by rw[<-l];show k1,(B9 name k2).2 T,?_};rw[<-l];show Nb (E:=E0) (xs:=[]) (ds:=[]) l2 p r .nil U e q
   · show e.elim⟩
def Uw (C:MQ)(i:Nat)(f:Str)(g:GE):GS:=λE m=>g m λn o=>fz o n λe a=>match a.loc[i]? with
 |some (KE (.c j))=>lk a (.cel j) λd=>(match d with
   | .obj b ns l=>b=C/\g9 ns f=MP/\ns.length < 1000/\E.nx {a.loc,a.cel.set j (KE (.obj b (ns++[f]) (l++[e])))}
   |_=>False)
 |_=>False
theorem Nc:∀{fs},g9 (fs.map (·.1)) f=MP->ku f v fs=fs++[(f,v)]
 | [],_=>rfl
 | (g,x)::fs,h=>by
  unfold g9 at h;rw[bE,jT,Bool.or_eq_false_iff]at h;have c:¬g=f:=of_decide_eq_false h.1;rw[ku,MV c,Nc (fs:=fs) h.2];rfl
def X5 (c:Cls X.K C)(G:NoAttr X.K C f)(I:X.N[i]?=KE x)(J:Vis X.e.scope x)(L:VE X e T)(hs:↥(kS e (KE (.Attribute (.Name x p) f U)) q.line X.e=pure MP))
  (hd:↑((x == ("__debug__":Str))=MP)) (Y:↑((x == ("__classdict__":Str))=MP)):VS X (.Assign [.Attribute (.Name x p) f U] e q) (Uw C i f T):=⟨λO=>PS.sub (aif (um I J hd Y) L.out hs) λD σ H hG=>t9 hG λW m E hW l vO h n _ _ _=>⟨W,m,_,hW,vO,h,λev m1 W1 y h1 l1 vN r1=>by
  obtain⟨d0,m2,W2,r,l2,e2,g,r2⟩:=nr l1 vN r1 h1
  split at r
  · rename_i j hj
    obtain⟨z,q1,a,rfl,u⟩:=g.loc i _ hj;show{_,q1,?_};obtain⟨d,hd,b⟩:=uu r
    split at b
    · obtain⟨rfl,hk,hz,b⟩:=b;obtain⟨a',A,k1,s,fs,k2,rfl,k3⟩:=g.ok.cell j _ hd;rw[u]at A;cases A;rw[<-e2];show⟨a,_,s,fs,rfl,k2,c,G,by rw[<-aC (f:=(·.1))];show hz,?_⟩;rw[Nc hk];obtain⟨l3,zF⟩:=jf (d':=.obj _ (fs.map (·.1)++[f]) (_++[d0])) (o:=.ins _ s (fs++[(f,y)])) g.ok u hd {s,_,bh,by rw[bF];rfl,by rw[bF];show k3.append (.cons r2 .nil)};show n _ _ _ b (l.trans (l2.trans l3).toLe) (Same.tr l2.same l3.same) (g.setc l3 (λ_=>rfl) zF)
    · show b.elim
  · show r.elim⟩⟩
structure Ko (P:aQ)(w:bB)(K:aF)(mg:Str->AX)(base:MR)(k:Nat)(x:Str)(C:MQ)(ps:AQ)(sp:Sp):Prop where
 ex:∃f fd,Mk K C f/\ir P w K mg base CX0 k f fd ps sp/\mg x=KE (.ref C)/\Binds K fd ps []
def adf:Ev->Prop
 | .val (.v .non)=>True
 |_=>False
def adg (C:MQ)(n:Nat)(g:GR)(ga:GA):GE:=λm Q=>ga m λa b=>xi a λds=>ds.length+1=n/\g ds (.obj C [] []) λc d'=>adf c/\Q (.new d') b
def age (F:Ko X.p X.w X.K X.mg X.base kc x C ps (spR X.B n 0 g))(hr:Room k X.A)(ha:VA X (e::L) ga)(hk:↑(kc+1<=k))(hg:↥(Gl X x))
  (yW:↑((x == ("__debug__":Str))=MP)) (he:↥(aM (e::L) X.e=(MP,eval e X.e)::aM L X.e)) (xK:↥((dS O (aM L X.e)).any (·.1)=MP)) :
  VE X (.Call (.Name x p) (e::L) [] O) (adg C n g ga):=by
 show#v[?_];obtain⟨f,fd,M,F,hm,bd⟩:=F;show PE.sub (aeg M F (hr.mono hk) hg hm bd .nil Bu ha.out yW he xK) λσ H Q hG=>je hG λW m R hW vO h q=>⟨W,m,_,hW,vO,h,λwI m1 b xs h1 l1 c r1=>by
   obtain⟨ds,rr,hl,h2⟩:=qt r1 h1;intro y l d T ne;have fy:=c.ok.Fn d;have i:∀{a u},b.H a=KE u->upd (upd b.H l (.own y)) y (.ins C l []) a=KE u:=λ{a u} e=>(by rw[bc (b7 e d),bc (b7 e T)];show e);have JW:Wok X.B ⟨b.F,upd (upd b.H l (.own y)) y (.ins C l []),λk=>if k=0 then KE y else MN⟩ [KE (.obj C [] [])]:=⟨λa u e=>i (c.ok.sub a u e),λk e hk=>(by
     cases k with
     |zero=>cases hk;show{y,rfl,fy,l,[],bh,rfl,.nil}
     |succ k=>simp at hk),λk a e=>(by
     cases k with
     |zero=>show{_,rfl}
     |succ k=>
       have D:(if k+1=0 then KE y else MN)=KE a:=e
       rw[MV (rO k)]at D;cases D),λk k' a e D=>by
     have n:∀{j},(if j=0 then KE y else MN)=KE a->j=0:=λ{j} z=>by
       cases j with
       |zero=>rfl
       |succ j=>rw[MV ()]at z;cases z
     rw[n e,n D]⟩
   show{by rw[cE,aW,rr.length];show hl,{b.F,upd (upd b.H l (.own y)) y (.ins C l []),λk=>if k=0 then KE y else MN},xs,ds,.obj C [] [],y,_,rfl,by rw[cE];rfl,rfl,JW,rr,h2,λev d' r v E l3 c3 zF r3=>?_}
   have vn:v=.non:=by
     obtain⟨E,_⟩:=E;unfold adf at E
     split at E
     · show(Rp.vI r3).1
     · show E.elim
   obtain⟨y',q1,q2,q3⟩:=zF.cell 0 d' rfl;rw[c3 0]at q1;cases(show KE y=KE y' from q1);have U:∀{a},a≠y->∀k,(if k=0 then KE y else MN)≠KE a:=λn k z=>by
     split at z
     · cases z;show n rfl
     · cases z
   have lx:Lx b ⟨r.F,r.H,b.C⟩:=by
     show{{l3.same,λa u e n=>l3.fr a u (i e) (U (b7 e d)),λa e n=>?_,λk a e=>.inl e,λa z=>?_},λk a e=>e}
     · rcases l3.nw a e n with z | ⟨k,z⟩ | ⟨o,z,Y⟩
       · show .inl ?_;cases G:b.H a with
         |none=>rfl
         |some u=>cases(show KE u=MN from(i G).symm.trans z)
       · have I:(if k=0 then KE y else MN)=KE a:=z
         split at I
         · cases I;show .inl d
         · cases I
       · cases G:b.H a with
         |none=>show .inl rfl
         |some u=>cases(show KE u=KE o from(i G).symm.trans z);show .inr (.inr {_,rfl,Y})
     · have I:=l3.dm a z;cases G:b.H a with
       |none=>rfl
       |some u=>cases(show KE u=MN from(i G).symm.trans I)
   have okc:Wok X.B ⟨r.F,r.H,b.C⟩ m1.cel:=by
     show{zF.sub,λk e hk=>?_,c.ok.live,c.ok.dist};obtain⟨a,N,p2,J⟩:=c.ok.cell k e hk;obtain⟨o,s⟩:=J.has;show{a,N,?_,J.mono l3.same λu z=>l3.fr a u (i z) (U (b7 z d))};cases qf:r.F a with
     |none=>rfl
     |some u=>
       rcases l3.nw a p2 (by rw[qf];show λz=>by cases z)with z | ⟨k,z⟩ | ⟨o',z,Y⟩
       · cases(show KE o=MN from(i s).symm.trans z)
       · show MY z (U (b7 s d) k)
       · cases(show KE o=KE o' from(i s).symm.trans z);show MY Y (J.nimm _ s)
   show{vn,q _ m1 #v[r.F,r.H,b.C] _ E.2 (l1.trans lx) (c.lift lx (λ_=>rfl) okc) {y,rfl,l1.dm y d,q2,λk z=>?_,q3}};obtain⟨D,CV⟩:=c.ok.live k y z;obtain⟨x',N,_,J⟩:=c.ok.cell k D CV;rw[show b.C k=KE y from z]at N;cases N;obtain⟨o,s⟩:=J.has;rw[d]at s;cases s⟩
end
end VL
namespace Bits
open PySem
def Nd (a b:Nat):(2 * a) &&& (2 * b+1)=2 * (a &&& b):=by
 apply jY;intro i;cases i with
 |zero=>simp
 |succ i=>
  rw[iS,gO,gO,gO,show 2 * a / 2=a by lia,show(2 * b+1) / 2=b by lia,show 2 * (a &&& b) / 2=a &&& b by lia,iS]
def Sv (a b:Nat):(2 * a+1) &&& (2 * b)=2 * (a &&& b):=by
 rw[Nat.and_comm,Nd,Nat.and_comm]
def agf (a b:Nat):(2 * a) &&& (2 * b)=2 * (a &&& b):=by
 apply jY;intro i;cases i with
 |zero=>simp
 |succ i=>
  rw[iS,gO,gO,gO,show 2 * a / 2=a by lia,show 2 * b / 2=b by lia,show 2 * (a &&& b) / 2=a &&& b by lia,iS]
def agg:∀m,0 < m->∃k,m - (m &&& (m - 1))=2 ^ k/\2 ^ k<=m/\m &&& 2 ^ k=2 ^ k:=by
 intro m
 induction m using Nat.strongRecOn with
 |ind m a=>
  intro c;rcases Nat.mod_two_eq_zero_or_one m with h | h;{obtain⟨q,rfl⟩:∃q,m=2 * q:={m / 2,()};obtain⟨k,d,f,b⟩:=a q () ();have e:2 * q - 1=2 * (q - 1)+1:=();show{k+1,?_,?_,?_};{rw[e,Nd,kD];lia};{rw[kD];lia};{rw[kD,mP (2 ^ k) 2,agf,b]}}
  ·obtain⟨q,rfl⟩:∃q,m=2 * q+1:={m / 2,()};show{0,?_,?_,?_};{have e:2 * q+1 - 1=2 * q:=();rw[e,Sv,Nat.and_self];lia};{rw[Nat.pow_zero];lia}
   ·rw[Nat.pow_zero];have:=Sv q 0;apply jY;intro i;cases i with
    |zero=>simp
    |succ i=>simp[gO]
def Mask (n:Nat)(m:Int):Prop:=0<=m/\m < 2 ^ n
def jz (h:Mask n m):∃k:Nat,m=(k:Int)/\k < 2 ^ n:=by
 obtain⟨h0,a⟩:=h;show{m.toNat,(),?_};have:((2:Int) ^ n)=((2 ^ n:Nat):Int):=∅;rw[this]at a;lia
def Fv {n k:Nat}(h:k < 2 ^ n):Mask n (k:Int):=by
 show{(),?_};have:((2:Int) ^ n)=((2 ^ n:Nat):Int):=∅;rw[this];lia
def X6 (n:Nat):Mask n 0:=Fv (k:=0) (pC n)
def abm {n k:Nat}(h:k < n):Mask n (2 ^ k):=by
 have e:((2:Int) ^ k)=((2 ^ k:Nat):Int):=∅;rw[e];show Fv (Nat.pow_lt_pow_right #v[] h)
def X7 (a b:Nat):dX (a:Int) (b:Int)=((a ||| b:Nat):Int):=by
 unfold dX dP sR;have c:decide (0<=-(a:Int) - 1)=MP:=(by simp;lia);have d:decide (0<=-(b:Int) - 1)=MP:=(by simp;lia);rw[c,d];dsimp only;have e:(-(-(a:Int) - 1) - 1).toNat=a:=();have f:(-(-(b:Int) - 1) - 1).toNat=b:=();rw[e,f];lia
def agh {n:Nat}{a b:Int}(c:Mask n a)(d:Mask n b):Mask n (dX a b):=by
 obtain⟨x,rfl,e⟩:=jz c;obtain⟨y,rfl,f⟩:=jz d;rw[X7];show Fv (Nat.or_lt_two_pow e f)
def Hk (a b:Nat):dP (a:Int) (b:Int)=((a &&& b:Nat):Int):=by
 rw[PyProof.Rows.bitAnd_pp () ()];rfl
def MaskP (n:Nat)(m:Int)(p:Nat->Prop):Prop:=Mask n m/\∀j,j < n->(m.toNat.testBit j=MO↔p j)
def MaskP.iff (h:MaskP n m p)(e:∀j,j < n->(p j↔q j)):MaskP n m q:=
 {h.1,λj a=>(h.2 j a).trans (e j a)}
def j3 (n:Nat):MaskP n 0 (λ_=>False):={X6 n,λj _=>by simp}
def agi (k:Nat):((2:Int) ^ k).toNat=2 ^ k:=by
 have e:((2:Int) ^ k)=((2 ^ k:Nat):Int):=∅;rw[e,bT]
def sr (h:k < n):MaskP n (2 ^ k) (λj=>j=k):=⟨abm h,λj _=>by
  rw[agi,Nat.testBit_two_pow];simp[eq_comm]⟩
def u6 (c:MaskP n a p)(d:MaskP n b q):MaskP n (dX a b) (λj=>p j\/q j):=by
 show{agh c.1 d.1,λj e=>?_};have f:=c.2 j e;have g:=d.2 j e;obtain⟨x,rfl,i⟩:=jz c.1;obtain⟨y,rfl,l⟩:=jz d.1;rw[X7,bT,Nat.testBit_or,mG];rw[bT]at f g;rw[f,g]
def MaskP.uniq (c:MaskP n a p)(d:MaskP n b p):a=b:=by
 have e:=c.2;have f:=d.2;obtain⟨x,rfl,i⟩:=jz c.1;obtain⟨y,rfl,l⟩:=jz d.1;rw[bT]at e f;congr 1;apply jY;intro j;by_cases g:j < n;{have:=(e j g).trans (f j g).symm;cases m:x.testBit j<;>cases o:y.testBit j<;>simp_all};{have q:2 ^ n<=2 ^ j:=lS #v[] ();rw[Nat.testBit_lt_two_pow (),Nat.testBit_lt_two_pow ()]}
def MaskP.zero_iff (c:MaskP n a p):a=0↔∀j,j < n->¬p j:=by
 constructor;{intro d j b h;subst d;have:=(c.2 j b).mpr h;simp at this};{intro h;show c.uniq ((j3 n).iff λj b=>{λz=>z.elim,λz=>h j b z})}
def agj (x k:Nat)(h:x &&& 2 ^ k=2 ^ k)(j:Nat):(x - 2 ^ k).testBit j=(x.testBit j && decide (j≠k)):=by
 have i:x.testBit k=MO:=by
  have:=NA (λz=>Nat.testBit z k) h;simp only[iS,mR,oB]at this;show this
 have l:=pC k;have m:x / 2 ^ k % 2=1:=by
  rw[Nat.testBit_eq_decide_div_mod_eq]at i;show of_decide_eq_true i
 have ex:=Nat.div_add_mod x (2 ^ k);have g:x % 2 ^ k < 2 ^ k:=kZ _ l;generalize x / 2 ^ k=a at m ex;generalize x % 2 ^ k=b at ex g;obtain⟨c,rfl⟩:∃c,a=2 * c+1:={a / 2,()};have n:x - 2 ^ k=2 ^ k * (2 * c)+b:=by
  rw[<-ex,Nat.mul_add,Nat.mul_one];lia
 rw[n,<-ex,Nat.testBit_two_pow_mul_add _ g,Nat.testBit_two_pow_mul_add _ g];by_cases f:j < k;{rw[MU f,MU f];have:decide (j≠k)=MO:=(by simp;lia);rw[this,oB]};{rw[MV f,MV f];by_cases e:j=k;{subst e;simp};{obtain⟨d,rfl⟩:∃d,j=k+(d+1):={j - k - 1,()};have o:k+(d+1) - k=d+1:=();rw[o,gO,gO,show 2 * c / 2=c by lia,show(2 * c+1) / 2=c by lia];have:decide (k+(d+1)≠k)=MO:=∅;rw[this,oB]}}
def X8 (h:MaskP n m p)(h0:m≠0):∃k:Nat,dP m (-m)=2 ^ k/\k < n/\p k/\MaskP n (kB m (2 ^ k)) (λj=>p j/\j≠k)/\kB m (2 ^ k) < m:=by
 have a:=h.2;obtain⟨x,rfl,d⟩:=jz h.1;have f:0 < x:=();obtain⟨k,g,i,b⟩:=agg x f;have hk:k < n:=(Nat.pow_lt_pow_iff_right #v[]).mp (Nat.lt_of_le_of_lt i d);have e:((2:Int) ^ k)=((2 ^ k:Nat):Int):=∅;rw[bT]at a;have l:x.testBit k=MO:=by
  have:=NA (λz=>Nat.testBit z k) b;simp only[iS,mR,oB]at this;show this
 have c:kB (x:Int) (2 ^ k)=((x - 2 ^ k:Nat):Int):=by
  rw[e,PyProof.Rows.bitXor_and,Hk,b];lia
 show{k,?_,hk,(a k hk).mp l,?_,?_};{rw[PyProof.Rows.bitAnd_pn () ()];have o:(sR (-(x:Int))).toNat=x - 1:=(by unfold sR;lia);rw[o,e,<-g];have:=Nat.and_le_left (n:=x) (m:=x - 1);simp only[bT];lia};{rw[c];show{Fv (),λj q=>?_};rw[bT,agj x k b j,cI,a j q,decide_eq_true_iff]};{rw[c];have:0 < 2 ^ k:=pC k;lia}
def X9 (h:Mask n m)(j:Nat):(dP (m / 2 ^ ((j:Int)).toNat) 1 != 0)=m.toNat.testBit j:=by
 obtain⟨x,rfl,a⟩:=jz h;rw[bT,bT];have e:((x:Int)) / 2 ^ j=((x / 2 ^ j:Nat):Int):=∅;rw[e,show(1:Int)=((1:Nat):Int)from rfl,Hk,Nat.and_one_is_mod,Nat.testBit_eq_decide_div_mod_eq];have:=Nat.mod_two_eq_zero_or_one (x / 2 ^ j);rcases this with z | z<;>rw[z]<;>simp
def RelP (n:Nat)(ns:LQ)(R:Nat->Nat->Prop):Prop:=ns.length=n/\∀i m,ns[i]?=KE m->MaskP n m (R i)
theorem RelP.iff (h:RelP n ns R)(e:∀i j,i < n->j < n->(R i j↔S i j)):RelP n ns S:=
 {h.1,λi m a=>(h.2 i m a).iff λj b=>e i j (by rw[<-h.1];show(bK.mp a).1) b}
def RelP.mask (h:RelP n ns R)(a:m∈ns):Mask n m:=by
 obtain⟨i,hi⟩:=oP.mp a;show(h.2 i m hi).1
def RelP.at (h:RelP n ns R)(hk:k < n):∃m,ns[k]?=KE m/\MaskP n m (R k):=by
 have a:k < ns.length:=(by rw[h.1];show hk);show{ns[k],aB a,h.2 k _ (aB a)}
inductive Star (n:Nat)(R:Nat->Nat->Prop):Nat->Nat->Prop
 |refl {i:Nat}:Star n R i i
 |step {i k j:Nat}:R i k->k < n->Star n R k j->Star n R i j
def Star.trans (a:Star n R i j)(b:Star n R j k):Star n R i k:=by
 induction a with
 |refl=>show b
 |step r h _ c=>show .step r h (c b)
inductive Thru (n:Nat)(R:Nat->Nat->Prop)(m:Nat):Nat->Nat->Prop
 |refl {i:Nat}:Thru n R m i i
 |one {i j:Nat}:R i j->Thru n R m i j
 |step {i k j:Nat}:k < n->k < m->Thru n R m i k->Thru n R m k j->Thru n R m i j
def Thru.zero:Thru n R 0 i j↔j=i\/R i j:=by
 constructor
 ·intro h;cases h with
  |refl=>show .inl rfl
  |one r=>show .inr r
  |step _ h _ _=>show MY h (jN _)
 ·rintro(rfl | h);{show .refl};{show .one h}
def Thru.mono (e:m<=a)(h:Thru n R m i j):Thru n R a i j:=by
 induction h with
 |refl=>show .refl
 |one r=>show .one r
 |step b f _ _ c d=>show .step b () c d
def Thru.succ (g:m < n):Thru n R (m+1) i j↔Thru n R m i j\/(Thru n R m i m/\Thru n R m m j):=by
 constructor
 ·intro h
  induction h with
  |refl=>show .inl .refl
  |one r=>show .inl (.one r)
  |@step i k j c l _ _ e f=>
   by_cases hk:k=m;{subst hk;show .inr {?_,?_};{rcases e with a | a;{show a};{show a.1}};{rcases f with a | a;{show a};{show a.2}}};{have d:k < m:=();rcases e with a | a<;>rcases f with b | b;{show .inl (.step c d a b)};{show .inr {.step c d a b.1,b.2}};{show .inr {a.1,.step c d a.2 b}};{show .inr #v[a.1,b.2]}}
 ·rintro(a | ⟨a,b⟩);{show a.mono ()};{show .step g () (a.mono ()) (b.mono ())}
def Thru.star (a:j < n):Thru n R n i j↔Star n R i j:=by
 constructor
 ·intro h
  induction h with
  |refl=>show .refl
  |one r=>show .step r a .refl
  |step b _ _ _ c d=>show(c b).trans (d a)
 ·intro h
  induction h with
  |refl=>show .refl
  |step r h _ e=>show .step h h (.one r) (e a)
def pick {a:Type}(m:Int)(xs:List a)(k:Nat):List a:=(bA k).filterMap λi=>if m.toNat.testBit i=MO then xs[i]? else MN
def Ya (m:Int)(xs:List a):pick m xs 0=[]:=rfl
def abn {a:Type}{m:Int}{xs:List a}{k:Nat}{x:a}(h:m.toNat.testBit k=MO)(e:xs[k]?=KE x):pick m xs (k+1)=pick m xs k++[x]:=by
 unfold pick;rw[iP,jM];simp[h,e]
def agk {a:Type}{m:Int}{xs:List a}{k:Nat}(h:m.toNat.testBit k=MP):pick m xs (k+1)=pick m xs k:=by
 unfold pick;rw[iP,jM];simp[h]
def Nf {b:Type}{m:Int}{xs:List b}{k:Nat}{x:b}:x∈pick m xs k↔∃i,i < k/\m.toNat.testBit i=MO/\xs[i]?=KE x:=by
 unfold pick;rw[List.mem_filterMap];constructor
 ·intro a;obtain⟨i,hi,e⟩:=a
  split at e;{show{i,bW.mp hi,by assumption,e}};{cases e}
 ·intro a;obtain⟨i,hi,h,e⟩:=a;show{i,bW.mpr hi,by rw[MU h];show e}
end Bits
namespace S1
def longer (a:LJ)(c:Nat):LJ:=a.flatMap λl=>(bA c).map λ(v:Nat)=>l++[(v:Int)]
def ig (a:LJ)(cs:L1):LJ:=cs.foldl longer a
def mul (cs:L1):Nat:=cs.foldl (· * ·) 1
def sy (a:LJ)(c:Nat):(longer a c).length=a.length * c:=by
 induction a with
 |nil=>simp[longer]
 |cons l r b=>
  have e:longer (l::r) c=((bA c).map λ(v:Nat)=>l++[(v:Int)])++longer r c:=(by simp[longer,gZ]);rw[e,aH,b,aC,bP,aW,uI,oY]
theorem C3:∀cs a,(ig a cs).length=cs.foldl (· * ·) a.length
 | [],_=>rfl
 |c::r,a=>by
  change(ig (longer a c) r).length=r.foldl (· * ·) (a.length * c);rw[C3 r,sy]
structure Good (cs:L1)(ls:LJ):Prop where
 wide:∀l∈ls,l.length=cs.length
 rng:∀l∈ls,∀(i:Nat)(v:Int),l[i]?=KE v->∃c,cs[i]?=KE c/\0<=v/\v < (c:Int)
 ord:ls.Pairwise λa b=>HT.lexLt a b=MO
theorem Ng:∀a x y,x < y->HT.lexLt (a++[x]) (a++[y])=MO
 | [],x,y,h=>by
  change HT.lexLt [x] [y]=MO;rw[HT.lexLt_cons,MV ()];show MX h
 |z::r,x,y,h=>by
  change HT.lexLt (z::(r++[x])) (z::(r++[y]))=MO;rw[HT.lexLt_cons,MU rfl];show Ng r x y h
theorem Sw:∀a b x y,a.length=b.length->HT.lexLt a b=MO->HT.lexLt (a++[x]) (b++[y])=MO
 | [],[],_,_,_,h=>by cases h
 | [],_::_,_,_,e,_=>by cases e
 |_::_,[],_,_,e,_=>by cases e
 |p::r,q::t,x,y,e,h=>by
  have d:r.length=t.length:=(⇑e);change HT.lexLt (p::(r++[x])) (q::(t++[y]))=MO;rw[HT.lexLt_cons]at h ⊢;by_cases c:p=q;{rw[MU c]at h ⊢;show Sw r t x y d h};{rw[MV c]at h ⊢;show h}
def uc {a:LJ}{c:Nat}{m:LQ}(h:m∈longer a c):∃l∈a,∃v:Nat,v < c/\m=l++[(v:Int)]:=by
 obtain⟨l,b,h⟩:=fF.mp h;obtain⟨v,d,e⟩:=bI.mp h;show{l,b,v,bW.mp d,e.symm}
theorem Good.longer (g:Good cs ls)(c:Nat):Good (cs++[c]) (longer ls c) where
 wide:=λm hm=>by
  obtain⟨l,hl,v,hv,rfl⟩:=uc hm;rw[aH,aH,g.wide l hl];rfl
 rng:=λm hm i v hi=>by
  obtain⟨l,hl,w,hw,rfl⟩:=uc hm;have wl:=g.wide l hl;rcases Nat.lt_trichotomy i l.length with q | q | q;{rw[cA q]at hi;obtain⟨c',hc,r⟩:=g.rng l hl i v hi;show{c',by rw[cA ()];show hc,r}};{subst q;have e:v=(w:Int):=(⇑hi.symm);show{c,by rw[wl];simp,(),()}};{rw[cU (by rw[aH,cG];lia)]at hi;cases hi}
 ord:=by
  have w:=g.wide;have o:=g.ord;clear g
  induction ls with
  |nil=>show qS
  |cons l r ih=>
   have e:S1.longer (l::r) c=((bA c).map λ(v:Nat)=>l++[(v:Int)])++S1.longer r c:=(by simp[S1.longer,gZ]);obtain⟨o1,o2⟩:=fQ.mp o;rw[e,List.pairwise_append];show{?_,ih (λm hm=>w m (aT _ hm)) o2,?_};{rw[List.pairwise_map];show qY (R:=λ(a b:Nat)=>a < b) (λ{a b} h=>Ng l (a:Int) (b:Int) ()) List.pairwise_lt_range};{intro a ha b hb;obtain⟨v,hv,rfl⟩:=bI.mp ha;obtain⟨m,hm,u,hu,rfl⟩:=uc hb;show Sw l m _ _ (by rw[w l aP,w m (aT _ hm)]) (o1 m hm)}
def Good.start:Good [] [[]] where
 wide:=λl hl=>by rw[aR.mp hl];rfl
 rng:=λl hl i v hi=>by rw[aR.mp hl]at hi;cases i<;>cases hi
 ord:=List.pairwise_singleton _ _
theorem Good.all:∀(r cs:L1) {ls:LJ},Good cs ls->Good (cs++r) (ig ls r)
 | [],cs,ls,g=>by rw[cE];show g
 |c::r,cs,ls,g=>by
  have q:=Good.all r (cs++[c]) (g.longer c);rw[eO]at q;show q
def letters (cs:L1):LJ:=ig [[]] cs
def lu (cs:L1):Good cs (letters cs):=Good.all cs [] Good.start
def ym (cs:L1):(letters cs).length=mul cs:=C3 cs [[]]
def Nh (cs:L1)(c:Nat):letters (cs++[c])=longer (letters cs) c:=by
 simp[letters,ig,qW]
theorem Ni:∀(cs:L1)(k:Nat),(∀c∈cs,c<=6)->cs.foldl (· * ·) k<=k * 6 ^ cs.length
 | [],k,_=>by simp
 |c::r,k,h=>by
  have q:=Ni r (k * c) λd hd=>h d (aT _ hd);have a:=h c aP;change r.foldl (· * ·) (k * c)<=k * 6 ^ (r.length+1);show aX q ?_;rw[kD,tT,mP (6 ^ r.length) 6];show Nat.mul_le_mul_left _ (gU _ a)
def akh (cs:L1)(h:∀c∈cs,c<=6):mul cs<=6 ^ cs.length:=by
 have q:=Ni cs 1 h
 rwa [Nat.one_mul]at q
end S1
namespace PB
open PySem L2 VL Bits
abbrev iL (ns:LQ):Tr:=.lst (ns.map λn=>Tr.v (.int n))
abbrev Rl:=Nat->Nat->Prop
def orR (_:Nat)(R S:Rl):Rl:=λi j=>R i j\/S i j
def k8 (n:Nat)(R S:Rl):Rl:=λi j=>∃k,k < n/\R i k/\S k j
def Yb (n:Nat)(R:Rl):Rl:=λi j=>j=i/\∀k,k < n->¬R i k
def Dw (n:Nat)(S:Rl)(R:Ev->Prop):Prop:=∀ns,RelP n ns S->R (.new (iL ns))
def OutV (n:Nat)(S:Rl)(R:Ev->Prop):Prop:=∀ns,RelP n ns S->R (.val (iL ns))
def bg (h:Nat.ble n 1000000=MO):n<=1000000:=Nat.le_of_ble_eq_true h
def bq {a:Type}{l:List a}{i:Nat}{x:a}(h:l[i]?=KE x):atI l (i:Int)=KE x:=by
 have b:=bz h;unfold atI ixN;rw[MU (Int.natCast_nonneg _),MU (by exact_mod_cast b)];simpa using h
def Yc:GS:=(ba (gOp qu (gLst (gA1 (gI 0))) (aa 0)))
def pb:GP:=λds R=>∃n:Nat,ds=[.v (.int n)]/\n<=300/\Dw n (λ_ _=>False) R
def Hl (n:Nat)(x:Tr):(bC n [x]).flatten=bC n x:=by
 induction n with
 |zero=>rfl
 |succ n a=>rw[fG,iY,a,fG];rfl
def Yd:Pm (Yc) 1 1 1 (pb):=by
 intro ds R b h;obtain⟨n,rfl,c,q⟩:=h;show{#v[],by change(-1000000:Int)<=(n:Int);lia,by change(n:Int)<=1000000;lia,by change 1 * ((n:Int)).toNat<=1000000;lia,?_};change R (.new (.lst (bC ((n:Int)).toNat [Tr.v (.int 0)]).flatten));rw[Hl,bT,<-List.map_replicate (f:=λn=>Tr.v (.int n)) (a:=0)];show q _ {by simp,λi m e=>by rw[dN]at e;split at e<;>cases e;show j3 n}
def Ux:GS:=(ba (cq 1 [] (giR (gA1 (aa 0))) (.one 0) dt (gOp (fq C8 λi j=>.int (i * 2 ^ j.toNat)) (gI 1) (aa 0))))
def mv:GP:=λds R=>∃n:Nat,ds=[.v (.int n)]/\n<=300/\Dw n (λi j=>j=i) R
def Nj {n:Nat}:ic 0 ((n:Int)).toNat=(bA n).map λi:Nat=>Tr.v (.int (i:Int)):=by rw[bT,jy]
def om {a:Type}(l:List a)(g:a->Int):(l.map λx=>Tr.v (.int (g x)))=(l.map g).map λn=>Tr.v (.int n):=by rw[cV];rfl
def Uy:Pm (Ux) 1 1 1 (mv):=by
 intro ds R b h;obtain⟨n,rfl,c,q⟩:=h;show{by change(-1000000:Int)<=(n:Int);lia,by change(n:Int)<=1000000;lia,?_};change dh _ _ _ _ _ _ _ (ic 0 ((n:Int)).toNat) _ _;rw[Nj];show cy (out:=λi:Nat=>Tr.v (.int (2 ^ i))) rfl _ _ (by simp;lia) (λi hi Y a=>?_) ?_;{have d:=bW.mp hi;show{{by change(0:Int)<=(i:Int);lia,by change(i:Int)<=1000000;lia,#v[]},?_};change Y (.v (.int (1 * 2 ^ ((i:Int)).toNat))) _;rw[pY,bT];show a};{change R (.new (.lst ([]++(bA n).map λi:Nat=>Tr.v (.int (2 ^ i)))));rw[bL,om];show q _ {by simp,λi m e=>?_};rw[aN]at e;by_cases hi:i < n;{rw[cP hi]at e;cases e;show sr hi};{rw[cU (⇑hi)]at e;cases e}}
def abo (ns c:LQ):prs (ns.map λn=>Tr.v (.int n)) (c.map λn=>Tr.v (.int n))=(ns.zip c).map λp=>Tr.tup [.v (.int p.1),.v (.int p.2)]:=by
 unfold prs
 induction ns generalizing c with
 |nil=>rfl
 |cons a ns d=>cases c with
  |nil=>rfl
  |cons b c=>rw[bE,bE,List.zipWith_cons_cons,d];rfl
def Pz:GS:=(ba (cq 2 [] (Ur (gaV (aa 0) (gA1 (aa 1)))) (.tup [0,1]) dt (gOp (dg λi j=>.int (dX i j)) (aa 0) (aa 1))))
def ni:GP:=λds R=>∃n ns a A B,ds=[iL ns,iL a]/\RelP n ns A/\RelP n a B/\n<=300/\Dw n (orR n A B) R
def P0:Pm (Pz) 2 1 2 (ni):=by
 intro ds R r h;obtain⟨n,ns,f,A,B,rfl,c,d,s,q⟩:=h;change dh _ _ _ _ _ _ _ (prs _ _) _ _;rw[abo];show cy (out:=λp:Int×Int=>Tr.v (.int (dX p.1 p.2))) rfl _ _ (by simp[c.1,d.1];lia) (λp u Y g=>g) ?_;change R (.new (.lst ([]++(ns.zip f).map λp=>Tr.v (.int (dX p.1 p.2)))));rw[bL,om];show q _ {by simp[c.1,d.1],λi m e=>?_};rw[aN]at e;obtain⟨⟨a,b⟩,j,rfl⟩:=dB.mp e;obtain⟨l,o⟩:=List.getElem?_zip_eq_some.mp j;show u6 (c.2 i a l) (d.2 i b o)
def Uz (ns:LQ):jh (ns.map λn=>Tr.v (.int n))=(bA ns.length).map λi:Nat=>Tr.tup [.v (.int (i:Int)),.v (.int (ns.getD i 0))]:=by
 show iZ λi=>?_;unfold jh;rw[pI,aN,aN];by_cases hi:i < ns.length;{rw[cP hi,aB hi];simp[bN,aB hi]};{rw[cU (),cU (⇑hi)];rfl}
def Fw:GS:=(ba (cq 2 [] (M4 (gA1 (aa 0))) (.tup [0,1]) dt (gIf (i7 (aa 1)) (gI 0) (gOp (fq C8 λi j=>.int (i * 2 ^ j.toNat)) (gI 1) (aa 0)))))
def qd:GP:=λds R=>∃n ns A,ds=[iL ns]/\RelP n ns A/\n<=300/\Dw n (Yb n A) R
def Fx:Pm (Fw) 1 1 1 (qd):=by
 intro ds R l h;obtain⟨n,ns,A,rfl,a,o,q⟩:=h;change dh _ _ _ _ _ _ _ (jh _) _ _;rw[Uz];show cy (out:=λi:Nat=>Tr.v (.int (if ns.getD i 0=0 then 2 ^ i else 0))) rfl _ _ (by simp[a.1];lia) (λi hi Y b=>?_) ?_
 ·have p:=bW.mp hi;have KM:=a.1;change if (ns.getD i 0 != 0)=MO then _ else _
  by_cases c:ns.getD i 0=0;{rw[MV (by rw[c];decide)];rw[MU c]at b;show{{by change(0:Int)<=(i:Int);lia,by change(i:Int)<=1000000;lia,#v[]},?_};change Y (.v (.int (1 * 2 ^ ((i:Int)).toNat))) _;rw[pY,bT];show b};{rw[MU (bne_iff_ne.mpr c)];rw[MV c]at b;show b}
 ·change R (.new (.lst ([]++(bA ns.length).map λi:Nat=>Tr.v (.int (if ns.getD i 0=0 then 2 ^ i else 0)))))
  rw[bL,om];show q _ {by simp[a.1],λi m e=>?_};rw[aN]at e;by_cases hi:i < ns.length
  ·rw[cP hi]at e;cases e;have d:i < n:=(by rw[<-a.1];show hi);have f:ns[i]?=KE (ns.getD i 0):=(by rw[bN,aB hi];rfl);have z:=(a.2 i _ f).zero_iff;change MaskP n (if ns.getD i 0=0 then 2 ^ i else 0) _
   split
   ·rename_i c
    show(sr d).iff λj g=>{λe=>{e,z.mp c},λe=>e.1}
   ·rename_i c
    show(j3 n).iff λj g=>{λe=>e.elim,λe=>c (z.mpr e.2)}
  ·rw[cU (⇑hi)]at e;cases e
def Nk:GS:=(ba (cq 2 [1] (M4 (gA1 (aa 0))) (.tup [0,1]) (i7 (gOp (dg λi j=>.int (dP i j)) (gOp (fq (λ_ j=>0<=j) λi j=>.int (i / 2 ^ j.toNat)) (aa 2) (aa 0)) (gI 1))) (aa 1)))
def u7:GP:=λds R=>∃n m ls,ds=[.lst (ls.map tI),.v (.int m)]/\Mask n m/\ls.length<=300/\R (.new (.lst ((pick m ls ls.length).map tI)))
def wm (l:List a)(f:a->Tr):jh (l.map f)=(l.zipIdx).map λp=>Tr.tup [.v (.int (p.2:Int)),f p.1]:=by
 show iZ λi=>?_;unfold jh;rw[pI,aN,aN,lT];cases l[i]?<;>simp
def Nl (m:Int)(xs:List f):pick m xs xs.length=((xs.zipIdx).filter λp=>m.toNat.testBit p.2).map (·.1):=by
 have:∀k,k<=xs.length->pick m xs k=(((xs.take k).zipIdx).filter λp=>m.toNat.testBit p.2).map (·.1):=by
  intro k
  induction k with
  |zero=>intro _;rw[Ya];simp
  |succ k d=>
   intro hk;have a:k < xs.length:=hk;have e:xs.take (k+1)=xs.take k++[xs[k]]:=(by rw[cX,aB a];rfl);rw[e,List.zipIdx_append,List.filter_append,bF,<-d ()];have b:(xs.take k).length=k:=(by rw[bR];lia);cases c:m.toNat.testBit k with
   |true=>rw[abn c (aB a)];simp[b,c]
   |false=>rw[agk c];simp[b,c]
 rw[this xs.length (aI _),dE]
def Nm:Pm (Nk) 2 1 2 (u7):=by
 intro ds R f h;obtain⟨n,m,ls,rfl,a,g,q⟩:=h;change dh _ _ _ _ _ _ _ (jh _) _ _;rw[wm];show ef (p:=λp:LQ×Nat=>m.toNat.testBit p.2) (out:=λp=>tI p.1) rfl _ _ (by simp;lia) (λp i Y Z b d=>?_) ?_
 ·show{by change(0:Int)<=(p.2:Int);lia,?_};change if (dP (m / 2 ^ ((p.2:Int)).toNat) 1 != 0)=MO then _ else _
  rw[X9 a];cases c:m.toNat.testBit p.2 with
  |true=>rw[MU rfl];show b c
  |false=>rw[MV aO];show d c
 ·change R (.new (.lst ([]++((ls.zipIdx).filter λp=>m.toNat.testBit p.2).map λp=>tI p.1)));rw[bL];have e:((ls.zipIdx).filter λp=>m.toNat.testBit p.2).map (λp=>tI p.1)=(pick m ls ls.length).map tI:=(by rw[Nl,cV];rfl);rw[e];show q
def Hm:GS:=(ak (az 2 (gI 0)) (ak (yj [3] (i7 (aa 0)) (ak (az 3 (gOp (dg λi j=>.int (dP i j)) (aa 0) (qb (aa 0)))) (ak (Jt 2 (gX (aa 1) (gOp (dg λi j=>.int (i - j)) (gMt "int" Uo (aa 3) gaN) (gI 1)))) (Fq 0 (aa 3))))) (ba (aa 2))))
def qw:GP:=λds R=>∃n m ns p B,ds=[.v (.int m),iL ns]/\MaskP n m p/\RelP n ns B/\∀z:Int,MaskP n z (λj=>∃k,k < n/\p k/\B k j)->R (.val (.v (.int z)))
def Hn:Pm (Hm) 4 1 2 (qw):=by
 intro ds R I h;obtain⟨n,m,ns,p,B,rfl,C,D,q⟩:=h;show⟨λk g=>∃a z l,k=a.toNat/\g={[KE (.v (.v (.int a))),KE (.v (iL ns)),KE (.v (.v (.int z))),MN],[MN]}/\MaskP n a l/\(∀j,l j->p j)/\MaskP n z (λj=>∃k,k < n/\p k/\¬l k/\B k j),⟨_,m,0,p,rfl,rfl,C,λ_ h=>h,(j3 n).iff λj _=>⟨λh=>h.elim,λo=>by obtain⟨k,_,d,e,_⟩:=o;show e d⟩⟩,?_⟩;intro k g r;obtain⟨a,z,l,rfl,rfl,u,w,hz⟩:=r;change if (a != 0)=MO then _ else _
 by_cases c:a=0;{rw[MV (by rw[c];decide)];show q z (hz.iff λj _=>⟨λo=>by obtain⟨k,h0,d,_,e⟩:=o;show#v[k,h0,d,e],λ⟨k,h0,d,e⟩=>{k,h0,d,λf=>?_,e}⟩);show u.zero_iff.mp c k h0 f};{rw[MU (bne_iff_ne.mpr c)];obtain⟨k,y,hk,E,s,lt⟩:=X8 u c;obtain⟨b,G,H⟩:=D.at hk;rw[<-y]at s lt;show{λg=>g={[KE (.v (.v (.int (kB a (dP a (-a)))))),KE (.v (iL ns)),KE (.v (.v (.int (dX z b)))),KE (.v (.v (.int (dP a (-a)))))],[MN]},?_,?_};{intro g r;subst r;show{_,?_,kB a (dP a (-a)),dX z b,_,rfl,rfl,s,λj h=>w j h.1,(u6 hz H).iff λj _=>{λh=>?_,λ⟨i,h0,d,e,f⟩=>?_}};{have d:=s.1.1;lia};{rcases h with⟨i,h0,d,e,f⟩ | h;{show{i,h0,d,λz=>e z.1,f}};{show{k,hk,w k E,λz=>z.2 rfl,h}}};{by_cases A:i=k;{subst A;show .inr f};{show .inl {i,h0,d,λz=>e #v[z,A],f}}}};{show⟨rfl,bf (x:=.v (.int b)) ?_ rfl⟩;change atI (ns.map _) (((kJ (dP a (-a)):Nat):Int) - 1)=_;rw[y,Z8,show(((k+1:Nat):Int) - 1)=(k:Int)by lia];show bq (by rw[aN,G];rfl)}}
def Dx:GS:=(ak (ft 2 0 ade) (ak (fg [3] (giL (aa 0)) (.one 3) (sIf (gT (gOp (inD MO) (aa 3) (aa 2))) (M9 2 (au 2 qw (gaV (aa 3) (gA1 (aa 1)))) (aa 3)) df)) (ba (cq 1 [2] (giL (aa 0)) (.one 0) dt (gOp ixD (aa 1) (aa 0))))))
def iz:GP:=λds R=>∃n ns a A B,ds=[iL ns,iL a]/\RelP n ns A/\RelP n a B/\n<=300/\Dw n (k8 n A B) R
theorem Ju {e d:Type}[DecidableEq e](f:d->e)(g:d->Tr)(i:∀a b,f a=f b->a=b)(k:d):∀(l:List d),k∈l->i5 (l.map f) (l.map g) (f k)=KE (g k)
 | [],h=>nomatch h
 |a::l,h=>by
  unfold i5;by_cases c:a=k;{subst c;simp[dM]};{have j:=Ju f g i k l ((aY.mp h).resolve_left λz=>c z.symm);unfold i5 at j;rw[bE,bE,kX,dM];simp only[MW (λz=>c (i _ _ z))];show j}
def abp {e d:Type}[DecidableEq e][DecidableEq d](f:d->e)(g:∀a b,f a=f b->a=b)(k:d)(l:List d):g9 (l.map f) (f k)=decide (k∈l):=by
 unfold g9
 induction l with
 |nil=>rfl
 |cons a l i=>
  rw[bE,jT,i];by_cases c:a=k;{simp[c]};{have:¬f a=f k:=λz=>c (g _ _ z);have:¬k=a:=λz=>c z.symm;simp[*]}
abbrev kT (ks:LQ)(f:Int->Int):Tr:=.dk (ks.map λk=>(Sum.inl k:Key)) (ks.map λk=>Tr.v (.int (f k)))
def Ho:∀a b:Int,(Sum.inl a:Key)=Sum.inl b->a=b:=λa b h=>by injection h
def aki (ks:LQ)(f:Int->Int)(k:Int)(h:k ∉ ks):Tr.dk (mq (ks.map λk=>(Sum.inl k:Key)) (Sum.inl k)) (mr (ks.map λk=>(Sum.inl k:Key)) (ks.map λk=>Tr.v (.int (f k))) (Sum.inl k) (.v (.int (f k))))=kT (ks++[k]) f:=by
 have c:¬(Sum.inl k:Key)∈ks.map λk=>(Sum.inl k:Key):=λz=>by
  obtain⟨a,b,e⟩:=bI.mp z;show h (Ho _ _ e ▸ b)
 unfold mq mr;rw[MV c,MV c];simp[kT]
open Classical in
def Nn (n:Nat)(p:Nat->Prop):∃z:Int,MaskP n z p:=by
 have:∀k,k<=n->∃z:Int,MaskP n z (λj=>j < k/\p j):=by
  intro k
  induction k with
  |zero=>intro _;show{0,(j3 n).iff λj _=>{λh=>h.elim,λh=>MY h.1 (jN _)}}
  |succ k a=>
   intro hk;obtain⟨z,hz⟩:=a ();by_cases c:p k;{show{_,(u6 hz (sr (n:=n) (k:=k) ())).iff λj _=>{λh=>?_,λh=>?_}};{rcases h with h | h;{show{(),h.2}};{subst h;show{(),c}}};{by_cases e:j=k;{show .inr e};{show .inl {(),h.2}}}};{show{z,hz.iff λj _=>{λh=>{(),h.2},λh=>{?_,h.2}}};by_cases e:j=k;{subst e;show MY h.2 c};{lia}}
 obtain⟨z,hz⟩:=this n (aI _);show{z,hz.iff λj b=>{λh=>h.2,λh=>#v[b,h]}}
def Mask.self {n:Nat}{m:Int}(h:Mask n m):MaskP n m (λj=>m.toNat.testBit j=MO):={h,λ_ _=>kA}
noncomputable def Ca (n:Nat)(B:Rl)(m:Int):Int:=Classical.choose (Nn n λj=>∃k,k < n/\m.toNat.testBit k=MO/\B k j)
def Np (n:Nat)(B:Rl)(m:Int):MaskP n (Ca n B m) (λj=>∃k,k < n/\m.toNat.testBit k=MO/\B k j):=Classical.choose_spec (Nn n λj=>∃k,k < n/\m.toNat.testBit k=MO/\B k j)
def Dy:Pm (Dx) 4 2 2 (iz):=by
 intro ds R C h;obtain⟨n,ns,r,A,B,rfl,g,D,L,q⟩:=h;show ko (I:=λi m=>∃ks:LQ,m={[KE (.v (iL ns)),KE (.v (iL r)),KE (.c 1),MN],[MN,KE (kT ks (Ca n B))]}/\(∀x∈ns.take i,x∈ks)/\ks.length<=i) {[],rfl,(λx f=>nomatch f),aI _} ?_ ?_
 ·intro i x m N f o s;obtain⟨ks,rfl,l,E⟩:=o;have hi:=bz f;have C:=g.1;have u:∀d:LQ,x∈d->(∀y∈ks,y∈d)->∀y∈ns.take (i+1),y∈d:=λd G hs y hy=>by
   rw[cX,f]at hy;rcases cT.mp hy with hy | hy;{show hs y (l y hy)};{cases aR.mp hy;show G}
  change if (!g9 (ks.map λk=>(Sum.inl k:Key)) (Sum.inl x))=MO then _ else _
  rw[abp (λk=>(Sum.inl k:Key)) Ho];by_cases c:x∈ks;{rw[MX c,MV #v[]];show s _ {ks,rfl,u ks c λ_ h=>h,()}};{rw[MW c,MU #v[]];have H:Mask n x:=g.mask (bG f);show{rfl,n,x,r,_,B,rfl,Mask.self H,D,λz hz=>?_};cases hz.uniq (Np n B x);show{by change(ks.map _).length < 1000000;rw[aC];lia,?_};change N _;show s _ {ks++[x],?_,u _ ∅ λy hy=>dR _ hy,by rw[aH,cG];lia};change({_,[MN,KE (Tr.dk _ _)]}:M)=_;rw[aki ks (Ca n B) x c];rfl}
 ·intro m o;obtain⟨ks,rfl,l,E⟩:=o;rw[dE]at l;show cy (out:=λx:Int=>Tr.v (.int (Ca n B x))) rfl _ _ (by simp[g.1];lia) (λx f Y J=>?_) ?_;{show bf (Ju (λk=>(Sum.inl k:Key)) (λk=>Tr.v (.int (Ca n B k))) Ho x ks (l x f)) J};{change R (.new (.lst ([]++ns.map λx=>Tr.v (.int (Ca n B x)))));rw[bL,om];show q _ {by simp[g.1],λi m e=>?_};rw[aN]at e;obtain⟨x,w,rfl⟩:=dB.mp e;show(Np n B x).iff λj O=>⟨λp=>by obtain⟨k,a,b,c⟩:=p;show{k,a,((g.2 i x w).2 k a).mp b,c},λp=>by obtain⟨k,a,b,c⟩:=p;show{k,a,((g.2 i x w).2 k a).mpr b,c}⟩}
def Cg:GS:=(ak (az 1 (au 2 ni (gaV (au 1 mv (gA1 (gCB gx (gaE (aa 0) gaN)))) (gA1 (aa 0))))) (ak (fg [2,3] (giR (gA1 (gCB gx (gaE (aa 1) gaN)))) (.one 2) (ak (az 3 (gX (aa 1) (aa 2))) (az 1 (cq 1 [2,3] (giL (aa 1)) (.one 0) dt (gIf (i7 (gOp (dg λi j=>.int (dP i j)) (gOp (fq (λ_ j=>0<=j) λi j=>.int (i / 2 ^ j.toNat)) (aa 0) (aa 1)) (gI 1))) (gOp (dg λi j=>.int (dX i j)) (aa 0) (aa 2)) (aa 0)))))) (ba (aa 1))))
def m9:GP:=λds R=>∃n ns A,ds=[iL ns]/\RelP n ns A/\n<=300/\OutV n (Star n A) R
def Ci:Pm (Cg) 4 1 1 (m9):=by
 intro ds R E h;obtain⟨n,ns,A,rfl,o,p,q⟩:=h;have y:(ns.map λn=>Tr.v (.int n)).length=n:=(by rw[aC];show o.1);show{rfl,n,by change[Tr.v (.int _)]=_;rw[y],p,λsm FB=>?_};show{rfl,n,sm,ns,_,A,rfl,FB,o,p,λos r=>?_};have s:(os.map λn=>Tr.v (.int n)).length=n:=(by rw[aC];show r.1);show{by change(-1000000:Int)<=((os.map _).length:Int);lia,by change((os.map _).length:Int)<=1000000;rw[s];lia,?_};change gy _ _ _ _ (ic 0 (((os.map _).length:Int)).toNat) _;rw[s,Nj];show ko (I:=λi m=>∃d:LQ,m={[KE (.v (iL ns)),KE (.v (iL d)),MN,MN],[MN]}/\RelP n d (Thru n A i)) {os,rfl,r.iff λi j _ _=>Thru.zero.symm} ?_ ?_
 ·intro i x m N a g z;obtain⟨d,rfl,b⟩:=g;have u:=a;rw[cP (⇑(bz a))]at u;cases u;have hi:i < n:=(⇑(bz a));obtain⟨t,C,mt⟩:=b.at hi;show bf (x:=.v (.int t)) (bq (by rw[aN,C];rfl)) ?_;show cy (out:=λx:Int=>Tr.v (.int (if x.toNat.testBit i=MO then dX x t else x))) rfl _ _ (by simp[b.1];lia) (λx a Y f=>?_) ?_
  ·show{by change(0:Int)<=(i:Int);lia,?_};change if (dP (x / 2 ^ ((i:Int)).toNat) 1 != 0)=MO then _ else _
   rw[X9 (b.mask a)];cases c:x.toNat.testBit i with
   |true=>rw[c,MU rfl]at f;rw[MU rfl];show f
   |false=>rw[c,MV aO]at f;rw[MV aO];show f
  ·show z _ {d.map λx:Int=>if x.toNat.testBit i=MO then dX x t else x,?_,?_}
   ·change({[_,KE (.v (.lst ([]++d.map λx:Int=>Tr.v (.int (if x.toNat.testBit i=MO then dX x t else x))))),MN,MN],_}:M)=_
    rw[bL,om]
   ·show{by rw[aC];show b.1,λk m e=>?_};rw[aN]at e;obtain⟨x,D,rfl⟩:=dB.mp e;have a:=b.2 k x D;have w:x.toNat.testBit i=MO↔Thru n A i k i:=a.2 i hi
    split
    ·rename_i c
     show(u6 a mt).iff λj l=>{λh=>(Thru.succ hi).mpr (h.elim .inl λh=>.inr {w.mp c,h}),λh=>((Thru.succ hi).mp h).elim .inl λh=>.inr h.2}
    ·rename_i c
     show a.iff λj l=>{λh=>(Thru.succ hi).mpr (.inl h),λh=>((Thru.succ hi).mp h).elim id λh=>MY (w.mpr h.1) c}
 ·intro m g;obtain⟨d,rfl,b⟩:=g;rw[bP]at b;show q d (b.iff λi j hi l=>Thru.star l)
structure LstT (P:Nat->Tr->Prop)(k:Nat)(l:DQ):Prop where
 len:l.length=k
 get:∀c d,l[c]?=KE d->P c d
section
variable {P Q:Nat->Tr->Prop}{k j:Nat}{l m:DQ}
def LstT.nil:LstT P 0 []:={rfl,λc d e=>by simp at e}
def LstT.at (h:LstT P k l){c:Nat}(b:c < k):∃d,l[c]?=KE d/\P c d:=by
 have a:c < l.length:=(by rw[h.len];show b);show{_,aB a,h.get c _ (aB a)}
def LstT.imp (h:LstT P k l)(f:∀c d,c < k->P c d->Q c d):LstT Q k l:={h.len,λc d e=>f c d (by rw[<-h.len];show bz e) (h.get c d e)}
def LstT.one {d:Tr}(h:P 0 d):LstT P 1 [d]:=⟨rfl,λc e a=>by
  cases c with
  |zero=>cases a;show h
  |succ c=>simp at a⟩
def LstT.append (h:LstT P k l)(h':LstT Q j m)(f:∀c d,c < j->Q c d->P (k+c) d):LstT P (k+j) (l++m):=⟨by rw[aH,h.len,h'.len],λc d e=>by
  by_cases a:c < l.length
  · rw[cA a]at e;show h.get c d e
  · rw[cN ()]at e;have b:=h'.get _ d e;have g:c - l.length < j:=(by rw[<-h'.len];show bz e);have z:=f _ d g b;rw[h.len]at z a
    rwa [show k+(c - k)=c by lia]at z⟩
def LstT.rep (n:Nat)(h:∀c,c < n->P c d):LstT P n (bC n d):=⟨cY,λc e a=>by
  rw[dN]at a
  split at a
  · cases a;show h c (by assumption)
  · cases a⟩
def LstT.tail (h:LstT P (k+1) l):LstT (λc=>P (c+1)) k (l.drop 1):=⟨by rw[dI,h.len];lia,λc d e=>by
  rw[qF]at e;show h.get _ d (by rw[oY];show e)⟩
def LstT.head (h:LstT P (k+1) l):LstT P 1 (l.take 1):=⟨by rw[bR,h.len];lia,λc d e=>by
  have a:=bz e;rw[bR]at a;rw[List.getElem?_take_of_lt ()]at e;show h.get c d e⟩
theorem LstT.map {a:Type}{xs:List a}{f:a->Tr}(b:xs.length=k)(h:∀c x,xs[c]?=KE x->P c (f x)):LstT P k (xs.map f):=⟨by rw[aC];show b,λc d e=>by
  rw[aN]at e;obtain⟨x,g,rfl⟩:=dB.mp e;show h c x g⟩
end
def LstT.snoc {P:Nat->Tr->Prop}{k:Nat}{l:DQ}{d:Tr}(h:LstT P k l)(hd:P k d):LstT P (k+1) (l++[d]):=h.append (LstT.one (P:=λc=>P (k+c)) hd) λ_ _ _ z=>z
theorem Dz {e:Type}{k:Nat}{fr:L1}{t:Tg}{f:GE}{loc:D1}{Q:DQ->M->Prop}{cel:DJ}{enc:e->Tr}{P:Nat->Tr->Prop}(g:i3 cel loc=MO):∀(xs:List e)(n:Nat) (a:DQ),LstT P n a->n+xs.length<=1000000->
  (∀i x,xs[i]?=KE x->∀Y:Tr->DJ->Prop,(∀d,P (n+i) d->Y d cel)->gTg t (enc x) {bC k MN++mj loc fr,cel} λj=>f j λm o=>fz o m λd p=>Y d p.cel)->(∀l,LstT P (n+xs.length) l->Q l #v[loc,cel])->dh k fr t dt f loc Q (xs.map enc) a cel
 | [],n,a,b,_,_,q=>q a b
 |x::xs,n,a,b,r,hs,q=>by
  rw[aW]at r;show{by rw[b.len];lia,?_};show hs 0 x rfl (λd c=>i3 c loc=MO/\dh k fr t dt f loc Q (xs.map enc) (a++[d]) c) λd hd=>{g,?_};show Dz g xs (n+1) (a++[d]) (b.snoc hd) () (λi y s Y u=>?_) (λl h=>q l (by rw[aW,show n+(xs.length+1)=n+1+xs.length by lia];show h));show hs (i+1) y (⇑s) Y (by rw[show n+(i+1)=n+1+i by lia];show u)
def abq {L:L1}{t:Tg}{g:GS}{E:t8}{xs:DQ}{m:M}(I:Nat->M->Prop)(h0:I 0 m)(hs:∀i x (m:M) (N:M->Prop),xs[i]?=KE x->I i m->(∀b,I (i+1) b->N b)->gTg t x m λc=>g { E with nx:=λa=>N (fgt L a),ct:=λa=>N (fgt L a),bk:=E.nx } c)(h:∀m,I xs.length m->E.nx m):gy L t g E xs m:=by
 have z:=ko (enc:=id) (L:=L) (t:=t) (g:=g) (E:=E) (xs:=xs) I h0 hs h
 rwa [pZ]at z
def wo {k:Nat}{fr:L1}{t:Tg}{f:GE}{loc:D1}{Q:DQ->M->Prop}{cel:DJ}{P:Nat->Tr->Prop}{xs:DQ}(b:i3 cel loc=MO)(n:xs.length<=1000000)
  (hs:∀i x,xs[i]?=KE x->∀Y:Tr->DJ->Prop,(∀d,P i d->Y d cel)->gTg t x {bC k MN++mj loc fr,cel} λc=>f c λg j=>fz j g λd m=>Y d m.cel) (q:∀l,LstT P xs.length l->Q l #v[loc,cel]):dh k fr t dt f loc Q xs [] cel:=by
 have z:=Dz (enc:=id) (k:=k) (fr:=fr) (t:=t) (f:=f) (loc:=loc) (Q:=Q) (cel:=cel) (P:=P) b xs 0 [] LstT.nil () (λi x e Y a=>hs i x e Y (by rw[eP]at a;show a)) (λl h=>q l (by rw[eP]at h;show h))
 rwa [pZ]at z
def RelT (n:Nat)(R:Rl)(d:Tr):Prop:=∃ns,d=iL ns/\RelP n ns R
def A8 (n k:Nat)(W:Nat->Rl)(d:Tr):Prop:=∃l,d=.lst l/\LstT (λc=>RelT n (W c)) k l
def qe (n k:Nat)(W:Nat->Nat->Rl)(d:Tr):Prop:=∃l,d=.lst l/\LstT (λr=>A8 n k (W r)) k l
def RelT.eq {n:Nat}{R S:Rl}{d:Tr}(h:RelT n R d)(e:R=S):RelT n S d:=e ▸ h
def tf {a:Type}(l:List a):bu l (KE 1) MN=l.drop 1:=by
 unfold bu HT.sIx;simp;rw[fY (by rw[dI];lia)];by_cases h:1<=l.length;{rw[sF h,List.drop_one]};{have:l=[]:=jB.mp ();subst this;rfl}
def adh {b:Type}(l:List b):bu l MN (KE 1)=l.take 1:=by
 cases l with
 |nil=>rfl
 |cons a l=>unfold bu HT.sIx;simp
def Ye:GS:=(ba (gOp qu (gLst (gA1 (au 1 pb (gA1 (gCB gx (gaE (gX (gX (aa 0) (gI 0)) (gI 0)) gaN)))))) (gOp (dg λi j=>.int (i - j)) (gCB gx (gaE (aa 0) gaN)) (gI 1))))
def wq:GP:=λds R=>∃n k W x,ds=[x]/\qe n (k+1) W x/\k<=300/\n<=300/\∀l,LstT (λ_=>RelT n λ_ _=>False) k l->R (.new (.lst l))
def Yf:Pm (Ye) 1 1 1 (wq):=by
 intro ds R g h;obtain⟨n,k,W,x,rfl,⟨l,rfl,hw⟩,hk,b,q⟩:=h;obtain⟨j,e0,m,rfl,h0⟩:=hw.at (c:=0) ();obtain⟨o,d,ns,rfl,f⟩:=h0.at (c:=0) ();show bf (bq (i:=0) e0) (bf (bq (i:=0) d) {rfl,n,?_,b,λa hz=>?_});{change[Tr.v (.int ((ns.map _).length:Int))]=_;rw[aC,f.1]};{have e:((l.length:Int) - 1)=(k:Int):=(by rw[hw.len];lia);show{bg rfl,?_};change -1000000<=((l.length:Int) - 1)/\((l.length:Int) - 1)<=1000000/\1 * ((l.length:Int) - 1).toNat<=1000000/\R (.new (.lst (bC ((l.length:Int) - 1).toNat [iL a]).flatten));rw[e,Hl,bT];show{(),(),(),q _ (.rep k λc _=>#v[a,rfl,hz])}}
def nu (r c:Nat):Rl:=if r=c then λ_ _=>False else λi j=>j=i
def P1:GS:=(ba (gLst (gaV (gLst (gaV (au 1 pb (gA1 (aa 0))) (gA1 (au 1 mv (gA1 (aa 0)))))) (gA1 (gLst (gaV (au 1 mv (gA1 (aa 0))) (gA1 (au 1 pb (gA1 (aa 0))))))))))
def xl:GP:=λds R=>∃n:Nat,ds=[.v (.int n)]/\n<=300/\∀d,qe n 2 nu d->R (.new d)
def P2:Pm (P1) 1 1 1 (xl):=by
 intro ds R o h;obtain⟨n,rfl,f,q⟩:=h;show{rfl,n,rfl,f,λa g=>{rfl,n,rfl,f,λb l=>{bg rfl,rfl,n,rfl,f,λc m=>{rfl,n,rfl,f,λd hd=>{bg rfl,bg rfl,q _ {_,rfl,rfl,λr x e=>?_}}}}}}
 match r,e with
 |0,e=>
  cases e;show{_,rfl,rfl,λc x e=>?_}
  match c,e with
  |0,e=>cases e;show{a,rfl,g.iff λi j _ _=>by simp[nu]}
  |1,e=>cases e;show{b,rfl,l.iff λi j _ _=>by simp[nu]}
  |c+2,e=>simp at e
 |1,e=>
  cases e;show{_,rfl,rfl,λc' x e=>?_}
  match c',e with
  |0,e=>cases e;show{c,rfl,m.iff λi j _ _=>by simp[nu]}
  |1,e=>cases e;show{d,rfl,hd.iff λi j _ _=>by simp[nu]}
  |c'+2,e=>simp at e
 |r+2,e=>simp at e
def ip (a:Nat)(W2:Nat->Nat->Rl)(r c:Nat):Rl:=if c=0 then W2 (r - a+1) 0 else if c < a then λ_ _=>False else W2 (r - a+1) (c - a+1)
def gn (n a:Nat)(b W2:Nat->Nat->Rl)(r c:Nat):Rl:=
 if r < a then if c=0/\r=0 then orR n (b 0 0) (W2 0 0)else if c < a then b r c else if r=0 then W2 0 (c - a+1)else λ_ _=>False
 else ip a W2 r c
def k9 (n a:Nat)(b W2:Nat->Nat->Rl)(r c:Nat):Rl:=
 if r < a then if c=0 then k8 n (b r 0) (W2 0 0)else if c < a then b r c else k8 n (b r 0) (W2 0 (c - a+1))
 else ip a W2 r c
def jo (n:Nat)(W:Nat->Nat->Rl)(r c:Nat):Rl:=
 if c=0 then if r=0 then Star n (W 0 0)else k8 n (W r 0) (Star n (W 0 0))
 else orR n (W r c) (k8 n (k8 n (W r 0) (Star n (W 0 0))) (W 0 c))
def BehT (n a b:Nat)(W2:Nat->Nat->Rl)(l:DQ):Prop:=LstT (λr=>A8 n (a+b+1) (ip (a+1) W2 (a+1+r))) b l
def abr:GS:=(ak (az 2 (au 1 wq (gA1 (aa 0)))) (ba (cq 1 [2] (giL (gSl (aa 1) (goS (gI 1)) goN)) (.one 0) dt (gOp cb (gOp cb (gSl (aa 0) goN (goS (gI 1))) (aa 1)) (gSl (aa 0) (goS (gI 1)) goN)))))
def zi:GP:=λds R=>∃n a b c W2 x y,ds=[x,y]/\qe n (a+1) c x/\qe n (b+1) W2 y/\a+b<=300/\n<=300/\∀l,BehT n a b W2 l->R (.new (.lst l))
def abt:Pm (abr) 3 1 2 (zi):=by
 intro ds R E h;obtain⟨n,a,f,o,W2,x,y,rfl,p,⟨l,rfl,s⟩,hk,u,q⟩:=h;show{rfl,n,a,o,x,rfl,p,(),u,λi j=>?_};have g:=s.tail;have w:=g.len;change dh _ _ _ _ _ _ _ (bu l (KE 1) MN) _ _;rw[tf,<-pZ (l.drop 1)];have rows:∀d∈l.drop 1,∃b,d=.lst b/\b.length=f+1:=λd hd=>by
  obtain⟨c,e⟩:=gR hd;obtain⟨b,A,C⟩:=g.get c d e;show#v[b,A,C.len]
 show cy (enc:=id) (out:=λd=>match d with | .lst b=>.lst ((b.take 1++i)++b.drop 1) | d=>d) rfl _ _ (by change 0+(l.drop 1).length<=1000000;lia) (λd hd Y D=>?_) ?_;{obtain⟨b,rfl,hz⟩:=rows d hd;have G:=j.len;change _/\_/\Y (.lst ((bu b MN (KE 1)++i)++bu b (KE 1) MN)) _;rw[tf,adh];show{by rw[bR];lia,by rw[aH,bR,dI];lia,D}};{change R (.new (.lst ([]++_)));rw[bL];show q _ (LstT.map (by rw[w]) λr d e=>?_);obtain⟨b,rfl,hz⟩:=g.get r d e;show{_,rfl,?_};rw[show a+f+1=(1+a)+f by lia];show LstT.append (LstT.append (P:=λc=>RelT n (ip (a+1) W2 (a+1+r) c)) (hz.head.imp λc d m z=>?_) j λc d m z=>?_) hz.tail λc d m z=>?_;{show z.eq ?_;have:c=0:=();subst this;unfold ip;rw[MU rfl,show a+1+r - (a+1)+1=r+1 by lia]};{show z.eq ?_;unfold ip;rw[MV (),MU ()]};{show z.eq ?_;unfold ip;rw[MV (),MV (),show a+1+r - (a+1)+1=r+1 by lia,show 1+a+c - (a+1)+1=c+1 by lia]}}
def J9:GS:=(ak (az 2 (gOp cb (gOp cb (gLst (gA1 (au 2 ni (gaV (gX (gX (aa 0) (gI 0)) (gI 0)) (gA1 (gX (gX (aa 1) (gI 0)) (gI 0))))))) (gSl (gX (aa 0) (gI 0)) (goS (gI 1)) goN)) (gSl (gX (aa 1) (gI 0)) (goS (gI 1)) goN))) (ak (az 3 (au 1 wq (gA1 (aa 1)))) (ba (gOp cb (gOp cb (gLst (gA1 (aa 2))) (cq 1 [3] (giL (gSl (aa 0) (goS (gI 1)) goN)) (.one 0) dt (gOp cb (aa 0) (aa 1)))) (au 2 zi (gaV (aa 0) (gA1 (aa 1))))))))
def P3:GS:=(ak (ft 2 0 (gLst gaN)) (ak (fg [3,4] (giL (aa 0)) (.one 3) (ak (az 4 (cq 1 [3] (giL (gX (aa 1) (gI 0))) (.one 0) dt (au 2 iz (gaV (gX (aa 1) (gI 0)) (gA1 (aa 0)))))) (ff (uv 2 (gOp cb (gOp cb (gSl (aa 4) goN (goS (gI 1))) (gSl (aa 3) (goS (gI 1)) goN)) (gSl (aa 4) (goS (gI 1)) goN)))))) (ba (gOp cb (aa 2) (au 2 zi (gaV (aa 0) (gA1 (aa 1))))))))
def adi (T:Nat->Nat->(Nat->Nat->Rl)->(Nat->Nat->Rl)->Nat->Nat->Rl):GP:=λds R=>∃n a b c W2 x y,ds=[x,y]/\qe n (a+1) c x/\qe n (b+1) W2 y/\a+b<=300/\n<=300/\∀d,qe n (a+b+1) (T n (a+1) c W2) d->R (.new d)
abbrev tj:GP:=adi gn
abbrev xm:GP:=adi k9
def Ka:Pm (J9) 4 1 2 (tj):=by
 intro ds R hl h;obtain⟨n,a,b,m,W2,x,y,rfl,C,o,hk,p,q⟩:=h;obtain⟨l1,rfl,D⟩:=id C;obtain⟨l2,rfl,T⟩:=id o;obtain⟨_,E,s,rfl,f⟩:=D.at (c:=0) ();obtain⟨_,U,n1,rfl,p1⟩:=f.at (c:=0) ();obtain⟨_,G,H,rfl,u⟩:=T.at (c:=0) ();obtain⟨_,f2,n2,rfl,p2⟩:=u.at (c:=0) ();have I:=D.tail;show bf (bq (i:=0) E) (bf (bq (i:=0) U) (bf (bq (i:=0) G) (bf (bq (i:=0) f2) {rfl,n,n1,n2,_,_,rfl,p1,p2,p,λos ho=>{bg rfl,bf (bq (i:=0) E) ?_}})));show{by change 1+(bu s (KE 1) MN).length<=_;rw[tf,dI,f.len];lia,bf (bq (i:=0) G) ?_};show{by change([iL os]++bu s (KE 1) MN).length+(bu H (KE 1) MN).length<=_;rw[tf,tf,aH,dI,dI,f.len,u.len];change 1+_+_<=_;lia,?_};show{rfl,n,b,W2,_,rfl,o,(),p,λfl J=>{bg rfl,?_}};have f1':=J.len;change dh _ _ _ _ _ _ _ (bu l1 (KE 1) MN) _ _;rw[tf l1,<-pZ (l1.drop 1)];have tl:=I.len;show Dz (P:=λr=>A8 n (a+b+1) (gn n (a+1) m W2 (r+1))) rfl _ 0 [] LstT.nil () (λr d e Y hY=>?_) (λL w=>?_);{obtain⟨A,rfl,hz⟩:=I.get r d e;show{by change A.length+fl.length<=_;rw[hz.len];lia,hY _ {_,rfl,?_}};rw[show a+b+1=(a+1)+b by lia];have N:r < a:=(by rw[<-tl];show bz e);show LstT.append (hz.imp λc d g z=>z.eq ?_) J λc d g z=>z.eq ?_;{unfold gn;rw[MU (),MV (),MU (),eP]};{unfold gn;rw[MU (),MV (),MV (),MV ()]}}
 ·rw[eP,tl]at w;have rl:=w.len;show{by change 1+L.length<=_;lia,rfl,n,a,b,m,W2,_,_,rfl,C,o,hk,p,λbs O=>?_};have bl:=O.len;show{by change([_]++L).length+bs.length<=_;rw[aH,cG];lia,q _ {_,rfl,?_}};rw[show a+b+1=(1+a)+b by lia];show LstT.append (LstT.append (P:=λr=>A8 n (1+a+b) (gn n (a+1) m W2 r)) (l:=[_]) (.one {_,rfl,?_}) w λr d N z=>?_) O λr d N z=>?_;{change LstT _ _ (([iL os]++bu s (KE 1) MN)++bu H (KE 1) MN);rw[tf,tf];show LstT.append (LstT.append (l:=[iL os]) (.one {os,rfl,ho.iff λi j _ _=>?_}) f.tail λc d g z=>z.eq ?_) u.tail λc d g z=>z.eq ?_;{unfold gn;rw[MU (),MU #v[rfl,rfl]]};{unfold gn;rw[MU (),MV (),MU (),show 1+c=c+1 by lia]};{unfold gn;rw[MU (),MV (),MV (),MU rfl,show 1+a+c - (a+1)+1=c+1 by lia]}}
  {rw[show 1+a+b=a+b+1 by lia,show 1+r=r+1 by lia];show z};{rw[show 1+a+b=a+b+1 by lia];obtain⟨A,rfl,hz⟩:=z;show{A,rfl,hz.imp λc d g z=>z.eq ?_};unfold gn;rw[MV (),show 1+a+r=a+1+r by lia]}
def P4:Pm (P3) 5 2 2 (xm):=by
 intro ds R hl h;obtain⟨n,a,b,l,W2,x,y,rfl,u,w,hk,A,q⟩:=h;obtain⟨l1,rfl,C⟩:=id u;obtain⟨l2,rfl,G⟩:=id w;obtain⟨_,H,J,rfl,D⟩:=G.at (c:=0) ();have E:=C.len;show{cH _,?_};show abq (xs:=l1) (I:=λi m=>∃g,m={[KE (.v (.lst l1)),KE (.v (.lst l2)),KE (.c 1),MN,MN],[MN,KE (.lst g)]}/\LstT (λr=>A8 n (a+b+1) (k9 n (a+1) l W2 r)) i g) {[],rfl,LstT.nil} ?_ ?_;{intro i d m N hd o L;obtain⟨g,rfl,j⟩:=o;have hi:i < a+1:=(by rw[<-E];show bz hd);obtain⟨p,rfl,hz⟩:=C.get i d hd;obtain⟨_,O,T,rfl,U⟩:=hz.at (c:=0) ();show bf (bq (i:=0) H) ?_;have gl:=D.len;show wo (xs:=J) (P:=λc=>RelT n (k8 n (l i 0) (W2 0 c))) rfl () (λc d e Y hY=>?_) (λbs f=>?_);{obtain⟨n2,rfl,p2⟩:=D.get c d e;show bf (bq (i:=0) O) {rfl,n,T,n2,_,_,rfl,U,p2,A,λos ho=>hY _ #v[os,rfl,ho]}};{rw[gl]at f;have bl:=f.len;have zl:=hz.len;have rl:=j.len;show{rfl,?_};change _/\_/\_/\N {_,[MN,KE (.lst (g++[.lst ((bu bs MN (KE 1)++bu p (KE 1) MN)++bu bs (KE 1) MN)]))]};rw[tf,tf,adh];show{by rw[bR,dI];lia,by rw[aH,bR,dI,dI];lia,(),L _ {_,rfl,j.snoc {_,rfl,?_}}};rw[show a+b+1=(1+a)+b by lia];show LstT.append (LstT.append (f.head.imp λc d s z=>z.eq ?_) hz.tail λc d s z=>z.eq ?_) f.tail λc d s z=>z.eq ?_;{have:c=0:=();subst this;unfold k9;rw[MU hi,MU rfl]};{unfold k9;rw[MU hi,MV (),MU (),show 1+c=c+1 by lia]};{unfold k9;rw[MU hi,MV (),MV (),show 1+a+c - (a+1)+1=c+1 by lia]}}};{intro m o;obtain⟨g,rfl,j⟩:=o;rw[E]at j;have rl:=j.len;show{rfl,n,a,b,l,W2,_,_,rfl,u,w,hk,A,λbs f=>?_};have bl:=f.len;show{by change g.length+bs.length<=_;lia,q _ {_,rfl,?_}};rw[show a+b+1=(a+1)+b by lia]at *;show LstT.append j f λr d hr z=>?_;obtain⟨p,rfl,hz⟩:=z;show{p,rfl,?_};rw[show a+b+1=(a+1)+b by lia]at hz;show hz.imp λc d s z=>z.eq ?_;unfold k9;rw[MV ()]}
abbrev pT (p:Str×Nat):Tr:=.tup [.v (.str p.1),.v (.int (p.2:Int))]
abbrev spT (ws:LK):Tr:=.tup (ws.map pT)
def Nq:GS:=(sIf (gOr (gT (gOp (dg λi j=>.bl (decide (i < j))) (aa 1) (gI 0))) (gT (gOp (dg λi j=>.bl (decide (j<=i))) (aa 1) (aa 0)))) Fs df)
def u9:GP:=λds R=>∃c v,ds=[.v (.int c),.v (.int v)]/\0<=v/\v < c/\R (.val (.v .non))
def Nr:Pm (Nq) 2 1 2 (u9):=by
 intro ds R a h;obtain⟨c,v,rfl,h0,b,q⟩:=h;change if decide (v < 0)=MO then _ else _
 rw[MW (),MV aO];change if decide ((c:Int)<=v)=MO then _ else _
 rw[MW (),MV aO];show q
def wt (f:Str):LK->Nat->Option (Nat×Nat)
 | [],_=>MN
 | (g,c)::ws,i=>if g=f then KE (i,c)else wt f ws (i+1)
abbrev look (ws:LK)(f:Str):Option (Nat×Nat):=wt f ws 0
theorem Cb:∀{ws i p c},wt f ws i=KE (p,c)->∃k,p=i+k/\ws[k]?=KE (f,c)/\∀j,j < k->∀x,ws[j]?=KE x->x.1≠f
 | [],_,_,_,h=>by cases h
 | (g,m)::ws,i,p,c,h=>by
  unfold wt at h
  split at h
  ·rename_i e
   cases h;show{0,rfl,by rw[e];rfl,λj a=>MY a (jN _)}
  ·rename_i e
   obtain⟨k,n,d,l⟩:=Cb h;show{k+1,(),d,λj a x b=>?_};cases j with
   |zero=>cases b;show e
   |succ j=>show l j () x b
def U0:GS:=(ak (fg [3,4] (giE (gA1 (aa 0))) (.tup [3,4]) (sIf (gT (gOp (eqG MP) (gX (aa 4) (gI 0)) (aa 1))) (ak (ff (au 2 u9 (gaV (gX (aa 4) (gI 1)) (gA1 (aa 2))))) (ba (aa 3))) df)) Fs)
def ud:GP:=λds R=>∃ws f v p c,ds=[spT ws,.v (.str f),.v (.int v)]/\look ws f=KE (p,c)/\0<=v/\v < c/\R (.val (.v (.int p)))
def U1:Pm (U0) 5 1 3 (ud):=by
 intro ds R s h;obtain⟨ws,f,v,p,c,rfl,a,h0,l,q⟩:_:=h;obtain⟨k,rfl,hk,n⟩:_:=Cb a;change gy _ _ _ _ (jh (ws.map pT)) _;rw[wm];show ko (I:=λi m=>m={[KE (.v (spT ws)),KE (.v (.v (.str f))),KE (.v (.v (.int v))),MN,MN],[MN]}/\i<=k) {rfl,cH _} ?_ ?_
 ·rintro i ⟨⟨g,u⟩,j⟩ m N d ⟨rfl,hi⟩ o;rw[lT]at d;obtain⟨y,b,r⟩:_:=dB.mp d;cases r;show{rfl,?_};change if decide (V.str g=V.str f)=MO then _ else _
  by_cases e:i=k;{subst e;rw[hk]at b;cases b;rw[MX rfl,MU rfl];show{rfl,c,v,rfl,h0,l,?_};show q};{have:=n i () _ b;rw[MW (λz=>this (by injection z)),MV aO];show o _ {rfl,()}}
 ·rintro m ⟨rfl,hi⟩;have:=bz hk;rw[iH]at hi;omega
def isR (ls:LJ)(p:Nat)(v:Int):Rl:=λi j=>j=i/\∃l,ls[i]?=KE l/\l[p]?=KE v
def Nt (ls:LJ)(p:Nat)(v:Int):Rl:=λi j=>∃l,ls[i]?=KE l/\ls[j]?=KE (l.set p v)
def Can (ls:LJ)(p:Nat)(v:Int):Prop:=ls.Nodup/\ls.length<=300/\∀l∈ls,l.length<=10/\p < l.length/\l.set p v∈ls
abbrev ltT (ls:LJ):Tr:=.lst (ls.map tI)
def Kb:GS:=(ba (cq 2 [1,2] (M4 (gA1 (aa 0))) (.tup [0,1]) dt (gIf (gT (gOp (eqG MP) (gX (aa 1) (aa 2)) (aa 3))) (gOp (fq C8 λi j=>.int (i * 2 ^ j.toNat)) (gI 1) (aa 0)) (gI 0))))
def Yg (T:LJ->Nat->Int->Rl):GP:=λds R=>∃(ls:LJ)(p:Nat) (v:Int),ds=[ltT ls,.v (.int p),.v (.int v)]/\Can ls p v/\Dw ls.length (T ls p v) R
abbrev tm:GP:=Yg isR
def Kc:Pm (Kb) 3 1 3 (tm):=by
 intro ds R u h;obtain⟨ls,p,v,rfl,⟨nd,w,f⟩,q⟩:=h;change dh _ _ _ _ _ _ _ (jh (ls.map tI)) _ _;rw[wm];show cy (out:=λx:LQ×Nat=>Tr.v (.int (if x.1[p]?=KE v then 2 ^ x.2 else 0))) rfl _ _ (by simp;lia) (λx g Y a=>?_) ?_
 ·obtain⟨l,i⟩:=x;obtain⟨y,A,n⟩:=List.mem_zipIdx g;have C:i < ls.length:=();have lm:l∈ls:=(by rw[n];show fS _);obtain⟨_,pl,_⟩:=f l lm;show bf (x:=.v (.int l[p])) (bq (by rw[aN,aB pl];rfl)) {rfl,?_};change if decide (V.int l[p]=V.int v)=MO then _ else _
  by_cases c:l[p]=v;{rw[MX (by rw[c]),MU rfl];rw[MU (by rw[aB pl,c])]at a;show{{by change(0:Int)<=(i:Int);lia,by change(i:Int)<=1000000;lia,#v[]},?_};change Y (.v (.int (1 * 2 ^ ((i:Int)).toNat))) _;rw[pY,bT];show a};{rw[MW (λz=>c (by injection z)),MV aO];rw[MV (by rw[aB pl];show λz=>c (cB z))]at a;show a}
 ·change R (.new (.lst ([]++_)));rw[bL,om];show q _ {by simp,λi m e=>?_};rw[aN,lT]at e;obtain⟨x,o,rfl⟩:=dB.mp e;obtain⟨l,b,rfl⟩:=dB.mp o;have hi:=bz b;change MaskP _ (if l[p]?=KE v then 2 ^ (0+i)else 0) _
  rw[eP]
  split
  ·rename_i c
   show(sr hi).iff λj _=>{λz=>#v[z,l,b,c],λz=>z.1}
  ·rename_i c
   show(j3 _).iff λj _=>⟨λz=>z.elim,λr=>by obtain⟨_,D,d,s⟩:=r;show c (by rw[b]at d;cases d;show s)⟩
def Nu (n d p:Nat):HT.sIx n d (KE (p:Int))=min p n:=by
 unfold HT.sIx;have:¬(p:Int) < 0:=();simp[this]
def Fy {a:Type}(l:List a)(p:Nat)(h:p<=l.length):bu l MN (KE (p:Int))=l.take p:=by
 unfold bu;rw[Nu,sF h];rfl
def D2 {a:Type}(l:List a)(p:Nat)(h:p<=l.length):bu l (KE (p:Int)) MN=l.drop p:=by
 unfold bu;rw[Nu,sF h];show fY (by rw[dI];show aI _)
def Nv {l:LQ}{p:Nat}{v:Int}(h:p < l.length):Tr.tup ((bu (l.map λn=>Tr.v (.int n)) MN (KE (p:Int))++[.v (.int v)])++bu (l.map λn=>Tr.v (.int n)) (KE ((p:Int)+1)) MN)=tI (l.set p v):=by
 rw[show((p:Int)+1)=((p+1:Nat):Int)by lia,Fy _ _ (by rw[aC];lia),D2 _ _ (by rw[aC];lia),List.set_eq_take_append_cons_drop,MU h];change _=Tr.tup ((l.take p++v::l.drop (p+1)).map λn=>Tr.v (.int n));rw[bF,bE,tU,tV,eO];rfl
def Hq:GS:=(ak (az 3 (cq 1 [1,2] (giL (aa 0)) (.one 0) dt (gOp cb (gOp cb (gSl (aa 0) goN (goS (aa 1))) (gTup (gA1 (aa 2)))) (gSl (aa 0) (goS (gOp cb (aa 1) (gI 1))) goN)))) (ba (cq 1 [0] (giL (aa 3)) (.one 0) dt (gOp (fq C8 λi j=>.int (i * 2 ^ j.toNat)) (gI 1) (gMt "list" A4 (aa 1) (gaE (aa 0) gaN))))))
abbrev qx:GP:=Yg Nt
def Hr:Pm (Hq) 4 1 3 (qx):=by
 intro ds R a h;obtain⟨ls,p,v,rfl,⟨nd,w,c⟩,q⟩:=h;show cy (out:=λl:LQ=>tI (l.set p v)) rfl _ _ (by simp;lia) (λl a Y d=>?_) ?_;{obtain⟨g,pl,_⟩:=c l a;show{bg rfl,?_};change(bu (l.map λn=>Tr.v (.int n)) MN (KE (p:Int))).length+1<=1000000/\(bu (l.map λn=>Tr.v (.int n)) MN (KE (p:Int))++[Tr.v (.int v)]).length+(bu (l.map λn=>Tr.v (.int n)) (KE ((p:Int)+1)) MN).length<=1000000/\Y (Tr.tup ((bu (l.map λn=>Tr.v (.int n)) MN (KE (p:Int))++[.v (.int v)])++bu (l.map λn=>Tr.v (.int n)) (KE ((p:Int)+1)) MN)) _;rw[Nv pl];show{?_,?_,d};{rw[Fy _ _ (by rw[aC];lia),bR,aC];lia};{rw[show((p:Int)+1)=((p+1:Nat):Int)by lia,Fy _ _ (by rw[aC];lia),D2 _ _ (by rw[aC];lia),aH,bR,dI,aC];change _+1+_<=_;lia}};{change dh _ _ _ _ _ _ _ ([]++ls.map λl:LQ=>tI (l.set p v)) _ _;rw[bL];show cy (out:=λl:LQ=>Tr.v (.int (2 ^ ls.idxOf (l.set p v)))) rfl _ _ (by simp;lia) (λl a Y d=>?_) ?_;{obtain⟨g,pl,ml⟩:=c l a;have b:ls.idxOf (l.set p v) < ls.length:=dH.mpr ml;show{rfl,ls,l.set p v,rfl,rfl,ml,{by change(0:Int)<=((ls.idxOf (l.set p v):Nat):Int);lia,by change((ls.idxOf (l.set p v):Nat):Int)<=1000000;lia,#v[]},?_};change Y (.v (.int (1 * 2 ^ (((ls.idxOf (l.set p v):Nat):Int)).toNat))) _;rw[pY,bT];show d};{change R (.new (.lst ([]++_)));rw[bL,om];show q _ {by simp,λi m e=>?_};rw[aN]at e;obtain⟨l,f,rfl⟩:=dB.mp e;obtain⟨g,pl,ml⟩:=c l (bG f);have b:ls.idxOf (l.set p v) < ls.length:=dH.mpr ml;show(sr b).iff λj r=>{λz=>{l,f,?_},λ⟨x,o,s⟩=>?_};{subst z;rw[aB b,iE]};{rw[f]at o;cases o;have u:ls[ls.idxOf (l.set p v)]?=KE (l.set p v):=(by rw[aB b,iE]);show(nP r nd).mp (s.trans u.symm)}}}
inductive Say where
 |nought | every | note
 |is (f:Str) (v:Int)
 |put (f:Str) (v:Int)
 |no (s:Say)
 |again (s:Say)
 |either (a b:Say)
 |both (a b:Say)
def Say.t:Say->Tr
 | .nought=>.tup [.v (.str "none")]
 | .every=>.tup [.v (.str "all")]
 | .note=>.tup [.v (.str "note")]
 | .is f v=>.tup [.v (.str "is"),.v (.str f),.v (.int v)]
 | .put f v=>.tup [.v (.str "put"),.v (.str f),.v (.int v)]
 | .no s=>.tup [.v (.str "not"),s.t]
 | .again s=>.tup [.v (.str "again"),s.t]
 | .either a b=>.tup [.v (.str "either"),a.t,b.t]
 | .both a b=>.tup [.v (.str "then"),a.t,b.t]
def Say.kids:Say->List Say
 | .no s=>[s] | .again s=>[s] | .either a b=>[a,b] | .both a b=>[a,b] | _=>[]
def Say.parts:Say->List Say
 | .no s=>.no s::s.parts
 | .again s=>.again s::s.parts
 | .either a b=>.either a b::(a.parts++b.parts)
 | .both a b=>.both a b::(a.parts++b.parts)
 |s=>[s]
def Say.size:Say->Nat
 | .no s=>s.size+1
 | .again s=>s.size+1
 | .either a b=>a.size+b.size+1
 | .both a b=>a.size+b.size+1
 |_=>1
theorem Say.parts_len:∀s:Say,s.parts.length=s.size
 | .no s=>by change s.parts.length+1=_;rw[s.parts_len];rfl
 | .again s=>by change s.parts.length+1=_;rw[s.parts_len];rfl
 | .either a b=>by change(a.parts++b.parts).length+1=_;rw[aH,a.parts_len,b.parts_len];rfl
 | .both a b=>by change(a.parts++b.parts).length+1=_;rw[aH,a.parts_len,b.parts_len];rfl
 | .nought | .every | .note | .is _ _ | .put _ _=>rfl
theorem Say.parts_eq:∀s:Say,s.parts=s::s.kids.flatMap Say.parts
 | .no s=>by simp[Say.parts,Say.kids]
 | .again s=>by simp[Say.parts,Say.kids]
 | .either a b=>by simp[Say.parts,Say.kids]
 | .both a b=>by simp[Say.parts,Say.kids]
 | .nought | .every | .note | .is _ _ | .put _ _=>by simp[Say.parts,Say.kids]
def Say.isT:Say->Bool
 | .nought=>MO | .every=>MO | .is _ _=>MO
 | .no s=>s.isT
 | .either a b=>a.isT && b.isT
 | .both a b=>a.isT && b.isT
 |_=>MP
def Say.nts:Say->Nat
 | .note=>1
 | .no s=>s.nts
 | .again s=>s.nts
 | .either a b=>a.nts+b.nts
 | .both a b=>a.nts+b.nts
 |_=>0
def Say.rm:Say->Nat
 | .note=>1
 | .again s=>s.rm
 | .either a b=>a.rm+b.rm
 | .both a b=>a.rm+b.rm
 |_=>0
abbrev wds (l:AQ):Tr:=.tup (l.map λx=>Tr.v (.str x))
abbrev qg:Tr:=wds ["not","either","then","again"]
abbrev tq:Tr:=wds ["is","put"]
noncomputable abbrev va:Tr:=wds YY
def Hs {y:Str}{l:AQ}:∀e∈l.map (λx=>Tr.v (.str x)),g8 39 e (.v (.str y))=MO:=λe a=>by
 obtain⟨z,_,rfl⟩:=bI.mp a;rfl
def qy {x:Str}{l:AQ}{c b:Bool}(a:c=MO↔Tr.v (.str x)∈l.map λx=>Tr.v (.str x))(h:decide (x∈l)=b):c=b:=by
 have e:(c=MO)↔x∈l:=a.trans ⟨λz=>by
   obtain⟨y,d,e⟩:=bI.mp z;cases e;show d,λz=>bI.mpr #v[x,z,rfl]⟩
 rw[<-h];cases c with
 |true=>rw[MX (e.mp rfl)]
 |false=>rw[MW (λz=>aO (e.mpr z))]
def ix0 {b:Type}{a:b}{l:List b}{Q:b->Prop}(h:Q a):m8 (atI (a::l) 0) Q:=bf (bq (i:=0) rfl) h
def ix1 {c:Type}{a b:c}{l:List c}{Q:c->Prop}(h:Q b):m8 (atI (a::b::l) 1) Q:=bf (bq (i:=1) rfl) h
def Yh:GS:=(ak (sIf (gT (gOp (inG MP) (gX (aa 0) (gI 0)) (gC qg))) (ba (gSl (aa 0) (goS (gI 1)) goN)) df) (ba (gTup gaN)))
def su:GP:=λds R=>∃s:Say,ds=[s.t]/\R (.val (.tup (s.kids.map Say.t)))
def Yi:Pm (Yh) 1 1 1 (su):=by
 intro ds R e h;obtain⟨s,rfl,q⟩:_:=h;cases s<;>dsimp only[Say.t]<;>show{Hs,λc d=>?_}
 case no s=>cases qy d (b:=MO) ⋯;show q
 case again s=>cases qy d (b:=MO) ⋯;show q
 case either a b=>cases qy d (b:=MO) ⋯;show q
 case both a b=>cases qy d (b:=MO) ⋯;show q
 all_goals cases qy d (b:=MP) ⋯;show{bg rfl,q}
def Say.tag:Say->Fin 9
 | .nought=>0 | .every=>1 | .note=>2 | .is _ _=>3 | .put _ _=>4 | .no _=>5 | .again _=>6 | .either _ _=>7 | .both _ _=>8
def gq:Fin 9->Str
 |0=>"none" | 1=>"all" | 2=>"note" | 3=>"is" | 4=>"put" | 5=>"not" | 6=>"again" | 7=>"either" | 8=>"then"
def Say.sort (s:Say):Str:=gq s.tag
def Say.rest:Say->DQ
 | .is f v=>[.v (.str f),.v (.int v)]
 | .put f v=>[.v (.str f),.v (.int v)]
 | .no s=>[s.t] | .again s=>[s.t] | .either a b=>[a.t,b.t] | .both a b=>[a.t,b.t]
 |_=>[]
def Say.t_eq (s:Say):s.t=.tup (.v (.str s.sort)::s.rest):=by cases s<;>rfl
def U2:GS:=(ak (ft 1 1 (gLst gaN)) (ak (ft 2 0 (gLst (gA1 (aa 0)))) (ak (yj [3] (i7 (aa 2)) (ak (az 3 (gMc "list" 2 A5 gaN)) (ak (ff (uv 1 (aa 3))) (ff (gMc "list" 2 o7 (gaE (gRev (au 1 su (gA1 (aa 3))) (qb (gI 1))) gaN)))))) (ba (aa 1)))))
def qh:GP:=λds R=>∃s:Say,ds=[s.t]/\s.size<=1000/\R (.new (.lst (s.parts.map Say.t)))
def jc (l:List Say):Nat:=(l.map Say.size).sum
def Say.size_pos (s:Say):1<=s.size:=by cases s<;>simp[Say.size]
def Say.size_kids (s:Say):s.size=jc s.kids+1:=by cases s<;>simp[Say.size,Say.kids,jc]<;>lia
def A9 (a b:List Say):jc (a++b)=jc a+jc b:=by simp[jc]
theorem wu:∀l:List Say,l.length<=jc l
 | []=>aI _
 |s::l=>by
  have:=wu l;have:=s.size_pos;simp[jc]at *;lia
def Jv (l:List Say):jc l.reverse=jc l:=by simp[jc,List.sum_reverse]
def U3:Pm (U2) 4 3 1 (qh):=by
 intro ds R g h;obtain⟨s,rfl,hs,q⟩:=h;show{cH _,bg rfl,?_};show{λk m=>∃P W:List Say,m={[KE (.v s.t),KE (.c 2),KE (.c 1),MN],[MN,KE (.lst (W.map Say.t)),KE (.lst (P.map Say.t))]}/\k=jc W/\P++W.reverse.flatMap Say.parts=s.parts,{_,[],[s],rfl,rfl,by simp},?_};intro k m b;obtain⟨P,W,rfl,rfl,e⟩:=b;have pl:=NA pU e;rw[aH,s.parts_len]at pl;have d:jc W=(W.reverse.flatMap Say.parts).length:=by
  rw[mE,<-Jv];unfold jc;congr 1;show kK λx _=>x.parts_len.symm
 have ml:=wu W;rcases jO W with rfl | ⟨a,x,rfl⟩;{change R _;simp at e;rw[e];show q}
 ·rw[jP]at *;have ex:x.t=x.t:=rfl;change if (!((a++[x]).map Say.t).isEmpty)=MO then _ else _
  have i:=x.size_kids;rw[A9]at d;have j:jc [x]=x.size:=(by simp[jc]);rw[MU ∅];show{λm=>m={[KE (.v s.t),KE (.c 2),KE (.c 1),KE (.v x.t)],[MN,KE (.lst ((a++x.kids.reverse).map Say.t)),KE (.lst ((P++[x]).map Say.t))]},?_,?_};{intro m b;subst b;show{jc (a++x.kids.reverse),?_,P++[x],a++x.kids.reverse,rfl,rfl,?_};{rw[A9,A9,Jv];lia};{rw[<-e,List.reverse_append,List.reverse_append,List.reverse_reverse,mF,mF,eO,List.reverse_singleton];congr 1;rw[gZ,List.flatMap_nil,cE,x.parts_eq];rfl}};{show{rfl,bf (x:=x.t) (by rw[bF];show lU) ?_};show{rfl,by change(P.map Say.t).length < 1000000;rw[aC];lia,rfl,rfl,x,rfl,rfl,?_};have f:((a++[x]).map Say.t).dropLast=a.map Say.t:=(by rw[bF];show lV);change _/\(_:M)=_;rw[f];show⟨by rw[aC,fH,aC];have:=wu x.kids;have:=wu a;lia,?_⟩;change({[KE (.v s.t),KE (.c 2),KE (.c 1),KE (.v x.t)],[MN,KE (.lst (a.map Say.t++(x.kids.map Say.t).reverse)),KE (.lst (P.map Say.t++[x.t]))]}:M)=_;rw[<-oG,<-bF];rw[bF (l₁:=P)];rfl}
def Say.own (ws:LK):Say->Prop
 | .is f v=>∃p c,look ws f=KE (p,c)/\0<=v/\v < (c:Int)
 | .put f v=>∃p c,look ws f=KE (p,c)/\0<=v/\v < (c:Int)
 | .no s=>s.isT=MO
 |_=>True
def Say.good (ws:LK)(s:Say):Prop:=∀x∈s.parts,x.own ws
def Say.inT:Say->Bool
 | .nought=>MO | .every=>MO | .is _ _=>MO | .no _=>MO | .either _ _=>MO | .both _ _=>MO
 |_=>MP
theorem Say.isT_all:∀s:Say,s.parts.all Say.inT=s.isT
 | .no s=>by simp[Say.parts,Say.inT,Say.isT,s.isT_all]
 | .again s=>by simp[Say.parts,Say.inT,Say.isT]
 | .either a b=>by simp[Say.parts,Say.inT,Say.isT,a.isT_all,b.isT_all]
 | .both a b=>by simp[Say.parts,Say.inT,Say.isT,a.isT_all,b.isT_all]
 | .nought | .every | .note | .is _ _ | .put _ _=>by simp[Say.parts,Say.inT,Say.isT]
def agl (l:List a)(g:a->Bool):(l.map λx=>Tr.v (.bl (g x)))=(l.map g).map λn=>Tr.v (.bl n):=by rw[cV];rfl
def Yj:GS:=(ba (gCB (Hb λbs=>bs.all id) (gaE (cq 1 [] (giL (au 1 qh (gA1 (aa 0)))) (.one 0) dt (gOp (inG MP) (gX (aa 0) (gI 0)) (gC va))) gaN)))
def Ba:GP:=λds R=>∃s:Say,ds=[s.t]/\s.size<=1000/\R (.val (.v (.bl s.isT)))
def Yk:Pm (Yj) 1 1 1 (Ba):=by
 intro ds R e h;obtain⟨s,rfl,hs,q⟩:=h;show{rfl,s,rfl,hs,?_};show cy (out:=λx:Say=>Tr.v (.bl x.inT)) rfl _ _ (by change 0+_<=_;rw[s.parts_len];lia) (λx f Y a=>?_) ?_;{rw[x.t_eq];show ix0 ?_;show{Hs,λc d=>?_};cases qy d (b:=x.inT) ((⋯:∀n:Fin 9,decide (gq n∈[dG "none",dG "all",dG "is",dG "not",dG "either",dG "then"])=decide (n∈[0,1,3,5,7,8])) x.tag |>.trans (by cases x<;>rfl));show a};{show{s.parts.map Say.inT,by rw[bL];show agl _ _,?_};change R (.val (.v (.bl ((s.parts.map Say.inT).all id))));rw[List.all_map,show(id∘Say.inT)=Say.inT from rfl,s.isT_all];show q}
def P5:GS:=(sIf (yy (i7 (au 1 Ba (gA1 (aa 0))))) Fs df)
def rq:GP:=λds R=>∃s:Say,ds=[s.t]/\s.size<=1000/\s.isT=MO/\R (.val (.v .non))
def P6:Pm (P5) 1 1 1 (rq):=by
 intro ds R b h;obtain⟨s,rfl,hs,a,q⟩:=h;show{rfl,s,rfl,hs,?_};change if (!s.isT)=MO then _ else _
 rw[a,MV #v[]];show q
def Say.isNo:Say->Bool
 | .no _=>MO
 |_=>MP
def Say.isF:Say->Bool
 | .is _ _=>MO
 | .put _ _=>MO
 |_=>MP
def P7:GS:=(ak (sIf (gT (gOp (inG MP) (gX (aa 1) (gI 0)) (gC tq))) (ff (au 3 ud (gaV (aa 0) (gaV (gX (aa 1) (gI 1)) (gA1 (gX (aa 1) (gI 2))))))) df) (sIf (gT (gOp (eqG MP) (gX (aa 1) (gI 0)) (gS "not"))) (ff (au 1 rq (gA1 (gX (aa 1) (gI 1))))) df))
def xn:GP:=λds R=>∃(ws:LK)(s:Say),ds=[spT ws,s.t]/\s.size<=1000/\s.own ws/\R (.val (.v .non))
def P8:Pm (P7) 2 1 2 (xn):=by
 intro ds R u h;obtain⟨ws,s,rfl,hs,e,q⟩:_:=h;have i:decide (V.str s.sort=V.str "not")=s.isNo:=((⋯:∀n:Fin 9,decide (V.str (gq n)=V.str "not")=decide (n=5)) s.tag).trans (by cases s<;>rfl);have a:(!s.isNo)=MO\/∃y,s=.no y:=(by cases s<;>simp[Say.isNo]);have g:sIf (gT (gOp (eqG MP) (gOp ixG (aa 1) (gC (.v (.int 0)))) (gC (.v (.str "not"))))) (ff (au 1 rq (gaV (gOp ixG (aa 1) (gC (.v (.int 1)))) gaN))) df { nx:=λm=>R (.val (.v .non)),rt:=Dv R } ⟨locs 2 (vsW [spT ws,.tup (.v (.str s.sort)::s.rest)]),bC 1 MN⟩:=by
  show ix0 ?_;show{rfl,?_};change if decide (V.str s.sort=V.str "not")=MO then _ else _
  rw[i];rcases a with a | ⟨y,rfl⟩;{rw[MV (⇑a)];show q};{rw[MU (show y.no.isNo=MO from rfl)];dsimp only[Say.rest];show{rfl,y,rfl,?_,e,q};simp[Say.size]at hs;omega}
 rw[s.t_eq];show ix0 ?_;show{Hs,λc j=>?_};have d:s.isF=MP\/(∃f v,s=.is f v)\/∃f v,s=.put f v:=(by cases s<;>simp[Say.isF]);cases qy j (b:=s.isF) ((⋯:∀n:Fin 9,decide (gq n∈[dG "is",dG "put"])=decide (n∈[3,4])) s.tag |>.trans (by cases s<;>rfl));rcases d with d | ⟨f,v,rfl⟩ | ⟨f,v,rfl⟩
 ·change if s.isF=MO then _ else _
  rw[d,MV aO];show g
 all_goals
  obtain⟨p,c,l,o,r⟩:_:=e;change if MO=MO then _ else _
  rw[MU rfl];dsimp only[Say.rest];show#v[rfl,ws,f,v,p,c,rfl,l,o,r,g]
theorem Say.parts_size:∀(s x:Say),x∈s.parts->x.size<=s.size
 | .no s,x,h=>by
  rcases aY.mp h with rfl | h;{show aI _};{have:=s.parts_size x h;simp only[Say.size];lia}
 | .again s,x,h=>by
  rcases aY.mp h with rfl | h;{show aI _};{have:=s.parts_size x h;simp only[Say.size];lia}
 | .either a b,x,h=>by
  rcases aY.mp h with rfl | h;{show aI _};{rcases cT.mp h with h | h;{have:=a.parts_size x h;simp only[Say.size];lia};{have:=b.parts_size x h;simp only[Say.size];lia}}
 | .both a b,x,h=>by
  rcases aY.mp h with rfl | h;{show aI _};{rcases cT.mp h with h | h;{have:=a.parts_size x h;simp only[Say.size];lia};{have:=b.parts_size x h;simp only[Say.size];lia}}
 | .nought,x,h | .every,x,h | .note,x,h | .is _ _,x,h | .put _ _,x,h=>by
  rcases aY.mp h with rfl | h;{show aI _};{cases h}
def Ke:GS:=(fg [2] (giL (au 1 qh (gA1 (aa 1)))) (.one 2) (ff (au 2 xn (gaV (aa 0) (gA1 (aa 2))))))
def tu:GP:=λds R=>∃(ws:LK)(s:Say),ds=[spT ws,s.t]/\s.size<=1000/\s.good ws/\R (.val (.v .non))
def Kf:Pm (Ke) 3 1 2 (tu):=by
 intro ds R f h;obtain⟨ws,s,rfl,hs,b,q⟩:=h;show{rfl,s,rfl,hs,?_};show ko (I:=λ_ m=>m={[KE (.v (spT ws)),KE (.v s.t),MN],[MN]}) rfl ?_ (λ_ _=>q);intro i x m N c d e;subst d;have a:=bG c;show⟨rfl,ws,x,rfl,by have:=s.parts_size x a;lia,b x a,e _ rfl⟩
end PB
namespace VL
open PySem L2 PySem.Deep
def U4 (i0 iv k:Nat)(fr:L1)(i:GI)(t:Tg)(f:GE):GS:=λE m=>i0 < m.loc.length/\i m λds a=>match ds with
 | []=>False
 |d0::b=>gTg t d0 {bC k MN++mj a.loc fr,a.cel} λe=>f e λg d=>match g with
  | .new (.lst (_::r))=>i3 d.cel a.loc=MO/\dh k fr t dt f a.loc (λj c=>match c.loc[iv]? with
    |some (KE (.v l))=>E.nx {c.loc.set i0 (KE (.v (.lst (.lst (l::r)::j)))),c.cel}
    |_=>False) b [] d.cel
  |_=>False
def Yl (l:Lx O W)(f:Rel b W m A)(h0:O.H a=MN)(s:W.F a=MN)(D:∀j,W.C j≠KE a)(E:CellOk b W.F W.H a d):∃e,Lx O e/\e.H=W.H/\e.C=W.C/\(∀c,c≠a->e.F c=W.F c)/\Same W.F e.F/\Rel b e m A/\Rp b e.F (.ref a) d:=by
 have g:Same W.F (e8 W.F W.H a):=wk s;show{{e8 W.F W.H a,W.H,W.C},{{λc o z=>g c o (l.same c o z),l.fr,λc z n=>?_,l.cl,l.dm},l.cx},rfl,rfl,λc q=>lp q,g,{{Ay f.ok.sub,λj d' G=>?_,f.ok.live,f.ok.dist},λi w hw=>?_,f.len},E.keep s};{by_cases q:c=a;{subst q;show .inl h0};{have u:e8 W.F W.H a c≠MN:=n;rw[lp q]at u;show l.nw c z u}};{obtain⟨x,p,r,I⟩:_:=f.ok.cell j d' G;show{x,p,?_,I.mono g λ_ z=>z};change e8 W.F W.H a x=MN;rw[lp (λz=>D j (by rw[<-z];show p))];show r}
 ·obtain⟨y,p,r⟩:_:=f.loc i w hw;show{y,p,?_};cases w with
  |v d'=>show Rp.mono g r
  |c j=>show r
def abu {b:Type}{a:b}{l:List b}:atI (a::l) 0=KE a:=by unfold atI ixN;rw[MU #v[],MU (by rw[aW];omega)];rfl
def Ym {b:B}{O:Wd}{i0 iv k:Nat}{fr:L1}{i:GI}{t:Tg}{f:GE}{A:St}{H:Hp}{Q:VK}{D0:Lr}(ht:Dt k t)
  (hQ:∀(D g:MQ)(u0 v:V) (us rest:DK) (H1:Hp),i0 < A.length->H1 D=KE (.lst (.ref g::rest))->H1 g=KE (.lst (u0::us))->g≠D->A[iv]?=KE (KE v)->D0.nx (A.set i0 (KE (.ref D))) (upd H1 g (.lst (v::us)))->Q (.ref D) H1)
  (h:lfS b O (U4 i0 iv k fr i t f) D0 A H):Lh k fr (lfI b i) (gOf b.K t) (lfT b dt) (lf b f) A H Q:=by
 obtain⟨W,m,E,hW,l,vO,⟨CU,h⟩,q,_⟩:_:=h;rw[vO.len]at CU;show{W,m,_,hW,vO,h,λds m1 s J h1 l1 vN sq D hD=>?_};rcases ds with _ | ⟨d0,ds⟩;{show h1.elim};have h0:W.H D=MN:=l1.dm D hD;obtain⟨lD,JS,aD,eD,_,fD,cD,_⟩:_:=o6 (d:=.lst []) (o:=.lst []) vN.ok hD {[],bh,.nil};cases eD
 let DO:Nat->DK->Hp->Prop:=λi ys w=>∃(W2:Wd)(G:DQ) (cel:DJ) (g:MQ) (u0:V) (us rest:DK) (r:DQ),1<=i/\W2.H=w/\Lx s W2/\Rel b W2 #v[m1.loc,cel] A/\ys=.ref g::rest/\W2.H D=KE (.lst ys)/\W2.F D=MN/\(∀j,W2.C j≠KE D)/\
  g≠D/\s.H g=MN/\W2.H g=KE (.lst (u0::us))/\W2.F g=MN/\(∀j,W2.C j≠KE g)/\Rps b W2.F us r/\Rps b W2.F rest G/\
  dh k fr t dt f m1.loc (λG L=>match L.loc[iv]? with
    |some (KE (.v T))=>E.nx {L.loc.set i0 (KE (.v (.lst (.lst (T::r)::G)))),L.cel}
    |_=>False) (ds.drop (i - 1)) G cel
 have JT:∀(i n:Nat)(ys:DK) (w:Hp),(i+n=(d0::ds).length/\((i=0/\ys=[]/\w=upd s.H D (.lst []))\/DO i ys w))->
   w D=KE (.lst ys)/\((J.stop i w/\Q (.ref D) w)\/(J.go i w/\ys.length < sizeLine/\∃N:DK->Hp->Prop,(∀AV H',N AV H'->∃m',m' < n/\(i+1+m'=(d0::ds).length/\((i+1=0/\AV=[]/\H'=upd s.H D (.lst []))\/DO (i+1) AV H')))/\∀x H3,J.yld i w x H3->T7 k fr (gOf b.K t) (lfT b dt) (lf b f) A D ys N x H3)):=by
  rintro i n ys w ⟨en,⟨rfl,rfl,rfl⟩ | ⟨W2,G,cel,g,u0,us,rest,r,i1,rfl,l2,u,rfl,d1,d2,d3,I,b1,b2,b3,b4,rr,rs,p⟩⟩
  ·show{bh,.inr ?_};have u:=vN.lift lD (λ_=>rfl) JS;obtain⟨st,go⟩:_:=sq s.F (upd s.H D (.lst [])) (λ_ _ z=>z) u.ok.sub 0;obtain⟨g1,g2⟩:_:=go _ rfl;show{g1,by change 0 < sizeLine;decide,DO 1,λAV H' z=>{n - 1,by rw[aW]at en;omega,by rw[aW]at en ⊢;omega,.inr z},λx H3 hy=>?_};obtain⟨W3,e3,l3,wY,r3⟩:_:=y8 (W2:={s.F,upd s.H D (.lst []),s.C}) u (g2 x H3 hy);subst e3;show A6 (wY.inner k fr) r3 h1 λm4 σ4 h4 A' FQ HF=>{Hi FQ ht HF,W3,m4,λc m'=>c=MO/\m'=m4,rfl,A',#v[rfl,rfl],λcc L W5 h5 l5 zY=>?_};obtain⟨rfl,rfl⟩:_:=h5;show{W5,L,_,rfl,zY,h4,λev m6 U y h6 l6 BS r6=>?_};have HI:Lx (⟨s.F,upd s.H D (.lst []),s.C⟩:Wd) U:=l3.trans (l5.trans l6);rcases ev with d | d | j;{show h6.elim}
   ·rcases d with _ | _ | (_ | ⟨z0,r⟩) | _ | _ | _ | _<;>try show h6.elim
    obtain⟨lv,h7⟩:_:=h6;obtain⟨g,rfl,p0,p1,p2,xs,p3,p4⟩:_:=r6;obtain⟨k1,k2,k3⟩:_:=qv HI (bh (H:=s.H) (a:=D) (o:=.lst [])) fD cD;have ro:=u.outer HI BS lv;have I:g≠D:=λe=>by
     have w5:=qv (l3.trans l5) (bh (H:=s.H) (a:=D) (o:=.lst [])) fD cD;rw[e,w5.1]at p0;cases p0
    obtain⟨l8,FE⟩:_:=B7 (o:=.lst ([]++[.ref g])) (lD.trans HI) BS.ok hD k2 k3;obtain⟨x0,xs,rfl,pr⟩:∃x0 BN,xs=x0::BN/\Rps b U.F BN r:=(by cases p4 with | cons ph pr=>show{_,_,rfl,pr});show{k1,{U.F,upd U.H D (.lst ([]++[.ref g])),U.C},[],m6.cel,g,x0,xs,[],r,aI _,rfl,l8,#v[FE,ro.loc,ro.len],rfl,bh,k2,k3,I,?_,?_,p1,p2,pr,.nil,h7};{show(lD.trans (l3.trans l5)).dm g p0};{change upd U.H D _ g=_;rw[bc I];show p3}
   ·show h6.elim
  ·show{d1,?_};obtain⟨st,go⟩:_:=sq W2.F W2.H l2.same u.ok.sub i;obtain⟨i',rfl⟩:∃i',i=i'+1:={i - 1,()};rw[qE]at p;by_cases ci:i' < ds.length;{have hd:(d0::ds)[i'+1]?=KE ds[i']:=(by rw[List.getElem?_cons_succ];show aB ci);rw[gF ci]at p;obtain⟨g1,g2⟩:_:=go _ hd;obtain⟨hz,p⟩:_:=p;show .inr {g1,by rw[aW,rs.length];show bU (Nat.succ_lt_succ hz) #v[],DO (i'+1+1),λAV H' z=>{n - 1,by rw[aW]at en;omega,by rw[aW]at en ⊢;omega,.inr z},λx H3 hy=>?_};obtain⟨W3,e3,l3,wY,r3⟩:_:=y8 (W2:=W2) u (g2 x H3 hy);subst e3;show A6 (wY.inner k fr) r3 p λm4 σ4 h4 A' FQ HF=>{Hi FQ ht HF,W3,m4,λc m'=>c=MO/\m'=m4,rfl,A',#v[rfl,rfl],λcc L W5 h5 l5 zY=>?_};have DM:Lx W2 W5:=l3.trans l5;obtain⟨rfl,rfl⟩:_:=h5;dsimp only[dt]at h4;rw[MU rfl]at h4;{show{W5,L,_,rfl,zY,h4,λev m6 U y h6 l6 BS r6=>?_};obtain⟨d',m7,W7,⟨lv,h7⟩,l7,e7,CK,r7⟩:_:=nr l6 BS r6 h6;have BU:Lx W2 W7:=DM.trans l7;obtain⟨k1,k2,k3⟩:_:=qv BU d1 d2 d3;obtain⟨c1,c2,c3⟩:_:=qv BU b2 b3 b4;have ro:=u.outer BU CK lv;obtain⟨l8,FE⟩:_:=B7 (o:=.lst ((.ref g::rest)++[y])) (l2.trans BU) CK.ok hD k2 k3;rw[<-e7];show{k1,{W7.F,upd W7.H D (.lst ((.ref g::rest)++[y])),W7.C},G++[d'],m7.cel,g,u0,us,rest++[y],r,(),rfl,l8,#v[FE,ro.loc,ro.len],rfl,bh,k2,k3,I,b1,?_,c2,c3,rr.mono BU.same,(rs.mono BU.same).append (.cons r7 .nil),h7};change upd W7.H D _ g=_;rw[bc I];show c1}}
   ·rw[nY ()]at p;show .inl {st (by rw[aW]at *;omega),?_};change (match m1.loc[iv]? with | some (KE (.v T))=>E.nx {m1.loc.set i0 (KE (.v (.lst (.lst (T::r)::G)))),cel} | _=>False)at p
    rcases e:m1.loc[iv]? with _ | _ | (T | j);{rw[e]at p;show p.elim};{rw[e]at p;show p.elim};{rw[e]at p;obtain⟨v,ev,rv⟩:_:=u.loc iv _ e;have rv:Rp b W2.F v T:=rv;show hQ D g u0 v us rest W2.H CU d1 b2 I ev ?_;obtain⟨l8,FE⟩:_:=B7 (o:=.lst (v::us)) l2 u.ok b1 b3 b4;have rel8:Rel b ⟨W2.F,upd W2.H g (.lst (v::us)),W2.C⟩ ⟨m1.loc,cel⟩ A:=#v[FE,u.loc,u.len];obtain⟨W9,l9,e9,c9,f9,s9,rel9,r9⟩:_:=Yl (d:=.lst (T::r)) l8 rel8 b1 b3 b4 {_,bh,.cons rv rr};have hD9:W9.H D=KE (.lst (.ref g::rest)):=(by rw[e9];change upd W2.H g _ D=_;rw[bc (Ne.symm I)];show d1);obtain⟨LP,EE,e10,c10,f10,HZ,Y,GU⟩:_:=Yl (a:=D) (d:=.lst (.lst (T::r)::G)) l9 rel9 hD (by rw[f9 D (Ne.symm I)];show d2) (λj=>by rw[c9];show d3 j) {_,hD9,.cons r9 (rs.mono s9)};have eH:upd W2.H g (.lst (v::us))=LP.H:=(by rw[e10,e9]);rw[eH];show q _ LP _ p (l.trans (l1.trans EE).toLe) (l1.trans EE).same (Y.set GU)};{rw[e]at p;show p.elim}
 show{_,{(d0::ds).length,(),.inl #v[rfl,rfl,rfl]},JT}
section
variable {X:Cx}
def abv {i0 iv:Nat}{d:Str}{l m:Pos}{n:MT}{rest:List MT}{g:GS}{j iter e:MS}{b:mW}{c:Pos}{ns ys:AQ}{fr:L1}{cl:List (Str×MQ)}{i:GI}{t:Tg}{f:GE}(o:X.N.Nodup)(p:X.N[i0]?=KE d)(q:X.e.scope.names.lookup d=KE .local)(S:pj X ns ys fr b cl)(r:X.calm=MO)
  (hi:VI X e iter i) (u:∀C s H a,VG (cxC X (ns++ys) b cl C s H a) e t) (w:∀C s H a,VE (cxC X (ns++ys) b cl C s H a) j f) (hk:Dt ns.length t) (y:i0≠iv) (A:PS X n (Zg (Ti iv) (gSub (tOp (rIxL X.K) (Ti i0) (tC (.int 0))) (tC (.int 0)) acr))) (E:VSs X rest g)
  (hs:autoParam (∀x,iW iter X.e x=pure x) XW._auto_1) (G:↥(kS (.ListComp j [{e,iter,[],0}] b c) (KE (.Name d l)) m.line X.e=pure MO)) :
  VSs X (.Assign [.Name d l] (.ListComp j [{e,iter,[],0}] b c) m::n::rest) (ak (U4 i0 iv ns.length fr i t f) g):=⟨λO=>
PSs.sub (C7 (Sl (g:=gOf X.K t) (tt:=lfT X.B dt) (te:=lf X.B f) o p q S r hi.out (λC s H a=>(u C s H a).out) (λC s H a=>cw) (λC s H a=>(w C s H a).out) hs G)
  (C7 A (E.out O))) λD σ H h=>Ym (iv:=iv) (i0:=i0) (D0:={ D with nx:=lfS X.B O g D }) hk (λI J u0 v us rs H1 L T U ne Y z=>by
    show{v,by rw[cS y];show Y,_,cZ L,I,_,_,_,rfl,rfl,SqL.of T,abu,J,_,0,0,rfl,rfl,U,by unfold ixN;rw[MU #v[],MU (by rw[aW];omega)];rfl,z}) (Mw h)⟩
end
end VL
namespace S1
def Ht:m∈longer a c↔∃l∈a,∃v:Nat,v < c/\m=l++[(v:Int)]:=by
 constructor;{show uc};{intro b;obtain⟨l,d,v,e,rfl⟩:=b;show fF.mpr {l,d,bI.mpr {v,bW.mpr e,rfl}}}
def U5 (cs:L1)(l:LQ):Prop:=l.length=cs.length/\∀(i:Nat)(v:Int),l[i]?=KE v->∃c,cs[i]?=KE c/\0<=v/\v < (c:Int)
def Jw {cs:L1}{c:Nat}{l:LQ}{v:Int}:U5 (cs++[c]) (l++[v])↔U5 cs l/\0<=v/\v < (c:Int):=by
 constructor;{intro f;obtain⟨a,b⟩:=f;have g:l.length=cs.length:=(⇑a);show{{g,λi u hi=>?_},?_};{have j:=(bK.mp hi).1;obtain⟨d,hd,r⟩:=b i u (by rw[cA j];show hi);rw[cA ()]at hd;show#v[d,hd,r]};{obtain⟨d,hd,r⟩:=b l.length v ∅;rw[g]at hd;have:c=d:=(⇑hd);subst this;show r}};{intro f;obtain⟨⟨a,b⟩,m⟩:=f;show{by simp[a],λi u hi=>?_};rcases Nat.lt_trichotomy i l.length with q | q | q;{rw[cA q]at hi;obtain⟨d,hd,r⟩:=b i u hi;show{d,by rw[cA ()];show hd,r}};{subst q;have e:v=u:=(⇑hi);subst e;show{c,by rw[a];simp,m}};{rw[cU (by rw[aH,cG];lia)]at hi;cases hi}}
def letters_mem (cs:L1)(l:LQ):l∈letters cs↔U5 cs l:=by
 suffices z:∀(ds:L1)(l:LQ),l∈letters ds.reverse↔U5 ds.reverse l by
  have:=z cs.reverse l
  rwa [List.reverse_reverse]at this
 intro ds
 induction ds with
 |nil=>
  intro l;change l∈[[]]↔_;rw[aR];constructor;{rintro rfl;show{rfl,λi v e=>by simp at e}};{rintro⟨h,_⟩;show jB.mp h}
 |cons c cs a=>
  intro l;rw[iX,Nh,Ht];constructor;{intro d;obtain⟨m,f,v,n,rfl⟩:=d;show Jw.mpr {(a m).mp f,(),()}};{intro h;have b:l≠[]:=λe=>(by rw[e]at h;have:=h.1;simp at this);obtain⟨m,v,rfl⟩:∃m v,l=m++[v]:={l.dropLast,l.getLast b,(List.dropLast_concat_getLast b).symm};obtain⟨g,j,o⟩:=Jw.mp h;show{m,(a m).mpr g,v.toNat,(),by rw[Int.toNat_of_nonneg j]}}
def akj (h:HT.lexLt a b=MO):a≠b:=by
 intro c;subst c
 induction a with
 |nil=>cases h
 |cons x r d=>rw[HT.lexLt_cons,MU rfl]at h;show d h
def j8 (cs:L1):(letters cs).Nodup:=(lu cs).ord.imp λh=>akj h
def P9 {cs:L1}{l:LQ}{i:Nat}{v:Int}{c:Nat}(a:l∈letters cs)(b:cs[i]?=KE c)(h0:0<=v)(d:v < (c:Int)):l.set i v∈letters cs:=by
 rw[letters_mem]at a ⊢;show{by rw[hI];show a.1,λj u e=>?_};rw[List.getElem?_set]at e
 split at e
 ·rename_i f
  subst f
  split at e;{cases e;show#v[c,b,h0,d]};{cases e}
 ·show a.2 j u e
def Fz (a:∀c∈cs,c<=6)(b:cs.length<=3):(letters cs).length<=216:=by
 rw[ym];show aX (akh cs a) (aX (lS #v[] b) #v[])
end S1
namespace PB
open PySem L2 VL Bits S1
structure SpOk (ws:LK):Prop where
 lo:1<=ws.length
 hi:ws.length<=3
 cnt:∀w∈ws,1<=w.2/\w.2<=6
abbrev LL (ws:LK):LJ:=letters (ws.map (·.2))
def Lo {ws:LK}(h:SpOk ws):(LL ws).length<=216:=Fz (λc a=>by
  obtain⟨x,b,rfl⟩:=bI.mp a;show(h.cnt x b).2) (by rw[aC];show h.hi)
def F0 {ws:LK}(h:SpOk ws){x:Str}{p c:Nat}{v:Int}(lk:look ws x=KE (p,c))(d:0<=v)(e:v < (c:Int)):Can (LL ws) p v:=by
 have g:=Lo h;obtain⟨k,e0,a,_⟩:=Cb lk;rw[eP]at e0;subst e0;have i:p < ws.length:=(bK.mp a).1;show{j8 _,(),λl b=>?_};have f:=(lu _).wide l b;rw[aC]at f;have:=h.hi;show{(),(),P9 b (by rw[aN,a,Option.map_some]) d e}
def Say.W (ws:LK):Say->Nat->Nat->Rl
 | .nought=>λ_ _ _ _=>False
 | .every=>λ_ _ i j=>j=i
 | .note=>nu
 | .is f v=>λ_ _=>match look ws f with | some (p,_)=>isR (LL ws) p v | none=>λ_ _=>False
 | .put f v=>λ_ _=>match look ws f with | some (p,_)=>Nt (LL ws) p v | none=>λ_ _=>False
 | .no s=>λ_ _=>Yb (LL ws).length (s.W ws 0 0)
 | .again s=>jo (LL ws).length (s.W ws)
 | .either a b=>gn (LL ws).length (a.rm+1) (a.W ws) (b.W ws)
 | .both a b=>k9 (LL ws).length (a.rm+1) (a.W ws) (b.W ws)
abbrev Hu (ws:LK)(s:Say)(d:Tr):Prop:=qe (LL ws).length (s.rm+1) (s.W ws) d
def Say.lone:Say->Bool
 | .nought=>MO | .every=>MO | .is _ _=>MO | .put _ _=>MO
 |_=>MP
def ifN {c:Bool}{P Q:Prop}(h:c=MP)(q:Q):if c=MO then P else Q:=by rw[MV (by rw[h];decide)];show q
def ifY {c:Bool}{P Q:Prop}(h:c=MO)(p:P):if c=MO then P else Q:=by rw[MU h];show p
def tE (k:Fin 9):decide (V.str (gq k)=V.str "either")=decide (k=7):=(⋯:∀k:Fin 9,decide (V.str (gq k)=V.str "either")=decide (k=7)) k
def tB (k:Fin 9):decide (V.str (gq k)=V.str "then")=decide (k=8):=(⋯:∀k:Fin 9,decide (V.str (gq k)=V.str "then")=decide (k=8)) k
def tA (k:Fin 9):decide (V.str (gq k)=V.str "again")=decide (k=6):=(⋯:∀k:Fin 9,decide (V.str (gq k)=V.str "again")=decide (k=6)) k
def tN (k:Fin 9):decide (V.str (gq k)=V.str "not")=decide (k=5):=(⋯:∀k:Fin 9,decide (V.str (gq k)=V.str "not")=decide (k=5)) k
def tO (k:Fin 9):decide (V.str (gq k)=V.str "note")=decide (k=2):=(⋯:∀k:Fin 9,decide (V.str (gq k)=V.str "note")=decide (k=2)) k
def tZ (k:Fin 9):decide (V.str (gq k)=V.str "none")=decide (k=0):=(⋯:∀k:Fin 9,decide (V.str (gq k)=V.str "none")=decide (k=0)) k
def tL (k:Fin 9):decide (V.str (gq k)=V.str "all")=decide (k=1):=(⋯:∀k:Fin 9,decide (V.str (gq k)=V.str "all")=decide (k=1)) k
def tI' (k:Fin 9):decide (V.str (gq k)=V.str "is")=decide (k=3):=(⋯:∀k:Fin 9,decide (V.str (gq k)=V.str "is")=decide (k=3)) k
def sfN {c:Bool}{P Q:Prop}(h:c=MP)(q:Q):if (if MP=MO then !c else c)=MO then P else Q:=by subst h;rw[MV #v[]];show q
def sfY {c:Bool}{P Q:Prop}(h:c=MO)(p:P):if (if MP=MO then !c else c)=MO then P else Q:=by subst h;rw[MU #v[]];show p
def D3:GS:=(ak (sIf (gT (gOp (eqG MP) (gX (aa 2) (gI 0)) (gS "none"))) (ba (au 1 pb (gA1 (gCB gx (gaE (aa 1) gaN))))) df) (ak (sIf (gT (gOp (eqG MP) (gX (aa 2) (gI 0)) (gS "all"))) (ba (au 1 mv (gA1 (gCB gx (gaE (aa 1) gaN))))) df) (ak (az 3 (au 3 ud (gaV (aa 0) (gaV (gX (aa 2) (gI 1)) (gA1 (gX (aa 2) (gI 2))))))) (ak (sIf (gT (gOp (eqG MP) (gX (aa 2) (gI 0)) (gS "is"))) (ba (au 3 tm (gaV (aa 1) (gaV (aa 3) (gA1 (gX (aa 2) (gI 2))))))) df) (ba (au 3 qx (gaV (aa 1) (gaV (aa 3) (gA1 (gX (aa 2) (gI 2)))))))))))
def oq:GP:=λds R=>∃(ws:LK)(s:Say),ds=[spT ws,ltT (LL ws),s.t]/\SpOk ws/\s.lone=MO/\s.own ws/\Dw (LL ws).length (s.W ws 0 0) R
def D4:Pm (D3) 4 1 3 (oq):=by
 intro ds R g h;obtain⟨ws,s,rfl,ok,lo,d,q⟩:=h;have le:=Lo ok;have e:((LL ws).map tI).length=(LL ws).length:=aC ..;rw[s.t_eq];cases s with
 |nought=>
  exists tZ,rfl;show{rfl,(LL ws).length,?_,(),q};rw[<-e]
 |every=>
  exists tZ;exists tL,rfl;show{rfl,(LL ws).length,?_,(),q};rw[<-e]
 |is f v=>
  obtain⟨p,c,l,a,b⟩:=d;dsimp only[Say.W]at q;rw[l]at q;exists tZ;exists tL;dsimp only[Say.rest];show{rfl,ws,f,v,p,c,rfl,l,a,b,?_};exists tI',rfl;dsimp only[Say.rest];show{rfl,LL ws,p,v,rfl,F0 ok l a b,q}
 |put f v=>
  obtain⟨p,c,l,a,b⟩:=d;dsimp only[Say.W]at q;rw[l]at q;exists tZ;exists tL;dsimp only[Say.rest];show{rfl,ws,f,v,p,c,rfl,l,a,b,?_};exists tI';dsimp only[Say.rest];show{rfl,LL ws,p,v,rfl,F0 ok l a b,q}
 |_=>cases lo
def Q7:GS:=(ak (az 3 (au 2 iz (gaV (gX (aa 0) (gI 0)) (gA1 (aa 1))))) (ak (az 4 (cq 2 [3] (Ur (gaV (gSl (aa 0) (goS (gI 1)) goN) (gA1 (gSl (aa 2) (goS (gI 1)) goN)))) (.tup [0,1]) dt (au 2 ni (gaV (aa 0) (gA1 (au 2 iz (gaV (aa 2) (gA1 (aa 1))))))))) (ba (gOp cb (gLst (gA1 (aa 3))) (aa 4)))))
def zj (n:Nat)(a:Nat->Rl)(A:Rl)(b:Nat->Rl)(c:Nat):Rl:=if c=0 then k8 n (a 0) A else orR n (a c) (k8 n (k8 n (a 0) A) (b c))
def xo:GP:=λds R=>∃(n k:Nat)(a b:Nat->Rl) (A:Rl) (x y z:Tr),ds=[x,y,z]/\A8 n (k+1) a x/\RelT n A y/\A8 n (k+1) b z/\k<=300/\n<=300/\∀l,LstT (λc=>RelT n (zj n a A b c)) (k+1) l->R (.new (.lst l))
def Q8:Pm (Q7) 5 1 3 (xo):=by
 intro ds R hl h;obtain⟨n,k,u,w,A,_,_,_,rfl,⟨r,rfl,f⟩,⟨x,rfl,y⟩,⟨m,rfl,h0⟩,hk,g,q⟩:=h;obtain⟨_,C,D,rfl,E⟩:=f.at (c:=0) ();have rl:=f.len;have G:=h0.len;have o:=f.tail;have p:=h0.tail;show bf (bq (i:=0) C) {rfl,n,D,x,_,_,rfl,E,y,g,λne s=>?_};change dh _ _ _ _ _ _ _ (prs (bu r (KE 1) MN) (bu m (KE 1) MN)) _ _;rw[tf,tf];have pl:(prs (r.drop 1) (m.drop 1)).length=k:=(by rw[Hg,o.len,p.len,rN]);show wo (P:=λc=>RelT n (zj n u A w (c+1))) rfl () (λc d e Y H=>?_) (λbs j=>?_);{obtain⟨a,b,I,J,rfl⟩:=M1 e;obtain⟨n3,rfl,L⟩:=o.get c a I;obtain⟨N,rfl,O⟩:=p.get c b J;show{rfl,n,ne,N,_,_,rfl,s,O,g,λT U=>{rfl,n,n3,T,_,_,rfl,L,U,g,λn6 p6=>H _ {n6,rfl,?_}}};unfold zj;rw[MV ()];show p6};{rw[pl]at j;have bl:=j.len;show{bg rfl,?_};show{by change 1+bs.length<=_;lia,?_};show q _ ?_;rw[oY k 1];show LstT.append (k:=1) (l:=[iL ne]) (.one {ne,rfl,?_}) j λc d hc z=>?_;{unfold zj;rw[MU rfl];show s};{rw[oY 1 c];show z}}
def Nw:GS:=(ak (az 1 (au 1 m9 (gA1 (gX (gX (aa 0) (gI 0)) (gI 0))))) (ak (U4 2 1 1 [1,0] (giL (aa 0)) (.one 0) (au 3 xo (gaV (aa 0) (gaV (aa 1) (gA1 (gX (aa 2) (gI 0))))))) (ba (aa 2))))
def vb:GP:=λds R=>∃(n k:Nat)(W:Nat->Nat->Rl) (x:Tr),ds=[x]/\qe n (k+1) W x/\k<=300/\n<=300/\∀d,qe n (k+1) (jo n W) d->R (.val d)
def ju {P:Nat->Tr->Prop}{k:Nat}{l:DQ}(h:LstT P (k+1) l):∃d a,l=d::a/\P 0 d/\LstT (λc=>P (c+1)) k a:=by
 rcases l with _ | ⟨d,a⟩;{have:=h.len;simp at this};{show⟨d,a,rfl,h.get 0 d rfl,⟨by have:=h.len;simpa using this,λc x e=>h.get (c+1) x e⟩⟩}
def LstT.cons {P:Nat->Tr->Prop}{k:Nat}{d:Tr}{l:DQ}(h:P 0 d)(h':LstT (λc=>P (c+1)) k l):LstT P (k+1) (d::l):=⟨by rw[aW,h'.len],λc x e=>by
  cases c with
  |zero=>cases e;show h
  |succ c=>show h'.get c x e⟩
def Nx:Pm (Nw) 3 1 1 (vb):=by
 intro ds R E h;obtain⟨n,k,W,_,rfl,hw,hk,a,q⟩:=h;obtain⟨l,rfl,b⟩:=id hw;obtain⟨_,e0,m,rfl,h0⟩:=b.at (c:=0) ();obtain⟨_,s,u,rfl,w⟩:=h0.at (c:=0) ();have G:=b.len;show bf (bq (i:=0) e0) (bf (bq (i:=0) s) {rfl,n,u,_,rfl,w,a,λf g=>?_});show{jD 2,?_};obtain⟨H,I,rfl,y,o⟩:=ju b;have l2:=o.len;show bf (bq (i:=0) e0) {rfl,n,k,W 0,W 0,_,_,_,_,rfl,y,#v[f,rfl,g],#v[m,rfl,h0],hk,a,λr j=>?_};obtain⟨J,L,rfl,N,A⟩:=ju j;show{rfl,?_};show wo (P:=λc=>A8 n (k+1) (zj n (W (c+1)) (Star n (W 0 0)) (W 0))) rfl () (λc d e Y C=>?_) (λbs p=>?_);{show bf (bq (i:=0) e0) {rfl,n,k,W (c+1),W 0,_,_,_,_,rfl,o.get c d e,#v[f,rfl,g],#v[m,rfl,h0],hk,a,λr j=>C _ #v[r,rfl,j]}};{show q _ {_,rfl,?_};rw[l2]at p;show LstT.cons {_,rfl,LstT.cons {f,rfl,?_} (A.imp λc d _ z=>z.eq ?_)} (p.imp λr d _ z=>?_);{show g};{unfold zj jo;rw[MV (),MV ()]};{obtain⟨x,rfl,D⟩:=z;show{x,rfl,D.imp λc d _ z=>z.eq ?_};unfold zj jo;by_cases h:c=0;{rw[MU h,MU h,MV ()]};{rw[MV h,MV h]}}}
def Hv:GS:=(ak (sIf (gT (gOp (eqG MP) (gX (aa 2) (gI 0)) (gS "either"))) (ba (au 2 tj (gaV (gX (aa 3) (gI 0)) (gA1 (gX (aa 3) (gI 1)))))) df) (ak (sIf (gT (gOp (eqG MP) (gX (aa 2) (gI 0)) (gS "then"))) (ba (au 2 xm (gaV (gX (aa 3) (gI 0)) (gA1 (gX (aa 3) (gI 1)))))) df) (ak (sIf (gT (gOp (eqG MP) (gX (aa 2) (gI 0)) (gS "again"))) (ba (au 1 vb (gA1 (gX (aa 3) (gI 0))))) df) (ak (sIf (gT (gOp (eqG MP) (gX (aa 2) (gI 0)) (gS "not"))) (ba (gLst (gA1 (gLst (gA1 (au 1 qd (gA1 (gX (gX (gX (aa 3) (gI 0)) (gI 0)) (gI 0))))))))) df) (ak (sIf (gT (gOp (eqG MP) (gX (aa 2) (gI 0)) (gS "note"))) (ba (au 1 xl (gA1 (gCB gx (gaE (aa 1) gaN))))) df) (ba (gLst (gA1 (gLst (gA1 (au 3 oq (gaV (aa 0) (gaV (aa 1) (gA1 (aa 2)))))))))))))))
def mw:GP:=λds R=>∃(ws:LK)(s:Say) (l:DQ),ds=[spT ws,ltT (LL ws),s.t,.lst l]/\SpOk ws/\s.own ws/\s.rm<=300/\LstT (λc d=>∃y,s.kids[c]?=KE y/\Hu ws y d) s.kids.length l/\∀d,Hu ws s d->R (.new d)/\R (.val d)
def Hw:Pm (Hv) 4 1 4 (mw):=by
 intro ds R E h;obtain⟨ws,s,l,rfl,ok,p,rm,f,q⟩:=h;have le:=Lo ok;have r:((LL ws).map tI).length=(LL ws).length:=aC ..;rw[s.t_eq];have j:=λd hd=>(q d hd).1;have u:=λd hd=>(q d hd).2;clear q;cases s with
 |either a b=>
  obtain⟨x,l,rfl,⟨_,e,g⟩,f⟩:=ju (k:=1) f;cases e;obtain⟨y,l,rfl,⟨_,e,m⟩,f⟩:=ju (k:=0) f;cases e;exists tE,rfl;show ix0 (ix1 {rfl,_,_,_,_,_,x,y,rfl,g,m,rm,(),j})
 |both a b=>
  obtain⟨x,l,rfl,⟨_,e,g⟩,f⟩:=ju (k:=1) f;cases e;obtain⟨y,l,rfl,⟨_,e,m⟩,f⟩:=ju (k:=0) f;cases e;exists tE;exists tB,rfl;show ix0 (ix1 {rfl,_,_,_,_,_,x,y,rfl,g,m,rm,(),j})
 |again a=>
  obtain⟨x,l,rfl,⟨_,e,g⟩,f⟩:=ju (k:=0) f;cases e;exists tE;exists tB;exists tA,rfl;show ix0 {rfl,_,_,_,x,rfl,g,rm,(),u}
 |no a=>
  obtain⟨x,l,rfl,⟨_,e,g⟩,f⟩:=ju (k:=0) f;cases e;exists tE;exists tB;exists tA;exists tN,rfl;obtain⟨xs,rfl,w⟩:=g;obtain⟨_,e0,G,rfl,h0⟩:=w.at (c:=0) ();obtain⟨_,A,C,rfl,D⟩:=h0.at (c:=0) ();show ix0 (bf (bq (i:=0) e0) (bf (bq (i:=0) A) {rfl,_,C,_,rfl,D,(),λo n=>{bg rfl,bg rfl,j _ {_,rfl,.one {_,rfl,.one #v[o,rfl,n]}}}}))
 |note=>
  exists tE;exists tB;exists tA;exists tN;exists tO,rfl;show{rfl,(LL ws).length,?_,(),j};rw[<-r]
 |_=>
  exists tE;exists tB;exists tA;exists tN;exists tO;show{rfl,ws,_,NA (λz=>[_,_,z]) (Say.t_eq _).symm,ok,rfl,p,λo n=>{bg rfl,bg rfl,j _ {_,rfl,.one {_,rfl,.one #v[o,rfl,n]}}}}
def Yn:GS:=(ak (ft 3 0 (gLst gaN)) (ak (fg [4,5] (giV (gA1 (au 1 qh (gA1 (aa 2))))) (.one 4) (ak (az 5 (cq 1 [3] (giT (au 1 su (gA1 (aa 4)))) (.one 0) dt (gMc "list" 1 A5 gaN))) (ff (uv 3 (au 4 mw (gaV (aa 0) (gaV (aa 1) (gaV (aa 4) (gA1 (aa 5)))))))))) (ba (gMc "list" 3 A5 gaN))))
theorem pops (b:mj loc [3]=[KE (.c 1)])(e:∀st,i3 [MN,KE (.lst st)] loc=MO):∀(ks its a st:DQ),its.length=ks.length->a.length+ks.length<=1000000->Q (a++ks) {loc,[MN,KE (.lst st)]}->dh 1 [3] (.one 0) dt (gMc "list" 1 A5 gaN) loc Q its a [MN,KE (.lst (st++ks.reverse))]
 | [],[],a,st,_,_,q=>by
  rw[cE]at q;rw[kF,cE];show q
 |k::ks,d::its,a,st,f,g,q=>by
  rw[aW]at g;rw[iX,<-eO];show{(),?_};rw[b];show{rfl,bf (x:=k) lU ?_};show{e _,?_};have i:((st++ks.reverse)++[k]).dropLast=st++ks.reverse:=lV;change dh _ _ _ _ _ _ _ _ _ [MN,KE (.lst (((st++ks.reverse)++[k]).dropLast))];rw[i];show pops b e ks its (a++[k]) st (⇑f) (by rw[aH,cG];lia) ?_;rw[eO];show q
 | [],_::_,_,_,h,_,_=>by cases h
 |_::_,[],_,_,h,_,_=>by cases h
theorem Say.isT_rm:∀s:Say,s.isT=MO->s.rm=0
 | .nought,_ | .every,_ | .is _ _,_ | .no _,_=>rfl
 | .either a b,h=>by
  simp only[Say.isT,cI]at h;simp only[Say.rm,a.isT_rm h.1,b.isT_rm h.2]
 | .both a b,h=>by
  simp only[Say.isT,cI]at h;simp only[Say.rm,a.isT_rm h.1,b.isT_rm h.2]
 | .note,h | .put _ _,h | .again _,h=>by cases h
def Bb:GP:=λds R=>∃(ws:LK)(s:Say),ds=[spT ws,ltT (LL ws),s.t]/\SpOk ws/\s.size<=1000/\s.good ws/\s.rm<=300/\∀d,Hu ws s d->R (.val d)
abbrev woM (ws:LK)(s:Say)(st:DQ):M:={[KE (.v (spT ws)),KE (.v (ltT (LL ws))),KE (.v s.t),KE (.c 1),MN,MN],[MN,KE (.lst st)]}
abbrev woB:GS:=(ak (az 5 (cq 1 [3] (giT (au 1 su (gaV (aa 4) gaN))) (.one 0) dt (gMc "list" 1 A5 gaN))) (ff (uv 3 (au 4 mw (gaV (aa 0) (gaV (aa 1) (gaV (aa 4) (gaV (aa 5) gaN))))))))
def my {s0 x:Say}{ks st rest:DQ}(ok:SpOk ws)(a:x.own ws)(rm:x.rm<=300)(hk:LstT (λc d=>∃y,x.kids[c]?=KE y/\Hu ws y d) x.kids.length ks)(hs:st.length < 1000000)
  (h:∀d,Hu ws x d->gy [4,5] (.one 4) woB E rest (woM ws s0 (st++[d]))):gy [4,5] (.one 4) woB E (x.t::rest) (woM ws s0 (st++ks.reverse)):=by
 have b:=hk.len;have e:x.kids.length<=2:=(by cases x<;>simp[Say.kids]);show{rfl,x,rfl,?_};show pops rfl (λ_=>rfl) ks _ [] st (by rw[aC];show b.symm) (by change 0+_<=_;lia) ?_;show{rfl,rfl,ws,x,ks,rfl,ok,a,rm,hk,λd hd=>{{hs,h d hd},{hs,h d hd}}}
theorem ve {ws:LK}{s0:Say}{E:t8}(ok:SpOk ws):∀(s:Say)(st rest:DQ),s.good ws->s.rm<=300->st.length+s.size < 100000->(∀d,Hu ws s d->gy [4,5] (.one 4) woB E rest (woM ws s0 (st++[d])))->gy [4,5] (.one 4) woB E ((s.parts.map Say.t).reverse++rest) (woM ws s0 st)
 | .either a b,st,rest,g,rm,hs,h=>by
  have e:((Say.either a b).parts.map Say.t).reverse++rest=(b.parts.map Say.t).reverse++((a.parts.map Say.t).reverse++((Say.either a b).t::rest)):=(by simp[Say.parts]);have ga:a.good ws:=λx c=>g x (aT _ (dR _ c));have l:b.good ws:=λx c=>g x (aT _ (bY _ c));have p:a.rm+b.rm<=300:=rm;have m:st.length+(a.size+b.size+1) < 100000:=hs;rw[e];show ve ok b st _ l () () λn o=>ve ok a _ _ ga () (by rw[aH,cG];have:=b.size_pos;lia) λi j=>?_;rw[eO];show my (ks:=[i,n]) ok (g _ aP) rm (.cons #v[a,rfl,j] (.cons #v[b,rfl,o] .nil)) () h
 | .both a b,st,rest,g,rm,hs,h=>by
  have e:((Say.both a b).parts.map Say.t).reverse++rest=(b.parts.map Say.t).reverse++((a.parts.map Say.t).reverse++((Say.both a b).t::rest)):=(by simp[Say.parts]);have ga:a.good ws:=λx c=>g x (aT _ (dR _ c));have l:b.good ws:=λx c=>g x (aT _ (bY _ c));have p:a.rm+b.rm<=300:=rm;have m:st.length+(a.size+b.size+1) < 100000:=hs;rw[e];show ve ok b st _ l () () λn o=>ve ok a _ _ ga () (by rw[aH,cG];have:=b.size_pos;lia) λi j=>?_;rw[eO];show my (ks:=[i,n]) ok (g _ aP) rm (.cons #v[a,rfl,j] (.cons #v[b,rfl,o] .nil)) () h
 | .again a,st,rest,g,rm,hs,h=>by
  have e:((Say.again a).parts.map Say.t).reverse++rest=(a.parts.map Say.t).reverse++((Say.again a).t::rest):=(by simp[Say.parts]);have ga:a.good ws:=λx c=>g x (aT _ c);have m:st.length+(a.size+1) < 100000:=hs;rw[e];show ve ok a st _ ga rm () λi j=>?_;show my (ks:=[i]) ok (g _ aP) rm (.cons #v[a,rfl,j] .nil) () h
 | .no a,st,rest,g,rm,hs,h=>by
  have e:((Say.no a).parts.map Say.t).reverse++rest=(a.parts.map Say.t).reverse++((Say.no a).t::rest):=(by simp[Say.parts]);have ga:a.good ws:=λx c=>g x (aT _ c);have m:st.length+(a.size+1) < 100000:=hs;have it:a.isT=MO:=g _ aP;rw[e];show ve ok a st _ ga (by rw[a.isT_rm it];lia) () λi j=>?_;show my (ks:=[i]) ok (g _ aP) rm (.cons #v[a,rfl,j] .nil) () h
 | .nought,st,rest,g,rm,hs,h=>by
  have w:=my (ks:=[]) (st:=st) ok (g _ aP) rm .nil () h
  rwa [kF,cE]at w
 | .every,st,rest,g,rm,hs,h=>by
  have w:=my (ks:=[]) (st:=st) ok (g _ aP) rm .nil () h
  rwa [kF,cE]at w
 | .note,st,rest,g,rm,hs,h=>by
  have w:=my (ks:=[]) (st:=st) ok (g _ aP) rm .nil () h
  rwa [kF,cE]at w
 | .is f v,st,rest,g,rm,hs,h=>by
  have w:=my (ks:=[]) (st:=st) ok (g _ aP) rm .nil () h
  rwa [kF,cE]at w
 | .put f v,st,rest,g,rm,hs,h=>by
  have w:=my (ks:=[]) (st:=st) ok (g _ aP) rm .nil () h
  rwa [kF,cE]at w
def Yo:Pm (Yn) 6 2 3 (Bb):=by
 intro ds R b h;obtain⟨ws,s,rfl,ok,hs,a,rm,q⟩:=h;show{bg rfl,?_};show{rfl,s,rfl,hs,?_};have w:=ve (s0:=s) (E:={ nx:=ba (gMc "list" 3 A5 gaN) { nx:=λm=>R (.val (.v .non)),rt:=Dv R },rt:=Dv R }) ok s [] [] a rm (by change 0+_ < _;lia) (λd hd=>by
   show{rfl,q d hd})
 rw[cE]at w;show w
end PB
namespace VL
open PySem L2 PySem.Deep PySem.SeqAt
open PyProof.Rows (envOfC)
structure Md (K:aF)(C:MQ)(m wB:Str)(st:MT)(ps:AQ)(f:MQ)(fd:gY):Prop where
 fn:Fun K m wB st f fd
 cl:Cls K C
 mt:Ly K C m f
 bd:Binds K fd ps []
structure Cd (K:aF)(mg:Str->AX)(x m wB:Str)(st:MT)(ps:AQ)(cR f:MQ)(fd:gY):Prop where
 fn:Fun K m wB st f fd
 cm:ClsM K cR m f
 at_:mg x=KE (.ref cR)
 bd:Binds K fd ps []
structure Kd (K:aF)(mg:Str->AX)(x wB:Str)(st:MT)(ps:AQ)(C f:MQ)(fd:gY):Prop where
 fn:Fun K "__init__" wB st f fd
 mk_:Mk K C f
 at_:mg x=KE (.ref C)
 bd:Binds K fd ps []
structure Co (P:aQ)(w:bB)(K:aF)(mg:Str->AX)(base:MR)(k:Nat)(x m:Str)(ps:AQ)(sp:Sp):Prop where
 ex:∃C f fd,ClsM K C m f/\ir P w K mg base CX0 k f fd ps sp/\mg x=KE (.ref C)/\Binds K fd ps []
section
variable {P:aQ}{w:bB}{K:aF}{mg:Str->AX}{base:MR}{X:Cx}
def vcm (F:Co X.p X.w X.K X.mg X.base o x j ps (spR X.B n q g))(r:Room k X.A)(s:VA X (e::i) ga)(hk:↑(o<=k))(u:↥(Gl X x))
  (y:↑((x == ("__debug__":Str))=MP)) (z:↥(aM (e::i) X.e=(MP,eval e X.e)::aM i X.e)) (D:↥((dS d (aM i X.e)).any (·.1)=MP))
  (E:eval (.Call (.Attribute (.Name x p) j l) (e::i) [] d) X.e=(do
    let m <-eval (.Name x p) X.e
    mX l.atName
    let (f,first) <-iV [m] (mJ m j pl)
    rC d f first (dS d (aM (e::i) X.e)) (lM d (jG [] X.e))):=by rfl) :
  VE X (.Call (.Attribute (.Name x p) j l) (e::i) [] d) (fu n q g ga):=by
 show#v[?_];obtain⟨C,f,fd,c,F,a,b⟩:=F;show PE.sub (aac (pl:=pl) c F (r.mono hk) u a b .nil Bu s.out y z D E) λG H Q h=>Fu h
def vfm (F:Md K C x a st ps f fd)(S:fj N ps (bt st))
  (b:Rdx P w K mg base N a st f k g)
  (c:Pm g N.length e ps.length d):Mo P w K mg base (k+1) C x ps (spP #v[P,w,K] ps.length d):=
 {F.cl,f,fd,fn_g F.fn S b c,F.mt,F.bd}
def vfc (F:Cd K mg y x a st ps b f fd)(S:fj N ps (bt st))
  (c:Rdx P w K mg base N a st f k g)
  (d:Pr p g N.length i ps.length e):Co P w K mg base (k+1) y x ps (spR #v[P,w,K] ps.length p e):=
 {b,f,fd,F.cm,fn_r F.fn S c d,F.at_,F.bd}
def vfk (F:Kd K mg y a st ps C f fd)(S:fj N ps (bt st))
  (b:Rdx P w K mg base N a st f k g)
  (c:Pr p g N.length e ps.length d):Ko P w K mg base (k+1) y C ps (spR #v[P,w,K] ps.length p d):=
 {f,fd,F.mk_,fn_r F.fn S b c,F.at_,F.bd}
end
end VL
namespace PB
open PySem L2 VL Bits S1
def Kg:GS:=(ak (ft 2 0 (gLst gaN)) (ak (fg [3] (giL (aa 0)) (.one 3) (ff (gMc "list" 2 o7 (gaE (cq 1 [3] (giR (gA1 (aa 1))) (.one 0) dt (gOp cb (aa 1) (gTup (gA1 (aa 0))))) gaN)))) (ba (aa 2))))
def tw:GP:=λds R=>∃(ls:LJ)(n:Nat),ds=[ltT ls,.v (.int n)]/\ls.length<=1000/\n<=100/\(∀l∈ls,l.length<=100)/\R (.new (ltT (longer ls n)))
def Kh:Pm (Kg) 4 2 2 (tw):=by
 intro ds R a h;obtain⟨ls,n,rfl,b,d,f,q⟩:=h;show{bg rfl,?_};show iy (I:=λi=>{[KE (.v (ltT ls)),KE (.v (.v (.int n))),KE (.c 1),MN],[MN,KE (.lst ((longer (ls.take i) n).map tI))]}) rfl (λi l N a g=>?_) ?_
 ·have lm:=f l (bG a);show{rfl,by change(-1000000:Int)<=(n:Int);lia,by change(n:Int)<=1000000;lia,?_};change dh _ _ _ _ _ _ _ (ic 0 n) _ _;rw[jy];show cy (out:=λv:Nat=>tI (l++[(v:Int)])) rfl _ _ (by simp;lia) (λv m Y j=>?_) ?_;{show{by change 1<=1000000;lia,by change(l.map _).length+1<=1000000;simp;lia,?_};change Y (.tup (l.map _++[_])) _;have e:tI (l++[(v:Int)])=.tup (l.map (λn=>Tr.v (.int n))++[.v (.int v)]):=(by simp[tI]);rw[<-e];show j}
  ·have e:longer (ls.take (i+1)) n=longer (ls.take i) n++(bA n).map λv:Nat=>l++[(v:Int)]:=by
    unfold longer;rw[cX,a];simp
   have o:(longer (ls.take i) n).length<=100000:=by
    rw[sy,bR];show aX (sS (aX (rF _ _) b) d) #v[]
   show{?_,?_};{rw[bL,aC,aC,bP];lia};{show cast (NA N ?_) g;rw[e,bF,cV];rfl}
 ·change R _;rw[dE];show q
def Ny:GS:=(ak (az 1 (gLst (gA1 (gTup gaN)))) (ak (fg [2] (giT (aa 0)) (.one 2) (az 1 (au 2 tw (gaV (aa 1) (gA1 (gX (aa 2) (gI 1))))))) (ba (aa 1))))
def vg:GP:=λds R=>∃ws:LK,ds=[spT ws]/\SpOk ws/\R (.val (ltT (LL ws)))
def Jx (a:LJ)(cs:L1)(c:Nat):ig a (cs++[c])=longer (ig a cs) c:=by unfold ig;rw[qW];rfl
theorem SpOk.take (h:SpOk ws)(i:Nat):(letters ((ws.take i).map (·.2))).length<=216:=Fz (λc a=>by
  obtain⟨x,b,rfl⟩:=bI.mp a;show(h.cnt x (lQ b)).2) (by rw[aC,bR];have:=h.hi;lia)
def Nz:Pm (Ny) 3 1 1 (vg):=by
 intro ds R a h;obtain⟨ws,rfl,ok,q⟩:=h;show{bg rfl,bg rfl,?_};show iy (I:=λi=>{[KE (.v (spT ws)),KE (.v (ltT (letters ((ws.take i).map (·.2))))),MN],[MN]}) rfl (λi x N b c=>?_) ?_;{have d:=ok.cnt x (bG b);have e:=ok.hi;show⟨rfl,letters ((ws.take i).map (·.2)),x.2,rfl,by have:=ok.take i;lia,(),λl a=>?_,?_⟩;{rw[(lu _).wide l a,aC,bR];lia};{show cast (NA N ?_) c;rw[cX,b];change({[_,KE (.v (ltT (letters ((ws.take i++[x]).map (·.2))))),_],_}:M)=_;rw[bF];unfold letters;rw[bE,iO,Jx];rfl}};{change R _;rw[dE];show q}
def wx (C:MQ)(ls:LJ)(k:Nat)(W:Nat->Nat->Rl)(d:Tr):Prop:=∃x,d=.obj C ZZ [ltT ls,x]/\qe ls.length (k+1) W x
def Q9 (C:MQ):GS:=(ak (Uw C 0 "letters" (aa 1)) (Uw C 0 "ways" (aa 2)))
def xp (C:MQ):GR:=λds d R=>∃x y,ds=[x,y]/\d=.obj C [] []/\R (.val (.v .non)) (.obj C ZZ [x,y])
def Ra:Pr 0 (Q9 C) 3 0 3 (xp C):=by
 intro ds d R a h;obtain⟨x,y,rfl,rfl,q⟩:=h;show{rfl,rfl,#v[],rfl,rfl,#v[],q}
def MskT (n:Nat)(T:Nat->Nat->Prop)(c:Nat)(d:Tr):Prop:=∃m,d=.v (.int m)/\MaskP n m (T c)
def lb (W:Nat->Nat->Rl)(a:L1)(i:Nat)(c j:Nat):Prop:=∃r,r∈a/\W r c i j
abbrev rmT (rs:L1):Tr:=.tup (rs.map λ(r:Nat)=>Tr.v (.int (r:Int)))
def Ask (C:MQ)(ls:LJ)(k:Nat)(W:Nat->Nat->Rl)(m:Tr)(a:L1)(l:LQ):Prop:=wx C ls k W m/\(∀r∈a,r < k+1)/\l∈ls/\ls.length<=300/\k<=300
def Cj (C:MQ):GS:=(ak (az 3 (gMt "list" A4 (A7 C "letters" (aa 0)) (gaE (aa 2) gaN))) (ak (az 4 (gOp qu (gLst (gA1 (gI 0))) (gCB gx (gaE (A7 C "ways" (aa 0)) gaN)))) (ak (fg [5] (giT (aa 1)) (.one 5) (az 4 (cq 2 [3] (Ur (gaV (aa 4) (gA1 (gX (A7 C "ways" (aa 0)) (aa 5))))) (.tup [0,1]) dt (gOp (dg λi j=>.int (dX i j)) (aa 0) (gX (aa 1) (aa 2)))))) (ba (aa 4)))))
def ji (C:MQ):GP:=λds R=>∃ls k W m a l,ds=[m,rmT a,tI l]/\Ask C ls k W m a l/\∀x,LstT (MskT ls.length (lb W a (ls.idxOf l))) (k+1) x->R (.val (.lst x))
def Ck {C:MQ}:Pm (Cj C) 6 1 3 (ji C):=by
 intro ds R hl h;obtain⟨ls,k,W,_,s,l,rfl,⟨⟨x,rfl,J⟩,L,w,hn,hk⟩,q⟩:=h;obtain⟨f,rfl,hw⟩:=J;have O:=hw.len;have T:ls.idxOf l < ls.length:=dH.mpr w;show{rfl,rfl,ls,l,rfl,rfl,w,?_};show{bg rfl,rfl,by change(-1000000:Int)<=(f.length:Int);lia,by change(f.length:Int)<=1000000;lia,by change 1 * ((f.length:Int)).toNat<=1000000;lia,?_};show ko (I:=λi m=>∃y,m={[KE (.v (.obj C ZZ [ltT ls,.lst f])),KE (.v (rmT s)),KE (.v (tI l)),KE (.v (.v (.int (ls.idxOf l)))),KE (.v (.lst y)),MN],[MN]}/\LstT (MskT ls.length (lb W (s.take i) (ls.idxOf l))) (k+1) y) {_,rfl,?_} ?_ ?_;{rw[Hl,bT,O];show LstT.rep _ λc _=>⟨0,rfl,(j3 _).iff λj _=>⟨λz=>z.elim,λU=>by obtain⟨_,z,_⟩:=U;show by simp at z⟩⟩};{intro i r m N A g hN;obtain⟨y,rfl,n⟩:=g;have yl:=n.len;obtain⟨_,ey,D,rfl,hz⟩:=hw.at (L r (bG A));have zl:=hz.len;show{rfl,bf (x:=.lst f) rfl (bf (bq ey) ?_)};change dh _ _ _ _ _ _ _ (prs y D) _ _;have pl:(prs y D).length=k+1:=(by rw[Hg,yl,zl,rN]);show wo (P:=MskT ls.length (lb W (s.take (i+1)) (ls.idxOf l))) rfl () (λc d e Y hY=>?_) (λbs E=>?_);{obtain⟨a,b,ea,eb,rfl⟩:=M1 e;obtain⟨m1,rfl,p1⟩:=n.get c a ea;obtain⟨o,rfl,G⟩:=hz.get c b eb;have h2:ls.idxOf l < o.length:=(by rw[G.1];show T);have H:o[ls.idxOf l]?=KE o[ls.idxOf l]:=aB h2;show bf (x:=.v (.int o[ls.idxOf l])) (bq (i:=ls.idxOf l) (by rw[aN,H];rfl)) (hY _ {_,rfl,(u6 p1 (G.2 _ _ H)).iff λj _=>?_});unfold lb;rw[cX,A];constructor;{rintro(⟨u,z1,p⟩ | z);{show{u,dR _ z1,p}};{show{r,bY _ ∅,z}}};{intro g;obtain⟨u,z1,p⟩:=g;rcases cT.mp z1 with z1 | z1;{show .inl #v[u,z1,p]};{simp at z1;subst z1;show .inr p}}};{rw[pl]at E;show hN _ #v[bs,rfl,E]}};{intro m g;obtain⟨y,rfl,n⟩:=g;rw[dE]at n;show q y n}
def D5 (C:MQ):GS:=(ba (au 2 u7 (gaV (A7 C "letters" (aa 0)) (gA1 (gX (qc C "masks_from" 3 (ji C) (aa 0) (gaV (aa 1) (gA1 (aa 2)))) (gI 0))))))
def j4 (C:MQ):GP:=λds R=>∃ls k W m a l,ds=[m,rmT a,tI l]/\Ask C ls k W m a l/\∀mk,MaskP ls.length mk (lb W a (ls.idxOf l) 0)->R (.new (ltT (pick mk ls ls.length)))
def D6:Pm (D5 C) 3 1 3 (j4 C):=by
 intro ds R g h;obtain⟨ls,k,W,_,d,l,rfl,a,q⟩:=h;obtain⟨x,rfl,j⟩:=id a.1;show{rfl,rfl,rfl,rfl,ls,k,W,_,d,l,rfl,a,λy f=>?_};obtain⟨_,e,mk,rfl,b⟩:=f.at (c:=0) ();show bf (bq (i:=0) e) {rfl,ls.length,mk,ls,rfl,b.1,a.2.2.2.1,q mk b}
def Rb (C:MQ):GS:=(ba (qc C "ends_from" 3 (j4 C) (aa 0) (gaV (gTup (gA1 (aa 1))) (gA1 (aa 2)))))
def xq (C:MQ):GP:=λds R=>∃ls k W m r l,ds=[m,.v (.int (r:Nat)),tI l]/\Ask C ls k W m [r] l/\∀mk,MaskP ls.length mk (W r 0 (ls.idxOf l))->R (.new (ltT (pick mk ls ls.length)))
def Re {C:MQ}:Pm (Rb C) 3 1 3 (xq C):=by
 intro ds R c h;obtain⟨ls,k,W,_,r,l,rfl,a,q⟩:=h;obtain⟨x,rfl,d⟩:=id a.1;show{rfl,rfl,bg rfl,rfl,ls,k,W,_,[r],l,rfl,a,λmk b=>q mk (b.iff λj _=>?_)};unfold lb;simp
def Hx (C:MQ):GS:=(ak (ff (au 2 tu (gaV (aa 1) (gA1 (aa 2))))) (ak (az 3 (au 1 vg (gA1 (aa 1)))) (ff (fu 3 0 (xp C) (gaE (aa 0) (gaV (aa 3) (gA1 (au 3 Bb (gaV (aa 1) (gaV (aa 3) (gA1 (aa 2))))))))))))
def qz (C:MQ):GR:=λds d R=>∃ws s,ds=[spT ws,Say.t s]/\d=.obj C [] []/\SpOk ws/\s.size<=1000/\s.good ws/\s.rm<=300/\∀x,wx C (LL ws) s.rm (s.W ws) x->R (.val (.v .non)) x
def Hy:Pr 0 (Hx C) 4 0 3 (qz C):=by
 intro ds d R c h;obtain⟨ws,s,rfl,rfl,ok,hs,a,rm,q⟩:=h;show{rfl,ws,s,rfl,hs,a,?_};show{rfl,ws,rfl,ok,?_};show{rfl,ws,s,rfl,ok,hs,a,rm,λx b=>?_};show{rfl,_,_,rfl,rfl,?_};show q _ #v[x,rfl,b]
abbrev Lg:=Nat->L1->Nat->Prop
def Run (W:Nat->Nat->Rl)(n k:Nat):L1->Nat->Nat->Nat->Prop
 | [],r,i,e=>W r 0 i e
 |m::ns,r,i,e=>∃c,1<=c/\c<=k/\m < n/\W r c i m/\Run W n k ns c m e
def catL (n:Nat)(A B:Lg):Lg:=λi ns e=>∃a b k,ns=a++b/\k < n/\A i a k/\B k b e
inductive jd (n:Nat)(A:Lg):Lg
 |refl {i:Nat}:jd n A i [] i
 |step {i k e:Nat}{a b:L1}:A i a k->k < n->jd n A k b e->jd n A i (a++b) e
def Say.S (ws:LK):Say->Lg
 | .nought=>λ_ _ _=>False
 | .every=>λi ns e=>ns=[]/\e=i
 | .note=>λi ns e=>ns=[i]/\e=i
 | .is f v=>λi ns e=>ns=[]/\(match look ws f with | some (p,_)=>isR (LL ws) p v i e | none=>False)
 | .put f v=>λi ns e=>ns=[]/\(match look ws f with | some (p,_)=>Nt (LL ws) p v i e | none=>False)
 | .no s=>λi ns e=>ns=[]/\e=i/\∀k,k < (LL ws).length->¬s.S ws i [] k
 | .again s=>jd (LL ws).length (s.S ws)
 | .either a b=>λi ns e=>a.S ws i ns e\/b.S ws i ns e
 | .both a b=>catL (LL ws).length (a.S ws) (b.S ws)
section
variable {n k1 k2:Nat}{W W1 W2:Nat->Nat->Rl}
theorem uh {V:Nat->Nat->Rl}(h:∀r c,k1+1<=r->V r c=ip (k1+1) W2 r c):∀(ns:L1)(r i e:Nat),1<=r->(Run V n (k1+k2) ns (k1+r) i e↔Run W2 n k2 ns r i e)
 | [],r,i,e,l=>by
  change V (k1+r) 0 i e↔W2 r 0 i e;rw[h _ _ ()];unfold ip;rw[MU rfl,show k1+r - (k1+1)+1=r by lia]
 |m::ns,r,i,e,l=>by
  constructor;{intro d;obtain⟨c,g,o,f,a,b⟩:=d;rw[h _ _ ()]at a;unfold ip at a;rw[MV ()]at a;by_cases j:c < k1+1;{rw[MU j]at a;show a.elim};{rw[MV j,show k1+r - (k1+1)+1=r by lia]at a;show{c - k1,(),(),f,by rw[show c - (k1+1)+1=c - k1 by lia]at a;show a,?_};rw[show c=k1+(c - k1)by lia]at b;show(uh h ns (c - k1) m e ()).mp b}};{intro d;obtain⟨c,g,o,f,a,b⟩:=d;show{k1+c,(),(),f,?_,(uh h ns c m e g).mpr b};rw[h _ _ ()];unfold ip;rw[MV (),MV (),show k1+r - (k1+1)+1=r by lia,show k1+c - (k1+1)+1=c by lia];show a}
def N0:∀r c,k1+1<=r->gn n (k1+1) W1 W2 r c=ip (k1+1) W2 r c:=λr c h=>by
 unfold gn;rw[MV ()]
def N3:∀r c,k1+1<=r->k9 n (k1+1) W1 W2 r c=ip (k1+1) W2 r c:=λr c h=>by
 unfold k9;rw[MV ()]
theorem zm:∀ns r i e,1<=r->r<=k1->(Run (gn n (k1+1) W1 W2) n (k1+k2) ns r i e↔Run W1 n k1 ns r i e)
 | [],r,i,e,o,hk=>by
  change gn n (k1+1) W1 W2 r 0 i e↔W1 r 0 i e;unfold gn;rw[MU (),MV (),MU ()]
 |m::ns,r,i,e,o,hk=>by
  have hw:∀c,1<=c->gn n (k1+1) W1 W2 r c=if c < k1+1 then W1 r c else λ_ _=>False:=λc d=>by
   unfold gn;rw[MU (),MV (),MV (by lia:¬r=0)]
  constructor;{intro f;obtain⟨c,a,l,g,b,j⟩:=f;rw[hw c a]at b;by_cases d:c < k1+1;{rw[MU d]at b;show{c,a,(),g,b,(zm ns c m e a ()).mp j}};{rw[MV d]at b;show b.elim}};{intro f;obtain⟨c,a,l,g,b,j⟩:=f;show{c,a,(),g,by rw[hw c a,MU ()];show b,(zm ns c m e a l).mpr j}}
def abx (ns:L1)(i e:Nat):Run (gn n (k1+1) W1 W2) n (k1+k2) ns 0 i e↔Run W1 n k1 ns 0 i e\/Run W2 n k2 ns 0 i e:=by
 cases ns with
 |nil=>
  change gn n (k1+1) W1 W2 0 0 i e↔_;unfold gn;rw[MU (),MU #v[rfl,rfl]];show kA
 |cons m ns=>
  have hw:∀c,1<=c->gn n (k1+1) W1 W2 0 c=if c < k1+1 then W1 0 c else W2 0 (c - k1):=λc g=>by
   unfold gn;rw[MU (),MV (),MU rfl,show c - (k1+1)+1=if c < k1+1 then 1 else c - k1 by split<;>lia]
   split<;>rfl
  constructor;{intro l;obtain⟨c,a,j,f,b,d⟩:=l;rw[hw c a]at b;by_cases g:c < k1+1;{rw[MU g]at b;show .inl {c,a,(),f,b,(zm ns c m e a ()).mp d}};{rw[MV g]at b;rw[show c=k1+(c - k1)by lia]at d;show .inr {c - k1,(),(),f,b,(uh N0 ns (c - k1) m e ()).mp d}}};{rintro(⟨c,a,j,f,b,d⟩ | ⟨c,a,j,f,b,d⟩);{show{c,a,(),f,by rw[hw c a,MU ()];show b,(zm ns c m e a j).mpr d}};{show{k1+c,(),(),f,?_,(uh N0 ns c m e a).mpr d};rw[hw _ (),MV (),show k1+c - k1=c by lia];show b}}
theorem D7:∀ns r i e,r<=k1->(Run (k9 n (k1+1) W1 W2) n (k1+k2) ns r i e↔∃a b m,ns=a++b/\m < n/\Run W1 n k1 a r i m/\Run W2 n k2 b 0 m e)
 | [],r,i,e,w=>by
  change k9 n (k1+1) W1 W2 r 0 i e↔_;unfold k9;rw[MU (),MU rfl];constructor;{intro j;obtain⟨m,d,l,f⟩:=j;show{[],[],m,rfl,d,l,f}};{intro j;obtain⟨a,b,m,h0,d,l,f⟩:=j;obtain⟨rfl,rfl⟩:=nZ.mp h0.symm;show#v[m,d,l,f]}
 |x::ns,r,i,e,w=>by
  have hw:∀c,1<=c->k9 n (k1+1) W1 W2 r c=if c < k1+1 then W1 r c else k8 n (W1 r 0) (W2 0 (c - k1)):=λc u=>by
   unfold k9;rw[MU (),MV ()];by_cases h:c < k1+1;{rw[MU h,MU h]};{rw[MV h,MV h,show c - (k1+1)+1=c - k1 by lia]}
  constructor;{intro j;obtain⟨c,d,l,f,g,o⟩:=j;rw[hw c d]at g;by_cases u:c < k1+1;{rw[MU u]at g;obtain⟨a,b,m,rfl,p,q,s⟩:=(D7 ns c x e ()).mp o;show{x::a,b,m,rfl,p,{c,d,(),f,g,q},s}};{rw[MV u]at g;obtain⟨m,p,q,s⟩:=g;rw[show c=k1+(c - k1)by lia]at o;show{[],x::ns,m,rfl,p,q,c - k1,(),(),f,s,(uh N3 ns (c - k1) x e ()).mp o}}}
  ·intro j;obtain⟨a,b,m,h0,p,q,s⟩:=j;cases a with
   |nil=>
    rw[bL]at h0;subst h0;obtain⟨c,d,l,f,g,o⟩:=s;show{k1+c,(),(),f,?_,(uh N3 ns c x e d).mpr o};rw[hw _ (),MV (),show k1+c - k1=c by lia];show#v[m,p,q,g]
   |cons y a=>
    rw[lO]at h0;obtain⟨rfl,rfl⟩:=iB h0;obtain⟨c,d,l,f,g,o⟩:=q;show{c,d,(),f,by rw[hw c d,MU ()];show g,(D7 _ c _ e l).mpr #v[a,b,m,rfl,p,o,s]}
abbrev D8 (W:Nat->Nat->Rl)(n k:Nat):Lg:=λi ns e=>Run W n k ns 0 i e
variable {k:Nat}
def Yp (h:Star n (W 0 0) i e)(t:jd n (D8 W n k) e b f):jd n (D8 W n k) i b f:=by
 induction h with
 |refl=>show t
 |step r hk _ c=>show jd.step (a:=[]) r hk (c t)
def Bc:jd n (D8 W n k) i [] e↔Star n (W 0 0) i e:=by
 constructor
 ·intro h;generalize a:([]:L1)=b at h
  induction h with
  |refl=>show .refl
  |step r hk _ c=>
   obtain⟨rfl,rfl⟩:=nZ.mp a.symm;show .step r hk (c rfl)
 ·intro h;show Yp h .refl
def zo:jd n (D8 W n k) i (x::ns) e↔∃y c a b m,Star n (W 0 0) i y/\1<=c/\c<=k/\x < n/\W 0 c y x/\ns=a++b/\Run W n k a c x m/\m < n/\jd n (D8 W n k) m b e:=by
 constructor
 ·intro h;generalize d:x::ns=l at h
  induction h with
  |refl=>cases d
  |@step i k' e a b r hk t s=>
   cases a with
   |nil=>
    obtain⟨y,c,u,w,m,A,q⟩:=s d;show{y,c,u,w,m,.step r hk A,q}
   |cons z a=>
    rw[lO]at d;obtain⟨rfl,rfl⟩:=iB d;obtain⟨c,f,g,j,o,p⟩:=r;show{i,c,a,b,k',.refl,f,g,j,o,rfl,p,hk,t}
 ·intro C;obtain⟨y,c,a,b,m,f,g,j,o,p,rfl,D,E,G⟩:=C;show Yp f (jd.step (a:=x::a) #v[c,g,j,o,p,D] E G)
def U6 (a:1<=r):jo n W r 0=k8 n (W r 0) (Star n (W 0 0)):=by unfold jo;rw[MU rfl,MV ()]
def vh (a:1<=c):jo n W r c=orR n (W r c) (k8 n (k8 n (W r 0) (Star n (W 0 0))) (W 0 c)):=by unfold jo;rw[MV ()]
def Sx (hi:i < n)(h:Star n (W 0 0) i y):y < n:=by
 induction h with
 |refl=>show hi
 |step _ hk _ a=>show a hk
theorem sv:∀ns r i e,1<=r->(Run (jo n W) n k ns r i e↔∃a b m,ns=a++b/\m < n/\Run W n k a r i m/\jd n (D8 W n k) m b e)
 | [],r,i,e,A=>by
  change jo n W r 0 i e↔_;rw[U6 A];constructor;{intro j;obtain⟨m,d,f,g⟩:=j;show{[],[],m,rfl,d,f,Bc.mpr g}};{intro j;obtain⟨a,b,m,h0,d,f,g⟩:=j;obtain⟨rfl,rfl⟩:=nZ.mp h0.symm;show{m,d,f,Bc.mp g}}
 |x::ns,r,i,e,A=>by
  constructor;{intro j;obtain⟨c,d,f,g,l,s⟩:=j;rw[vh d]at l;obtain⟨a,b,m,rfl,o,p,q⟩:=(sv ns c x e d).mp s;rcases l with l | ⟨y,u,⟨z,C,D,E⟩,w⟩;{show{x::a,b,m,rfl,o,#v[c,d,f,g,l,p],q}};{show{[],x::(a++b),z,rfl,C,D,zo.mpr #v[y,c,a,b,m,E,d,f,g,w,rfl,p,o,q]}}}
  ·intro j;obtain⟨a,b,m,h0,o,p,q⟩:=j;cases a with
   |nil=>
    rw[bL]at h0;subst h0;obtain⟨y,c,a,b,G,u,d,f,g,w,rfl,H,I,J⟩:=zo.mp q;show{c,d,f,g,?_,(sv _ c x e d).mpr #v[a,b,G,rfl,I,H,J]};rw[vh d];show .inr {y,Sx o u,#v[m,o,p,u],w}
   |cons y a=>
    rw[lO]at h0;obtain⟨rfl,rfl⟩:=iB h0;obtain⟨c,d,f,g,l,s⟩:=p;show{c,d,f,g,by rw[vh d];show .inl l,(sv _ c _ e d).mpr #v[a,b,m,rfl,o,s,q]}
def U7 (ns:L1)(i e:Nat)(hi:i < n):Run (jo n W) n k ns 0 i e↔jd n (D8 W n k) i ns e:=by
 cases ns with
 |nil=>
  change jo n W 0 0 i e↔_;rw[Bc];unfold jo;rw[MU rfl,MU rfl]
 |cons x ns=>
  rw[zo];constructor;{intro o;obtain⟨c,d,f,g,j,w⟩:=o;rw[vh d]at j;obtain⟨a,b,m,rfl,p,q,s⟩:=(sv ns c x e d).mp w;rcases j with j | ⟨y,u,⟨z,A,C,D⟩,l⟩;{show{i,c,a,b,m,.refl,d,f,g,j,rfl,q,p,s}};{show{y,c,a,b,m,.step C A D,d,f,g,l,rfl,q,p,s}}}
  ·intro o;obtain⟨y,c,a,b,m,u,d,f,g,l,rfl,E,G,H⟩:=o;show{c,d,f,g,?_,(sv _ c x e d).mpr #v[a,b,m,rfl,G,E,H]};rw[vh d];cases u with
   |refl=>show .inl l
   |step r hk t=>show .inr {y,Sx hk t,{_,hk,r,t},l}
end
def vi (ns:L1)(i e:Nat):Run W n 0 ns 0 i e↔ns=[]/\W 0 0 i e:=by
 cases ns with
 |nil=>show{λh=>#v[rfl,h],λh=>h.2}
 |cons x ns=>show{λ⟨c,a,b,_⟩=>(),λh=>nomatch h.1}
def Yq {n:Nat}{A B:Lg}(h:∀i,i < n->∀ns e,A i ns e↔B i ns e){i e:Nat}{ns:L1}(hi:i < n):jd n A i ns e↔jd n B i ns e:=by
 constructor
 ·intro s
  induction s with
  |refl=>show .refl
  |step r hk _ a=>show .step ((h _ hi _ _).mp r) hk (a hk)
 ·intro s
  induction s with
  |refl=>show .refl
  |step r hk _ a=>show .step ((h _ hi _ _).mpr r) hk (a hk)
theorem Say.run (ws:LK):∀(s:Say)(i:Nat),i < (LL ws).length->∀(ns:L1)(e:Nat),Run (s.W ws) (LL ws).length s.rm ns 0 i e↔s.S ws i ns e
 | .nought,i,hi,ns,e=>(vi ns i e).trans {λh=>h.2,λh=>h.elim}
 | .every,i,hi,ns,e=>vi ns i e
 | .is f v,i,hi,ns,e=>by
  show(vi ns i e).trans (and_congr kA ?_);change(match look ws f with | some (p,_)=>isR (LL ws) p v | none=>λ_ _=>False) i e↔_
  cases look ws f<;>show kA
 | .put f v,i,hi,ns,e=>by
  show(vi ns i e).trans (and_congr kA ?_);change(match look ws f with | some (p,_)=>Nt (LL ws) p v | none=>λ_ _=>False) i e↔_
  cases look ws f<;>show kA
 | .no s,i,hi,ns,e=>by
  show(vi ns i e).trans (and_congr kA (and_congr kA (forall_congr' λk=>imp_congr kA (not_congr ?_))));show s.run ws i hi [] k
 | .note,i,hi,ns,e=>by
  have h0:∀r i e,nu r r i e↔False:=λr i e=>(by unfold nu;rw[MU rfl]);have d:∀i e,nu 0 1 i e↔e=i:=λi e=>(by unfold nu;rw[MV ()]);have j:∀i e,nu 1 0 i e↔e=i:=λi e=>(by unfold nu;rw[MV ()]);cases ns with
  |nil=>show{λh=>((h0 0 i e).mp h).elim,λh=>nomatch h.1}
  |cons x ns=>
   constructor
   ·intro g;obtain⟨c,q,u,w,l,n⟩:=g;have:c=1:=(by have:Say.rm .note=1:=rfl;lia);subst this;cases(d i x).mp l;cases ns with
    |nil=>show{rfl,(j _ e).mp n}
    |cons y ns=>
     obtain⟨c,q,u,w,l,n⟩:=n;have:c=1:=(by have:Say.rm .note=1:=rfl;lia);subst this;show((h0 1 _ y).mp l).elim
   ·intro g;obtain⟨h,rfl⟩:=g;obtain⟨rfl,rfl⟩:=iB h;show{1,aI _,aI _,hi,(d _ _).mpr rfl,(j _ _).mpr rfl}
 | .again s,i,hi,ns,e=>(U7 ns i e hi).trans (Yq (λi hi ns e=>s.run ws i hi ns e) hi)
 | .either a b,i,hi,ns,e=>(abx ns i e).trans (or_congr (a.run ws i hi ns e) (b.run ws i hi ns e))
 | .both a b,i,hi,ns,e=>by
  show(D7 ns 0 i e (cH _)).trans ?_;constructor;{intro g;obtain⟨x,y,m,h0,d,j,o⟩:=g;show{x,y,m,h0,d,(a.run ws i hi x m).mp j,(b.run ws m d y e).mp o}};{intro g;obtain⟨x,y,m,h0,d,j,o⟩:=g;show{x,y,m,h0,d,(a.run ws i hi x m).mpr j,(b.run ws m d y e).mpr o}}
inductive wy (n:Nat)(A:Nat×Nat->Nat×Nat->Prop):Nat×Nat->Nat×Nat->Prop
 |refl {p:Nat×Nat}:wy n A p p
 |step {p r q:Nat×Nat}:A p r->r.2 < n->wy n A r q->wy n A p q
def Say.P (ws:LK)(τ:L1):Say->Nat×Nat->Nat×Nat->Prop
 | .nought=>λ_ _=>False
 | .every=>λp q=>q=p
 | .note=>λp q=>q=(p.1+1,p.2)/\p.1+2 < τ.length/\τ[p.1+1]?=KE p.2
 | .is f v=>λp q=>q.1=p.1/\(match look ws f with | some (x,_)=>isR (LL ws) x v p.2 q.2 | none=>False)
 | .put f v=>λp q=>q.1=p.1/\(match look ws f with | some (x,_)=>Nt (LL ws) x v p.2 q.2 | none=>False)
 | .no s=>λp q=>q=p/\∀r:Nat×Nat,r.2 < (LL ws).length->¬s.P ws τ p r
 | .again s=>wy (LL ws).length (s.P ws τ)
 | .either a b=>λp q=>a.P ws τ p q\/b.P ws τ p q
 | .both a b=>λp q=>∃r:Nat×Nat,r.2 < (LL ws).length/\a.P ws τ p r/\b.P ws τ r q
def seg (τ:L1)(k k':Nat):L1:=(τ.drop (k+1)).take (k' - k)
def pd (h:k<=k')(a:k'+2<=τ.length):(seg τ k k').length=k' - k:=by
 unfold seg;rw[bR,dI];lia
def rf (τ:L1)(k:Nat):seg τ k k=[]:=by unfold seg;rw[Nat.sub_self,List.take_zero]
def Hz (a:k<=m)(b:m<=k'):seg τ k k'=seg τ k m++seg τ m k':=by
 unfold seg;rw[show k' - k=(m - k)+(k' - m)by lia,List.take_add,List.drop_drop,show k+1+(m - k)=m+1 by lia]
def Sy (h:τ[k+1]?=KE x):seg τ k (k+1)=[x]:=by
 obtain⟨a,rfl⟩:=bK.mp h;unfold seg;rw[show k+1 - k=1 by lia,gF a,List.take_succ_cons,List.take_zero]
def Sz (d:k<=k')(f:k'+2<=τ.length)(e:seg τ k k'=a++b):k+a.length<=k'/\a=seg τ k (k+a.length)/\b=seg τ (k+a.length) k':=by
 have l:=pd d f;have l2:=NA pU e;rw[aH]at l2;have hk:k+a.length<=k':=();have c:=Hz (τ:=τ) (k:=k) (m:=k+a.length) () hk;rw[e]at c;have l3:=pd (τ:=τ) (k:=k) (k':=k+a.length) () ();have:=List.append_inj c (by rw[l3];lia);show#v[hk,this.1,this.2]
def Say.good_no (h:(Say.no s).good ws):s.isT=MO/\s.good ws:={h (.no s) (by simp[Say.parts]),λx a=>h x (by simp[Say.parts,a])}
def Say.good_again (h:(Say.again s).good ws):s.good ws:=λx a=>h x (by simp[Say.parts,a])
def Say.good_either (h:(Say.either a b).good ws):a.good ws/\b.good ws:={λx c=>h x (by simp[Say.parts,c]),λx c=>h x (by simp[Say.parts,c])}
def Say.good_both (h:(Say.both a b).good ws):a.good ws/\b.good ws:={λx c=>h x (by simp[Say.parts,c]),λx c=>h x (by simp[Say.parts,c])}
theorem Say.test_nil:∀{s:Say},s.isT=MO->∀{i:Nat}{ns:L1}{e:Nat},s.S ws i ns e->ns=[]
 | .nought,_,_,_,_,h=>h.elim
 | .every,_,_,_,_,h=>h.1
 | .is _ _,_,_,_,_,h=>h.1
 | .no _,_,_,_,_,h=>h.1
 | .note,z,_,_,_,_=>by simp[Say.isT]at z
 | .put _ _,z,_,_,_,_=>by simp[Say.isT]at z
 | .again _,z,_,_,_,_=>by simp[Say.isT]at z
 | .either a b,z,_,_,_,h=>by
  simp only[Say.isT,cI]at z;rcases h with h | h;{show a.test_nil z.1 h};{show b.test_nil z.2 h}
 | .both a b,z,_,_,_,h=>by
  simp only[Say.isT,cI]at z;obtain⟨x,y,_,rfl,_,c,d⟩:=h;rw[a.test_nil z.1 c,b.test_nil z.2 d];rfl
theorem Say.along (ws:LK)(τ:L1):∀(s:Say),s.good ws->∀(k i:Nat),k+2<=τ.length->i < (LL ws).length->∀(k' e:Nat),s.P ws τ (k,i) (k',e)↔k<=k'/\k'+2<=τ.length/\s.S ws i (seg τ k k') e
 | .nought,_,k,i,hk,hi,k',e=>{λh=>h.elim,λh=>h.2.2.elim}
 | .every,_,k,i,hk,hi,k',e=>by
  constructor;{intro h;obtain⟨rfl,rfl⟩:=lE h;show{aI _,hk,rf _ _,rfl}};{rintro⟨g,c,d,rfl⟩;have:=pd g c;rw[d]at this;simp only[eW]at this;change(k',e)=(k,e);rw[show k'=k by lia]}
 | .note,_,k,i,hk,hi,k',e=>by
  constructor;{rintro⟨h,c,d⟩;obtain⟨rfl,rfl⟩:=lE h;show{pS _,c,Sy d,rfl}};{rintro⟨g,c,d,rfl⟩;have l:=pd g c;rw[d]at l;simp only[aW,eW]at l;have E:k'=k+1:=();subst E;show{rfl,by change k+2 < _;lia,?_};change τ[k+1]?=KE e;have o:k+1 < τ.length:=();have:=Sy (aB o);rw[d]at this;rw[aB o,(iB this).1]}
 | .is f v,_,k,i,hk,hi,k',e=>by
  constructor;{rintro⟨rfl,h⟩;show{aI _,hk,rf _ _,h}};{rintro⟨g,c,d,h⟩;have:=pd g c;rw[d]at this;simp only[eW]at this;show{show k'=k by lia,h}}
 | .put f v,_,k,i,hk,hi,k',e=>by
  constructor;{rintro⟨rfl,h⟩;show{aI _,hk,rf _ _,h}};{rintro⟨g,c,d,h⟩;have:=pd g c;rw[d]at this;simp only[eW]at this;show{show k'=k by lia,h}}
 | .no s,j,k,i,hk,hi,k',e=>by
  obtain⟨ht,j⟩:=Say.good_no j;have key:(∀r:Nat×Nat,r.2 < (LL ws).length->¬s.P ws τ (k,i) r)↔∀x,x < (LL ws).length->¬s.S ws i [] x:=by
   constructor;{intro h x n hs;show h (k,x) n ((s.along ws τ j k i hk hi k x).mpr {aI _,hk,?_});rw[rf];show hs};{rintro h ⟨k2,x⟩ n A;obtain⟨g,c,d⟩:=(s.along ws τ j k i hk hi k2 x).mp A;have:=Say.test_nil ht d;rw[this]at d;show h x n d}
  constructor;{rintro⟨h,c⟩;obtain⟨rfl,rfl⟩:=lE h;show{aI _,hk,rf _ _,rfl,key.mp c}};{rintro⟨g,c,d,rfl,C⟩;have:=pd g c;rw[d]at this;simp only[eW]at this;have E:k'=k:=();subst E;show{rfl,key.mpr C}}
 | .either a b,j,k,i,hk,hi,k',e=>by
  obtain⟨ga,D⟩:=Say.good_either j;have g:=a.along ws τ ga k i hk hi k' e;have c:=b.along ws τ D k i hk hi k' e;constructor;{rintro(h | h);{obtain⟨x,y,z⟩:=g.mp h;show{x,y,.inl z}};{obtain⟨x,y,z⟩:=c.mp h;show{x,y,.inr z}}};{rintro⟨x,y,z | z⟩;{show .inl (g.mpr #v[x,y,z])};{show .inr (c.mpr #v[x,y,z])}}
 | .both a b,j,k,i,hk,hi,k',e=>by
  obtain⟨ga,D⟩:=Say.good_both j;constructor;{rintro⟨⟨m,x⟩,n,g,c⟩;obtain⟨u,G,H⟩:=(a.along ws τ ga k i hk hi m x).mp g;obtain⟨w,I,J⟩:=(b.along ws τ D m x G n k' e).mp c;show{aX u w,I,seg τ k m,seg τ m k',x,Hz u w,n,H,J}};{rintro⟨g,c,x,y,m,d,C,U,Y⟩;obtain⟨L,N,O⟩:=Sz g c d;rw[N]at U;rw[O]at Y;show{(k+x.length,m),C,(a.along ws τ ga k i hk hi _ m).mpr {(),(),U},(b.along ws τ D _ m () C k' e).mpr #v[L,c,Y]}}
 | .again s,j,k,i,hk,hi,k',e=>by
  have gs:=Say.good_again j;constructor
  ·intro h;change wy (LL ws).length (s.P ws τ) (k,i) (k',e)at h;generalize A:(k,i)=p at h;generalize hq:(k',e)=q at h
   induction h generalizing k i with
   |refl=>
    subst A;obtain⟨rfl,rfl⟩:=lE hq;show{aI _,hk,by rw[rf];show .refl}
   |@step p r q g c d T=>
    subst A;obtain⟨m,x⟩:=r;obtain⟨u,G,H⟩:=(s.along ws τ gs k i hk hi m x).mp g;obtain⟨w,I,J⟩:=T m x G c rfl hq;show{aX u w,I,?_};rw[Hz u w];show jd.step H c J
  ·rintro⟨g,c,d⟩;change jd (LL ws).length (s.S ws) i (seg τ k k') e at d;change wy (LL ws).length (s.P ws τ) (k,i) (k',e);generalize o:seg τ k k'=l at d
   induction d generalizing k with
   |refl=>
    have:=pd g c;rw[o]at this;simp only[eW]at this;rw[show k'=k by lia];show .refl
   |@step i m e a b r hm t T=>
    obtain⟨L,N,O⟩:=Sz g c o;rw[N]at r;show .step ((s.along ws τ gs k i hk hi _ m).mpr {(),(),r}) hm (T (k+a.length) () hm L O.symm)
structure Row where
 m:List AK
 ds:List (List AK)
structure U8 (n:Nat)(r:Row):Prop where
 ml:r.m.length=n
 dl:r.ds.length<=36
 dm:∀d∈r.ds,d.length=n
def put (l:LQ)(p:List AK):LQ:=(l.zip p).map λx=>x.2.getD x.1
def due (l:LQ):List Row->LJ
 | []=>[]
 |r::t=>if put l r.m=l then TupG.srtG (r.ds.map (put l))else due l t
def deed (l m:LQ):List (AK):=(m.zip l).map λx=>if x.1=x.2 then MN else KE x.1
def rowOf (l:LQ)(ls:LJ):Row:={l.map KE,ls.map (deed l)}
def wid (r:Row)(i:Nat):Row:={r.m.set i MN,r.ds}
abbrev zp:=List (LQ×LJ)
def allD (T:List Row)(W:zp):Bool:=W.all λp=>decide (due p.1 T=p.2)
structure adj (n:Nat)(T:List Row):Prop where
 rows:∀r∈T,U8 n r
 few:T.length<=36
def fewF (W:zp):Nat->List Row->List Row
 |0,T=>T
 |k+1,T=>fewF W k (if allD (T.eraseIdx k) W=MO then T.eraseIdx k else T)
def wid1 (W:zp)(p:Nat)(T:List Row)(i:Nat):List Row:=match T[p]? with
 |none=>T
 |some r=>if allD (T.set p (wid r i)) W=MO then T.set p (wid r i)else T
def widI (W:zp)(p:Nat)(T:List Row)(k:Nat):List Row:=(bA k).foldl (wid1 W p) T
def widO (W:zp)(n:Nat)(T:List Row)(k:Nat):List Row:=(bA k).foldl (λT p=>widI W p T n) T
def cnt:List AK->Nat
 | []=>0
 |none::p=>cnt p
 |some _::p=>cnt p+1
def mu:List Row->Nat
 | []=>0
 |r::T=>1+cnt r.m+mu T
def U9 (W:zp)(n:Nat)(T:List Row):List Row:=widO W n (fewF W T.length T) (fewF W T.length T).length
inductive Va (W:zp)(n:Nat)(T:List Row):List Row->Prop
 |ref:Va W n T T
 |step {B:List Row}:Va W n T B->Va W n T (U9 W n B)
def celT:AK->Tr
 |none=>.v .non
 |some v=>.v (.int v)
abbrev parT (p:List AK):Tr:=.tup (p.map celT)
abbrev rowT (r:Row):Tr:=.tup [parT r.m,.tup (r.ds.map parT)]
abbrev N4 (T:List Row):Tr:=.lst (T.map rowT)
theorem zq:∀(n:Nat)(l m:LQ),cmpL n (l.map λx=>Tr.v (.int x)) (m.map λx=>Tr.v (.int x))=MO
 |_,[],_=>by cases (by assumption:Nat)<;>simp[cmpL]
 |_,_::_,[]=>by simp[cmpL]
 |n,x::l,y::m=>by
  rw[bE,bE,cmpL,zq n l m];cases n<;>rfl
def N5 {l m:LQ}:(l.map λx=>Tr.v (.int x))=(m.map λx=>Tr.v (.int x))↔l=m:={λh=>(List.map_inj_right (λa b z=>by cases z;rfl)).mp h,λh=>by rw[h]}
def akm {l m:LQ}(h:tI l=tI m):l=m:=N5.mp (Tr.tup.inj h)
theorem N6:∀(n:Nat)(l m:LJ),cmpL (n+1) (l.map tI) (m.map tI)=MO
 |_,[],_=>by simp[cmpL]
 |_,_::_,[]=>by simp[cmpL]
 |n,x::l,y::m=>by
  rw[bE,bE,cmpL,N6 n l m,oB];show zq n x y
def Yr {c:Bool}{P Q:Prop}[Decidable Q](h:c=MO↔P)(e:P↔Q):c=decide Q:=by
 by_cases q:Q;{rw[MX q];show h.mpr (e.mpr q)}
 ·rw[MW q];cases c with
  |false=>rfl
  |true=>show MY (e.mp (h.mp rfl)) q
def Vb:GP:=λds R=>∃l T,ds=[N4 T,tI l]/\(∀r∈T,U8 l.length r)/\1<=l.length/\l.length<=100/\R (.new (ltT (due l T)))
def agm {a:Type}(l:List a)(i:Nat)(h:i < l.length):(bu l MN (KE (i:Int))).length+(bu l (KE ((i:Int)+1)) MN).length<=l.length:=by
 rw[show((i:Int)+1)=((i+1:Nat):Int)by omega,Fy _ _ (),D2 _ _ (),bR,dI];omega
theorem H0 {c:Type}{f:c->Tr}{n:Nat}(h:∀a b,g8 n (f a) (f b)=MO):∀(l m:List c),cmpL n (l.map f) (m.map f)=MO
 | [],_=>by simp[cmpL]
 |_::_,[]=>by simp[cmpL]
 |x::l,y::m=>by rw[bE,bE,cmpL,h,H0 h l m];rfl
open Classical in
open Classical in
noncomputable def Ga (ws:LK)(s:Say)(l:LQ):LJ:=(LL ws).filter λm=>decide (s.W ws 0 0 ((LL ws).idxOf l) ((LL ws).idxOf m))
noncomputable def Bd (ws:LK)(s:Say):zp:=(LL ws).map λl=>(l,Ga ws s l)
def tab0 (W:zp):List Row:=W.map λp=>rowOf p.1 p.2
def Gb:GP:=λds R=>∃ws s,ds=[spT ws,s.t]/\SpOk ws/\s.size<=1000/\s.good ws/\s.nts=0/\(LL ws).length<=36/\∀T,adj ws.length T->Va (Bd ws s) ws.length (tab0 (Bd ws s)) T->(T=[]\/U9 (Bd ws s) ws.length T=T)->R (.val (N4 T))
open Classical in
def abc:Str:="abcdefghijklmnopqrstuvwxyz"
def agn:abc.cps.toList.length=26:=by decide +kernel
def ia (a:Int)(h:0 < m):0<=a % m/\a % m < m:={Int.emod_nonneg _ (Int.ne_of_gt h),Int.emod_lt_of_pos _ h}
def akn (h0:0<=v)(b:v < 26):∃c,atI abc.cps.toList v=KE c:=by
 have hk:v.toNat < abc.cps.toList.length:=(by rw[agn];lia);have a:v=((v.toNat:Nat):Int):=();have q:atI abc.cps.toList ((v.toNat:Nat):Int)=KE abc.cps.toList[v.toNat]:=bq (aB hk);rw[<-a]at q;show{_,q}
structure Wds (ws:LK):Prop where
 nd:(ws.map (·.1)).Nodup
def Tail (a:Int)(tl:Str)(ws:LK):Prop:=∀(i:Nat)(w:Str×Nat),ws[i]?=KE w->∃c,atI abc.cps.toList ((a+9 * (i:Int)) % 26)=KE c/\w.1=#v[#[c]]++tl
def ago (f:0<=v)(i:v < 26)(j:0<=u)(l:u < 26)(h:atI abc.cps.toList v=KE c)(g:atI abc.cps.toList u=KE c):v=u:=by
 have key:∀n:Nat,n < 26->abc.cps.toList[n]?=KE (97+n):=⋯;have d:=key v.toNat ();have e:=key u.toNat ();have a:atI abc.cps.toList ((v.toNat:Nat):Int)=KE (97+v.toNat):=bq d;have b:atI abc.cps.toList ((u.toNat:Nat):Int)=KE (97+u.toNat):=bq e;rw[show((v.toNat:Nat):Int)=v by lia,h]at a;rw[show((u.toNat:Nat):Int)=u by lia,g]at b;have m:=cB a;have o:=cB b;lia
def aca (h:(#v[#[c]]++x:Str)=#v[#[d]]++x):c=d:=by
 have e:∀c:Nat,((⟨#[c]⟩:Str)++x).cps.toList=c::x.cps.toList:=λc=>by
  change(#[c]++x.cps).toList=_;simp
 have z:=NA (λs:Str=>s.cps.toList) h;simp only[e]at z;show(iB z).1
def Tail.ok {ws:LK}(h:Tail fi tl ws)(l3:ws.length<=3)(f0:0<=fi)(f1:fi < 26):Wds ws where
 nd:=by
  unfold List.Nodup;rw[List.pairwise_iff_getElem];intro i j hi hj LR;rw[aC]at hi hj;rw[List.getElem_map,List.getElem_map];obtain⟨c,ec,wc⟩:=h i _ (aB (show i < ws.length by lia));obtain⟨d,ed,wd⟩:=h j _ (aB hj);intro z;rw[wc,wd]at z;have:=aca z;subst this;have m1:=ia (fi+9 * (i:Int)) (m:=26) #v[];have m2:=ia (fi+9 * (j:Int)) (m:=26) #v[];have:=ago m1.1 m1.2 m2.1 m2.2 ec ed;lia
def prd:L1->Nat
 | []=>1
 |c::cs=>c * prd cs
abbrev iT (i:Int):Tr:=.v (.int i)
def Rf:GS:=(ak (sIf (gT (gOp (dg λi j=>.bl (decide (i < j))) (aa 1) (gCB gx (gaE (aa 0) gaN)))) (ba (gX (aa 0) (aa 1))) df) (ba (gI 0)))
def nj:GP:=λds R=>∃(ns:LQ)(k:Nat),ds=[.scr (ns.map iT),iT k]/\∀x:Int,R (.val (iT x))
def Rg:Pm (Rf) 2 1 2 (nj):=by
 intro ds R a h;obtain⟨ns,k,rfl,q⟩:=h;change if decide ((k:Int) < (((ns.map iT).length:Nat):Int))=MO then _ else _
 by_cases c:k < ns.length;{rw[MU (by rw[aC];show MX ())];show bf (x:=iT ns[k]) (bq (by rw[aN,aB c];rfl)) (q _)};{rw[MV (by rw[aC,MW ()];decide)];show q 0}
def N7:GS:=(ak (az 1 (gOp (fq (λ_ j=>0 < j) λi j=>.int (i % j)) (aa 0) (gI 2147483647))) (ak (az 2 (gI 1)) (ak (fg [3] (giR (gA1 (gI 16))) (.one 3) (ak (az 1 (gOp (fq (λ_ j=>0 < j) λi j=>.int (i % j)) (gOp cb (gOp cb (gOp cb (gOp qu (aa 1) (aa 1)) (gOp qu (gOp qu (gI 48271) (aa 3)) (aa 3))) (aa 3)) (gI 3)) (gI 2147483629))) (az 2 (gOp cb (gOp qu (aa 2) (gI 2147483587)) (gOp (fq (λ_ j=>0 < j) λi j=>.int (i % j)) (gOp qu (aa 1) (aa 1)) (gI 2147483587)))))) (ak (sIf (gT (gOp (eqG MP) (gOp (fq (λ_ j=>0 < j) λi j=>.int (i % j)) (aa 0) (gI 2)) (gI 0))) (ba (gLst (gaV (gOp (fq Gy λi j=>.int (i / j)) (gCB absG (gaE (aa 0) gaN)) (gI 2)) (gA1 (aa 2))))) df) (ba (gLst (gaV (gI 0) (gA1 (aa 2)))))))))
def ly:GP:=λds R=>∃n:Int,ds=[iT n]/\∀a b:Int,0<=a->0<=b->R (.new (.lst [iT a,iT b]))
def N8:Pm (N7) 4 1 1 (ly):=by
 intro ds R r h;obtain⟨n,rfl,q⟩:=h;have f:=ia n (m:=2147483647) #v[];show{by change(0:Int) < 2147483647;decide,#v[],#v[],?_};change gy _ _ _ _ (ic 0 16) _;rw[jy];show ko (I:=λi m=>∃x y:Int,m={[KE (.v (iT n)),KE (.v (iT x)),KE (.v (iT y)),MN],[MN]}/\0<=x/\x < 2147483647/\0<=y) {_,_,rfl,f.1,f.2,#v[]} ?_ ?_;{intro i k m N hk d g;obtain⟨x,y,rfl,j,l,a⟩:=d;have hi:=bz hk;rw[bP]at hi;rw[cP hi]at hk;cases hk;have b:=ia (x * x+48271 * (i:Int) * (i:Int)+(i:Int)+3) (m:=2147483629) #v[];have o:=ia ((x * x+48271 * (i:Int) * (i:Int)+(i:Int)+3) % 2147483629 * ((x * x+48271 * (i:Int) * (i:Int)+(i:Int)+3) % 2147483629)) (m:=2147483587) #v[];show{.inl {(),()},.inl {#v[],#v[]},.inr {(),()},by change(0:Int) < 2147483629;decide,?_};show{.inr {#v[],#v[]},.inl {Int.lt_of_lt_of_le #v[] b.1,rP b.2 #v[]},by change(0:Int) < 2147483587;decide,?_};show g _ {_,_,rfl,b.1,rP b.2 #v[],?_};show Int.add_nonneg (Int.mul_nonneg a #v[]) o.1}
 ·intro m d;obtain⟨x,y,rfl,j,l,a⟩:=d;show{by change(0:Int) < 2;decide,rfl,?_};have z:0<=(if n < 0 then -n else n):=by split<;>lia
  have p:0<=(if n < 0 then -n else n) / 2:=by lia
  by_cases c:n % 2=0;{show sfY (MX (show V.int (n % 2)=V.int 0 by rw[c])) ?_;show{{#v[],#v[]},bg rfl,q _ _ p a}};{show sfN (MW λe=>c (V.int.inj e)) ?_;show{bg rfl,q _ _ (Int.le_refl 0) a}}
def Rh:GS:=(ak (az 2 (gCB intG (gaE (gOp (eqG MP) (gX (aa 0) (gI 0)) (gI 0)) gaN))) (ak (az 3 (gOp (fq (λ_ j=>0 < j) λi j=>.int (i % j)) (gX (aa 0) (aa 2)) (aa 1))) (ak (M9 0 (gOp (fq Gy λi j=>.int (i / j)) (gX (aa 0) (aa 2)) (aa 1)) (aa 2)) (ba (aa 3)))))
def N9 (a b:Int):Tr:=.lst [iT a,iT b]
def c6:GR:=λds d R=>∃m a b:Int,ds=[iT m]/\d=N9 a b/\0<=a/\0<=b/\0 < m/\m < 1073741824/\∀v c e:Int,0<=v->v < m->0<=c->0<=e->R (.val (iT v)) (N9 c e)
def Ri:Pr 0 (Rh) 4 0 2 (c6):=by
 intro ds d R l h;obtain⟨m,a,b,rfl,rfl,e,f,c,g,q⟩:=h;have i:=ia a c;have j:=ia b c;show{rfl,?_};generalize hk:decide (V.int a=V.int 0)=k;cases k with
 |true=>show{c,#v[c,g],q _ _ _ j.1 j.2 e (Int.ediv_nonneg f (Int.le_of_lt c))}
 |false=>show{c,#v[c,g],q _ _ _ i.1 i.2 (Int.ediv_nonneg e (Int.le_of_lt c)) f}
def menuT {ns:LQ}(h0:0<=v)(b:v < (ns.length:Int)):∃x∈ns,atI (ns.map iT) v=KE (iT x):=by
 have hk:v.toNat < ns.length:=();have a:v=((v.toNat:Nat):Int):=();have q:atI (ns.map iT) ((v.toNat:Nat):Int)=KE (iT ns[v.toNat]):=bq (by rw[aN,aB hk];rfl);rw[<-a]at q;show{_,fS hk,q}
def adk {ns:AQ}(h0:0<=v)(b:v < (ns.length:Int)):∃x∈ns,atI (ns.map λx=>Tr.v (.str x)) v=KE (.v (.str x)):=by
 have hk:v.toNat < ns.length:=();have a:v=((v.toNat:Nat):Int):=();have q:atI (ns.map λx=>Tr.v (.str x)) ((v.toNat:Nat):Int)=KE (.v (.str ns[v.toNat])):=bq (by rw[aN,aB hk];rfl);rw[<-a]at q;show{_,fS hk,q}
def ako (h0:0<=v)(a:v < 8):(qC ("abcdefg":Str) MN (KE v)).length<=7:=by
 have z:v=0\/v=1\/v=2\/v=3\/v=4\/v=5\/v=6\/v=7:=();rcases z with z | z | z | z | z | z | z | z<;>subst z<;>decide +kernel
def Ab:GS:=(ak (ft 2 1 (au 1 ly (gA1 (aa 0)))) (ak (az 3 (fu 2 0 c6 (gaE (aa 2) (gA1 (gI 26))))) (ak (az 4 (gS "abcdefghijklmnopqrstuvwxyz")) (ak (az 5 (gX (gLst (gaV (gI 8) (gaV (gI 8) (gaV (gI 6) (gaV (gI 8) (gaV (gI 12) (gaV (gI 8) (gaV (gI 4) (gA1 (gI 24)))))))))) (fu 2 0 c6 (gaE (aa 2) (gA1 (gI 8)))))) (ak (az 6 (gCB (two λi j=>if j > i then j else i) (gaE (aa 1) (gaE (gOp cb (gI 1) (fu 2 0 c6 (gaE (aa 2) (gA1 (gI 3))))) gaN)))) (ak (az 7 (gSl (gS "abcdefg") goN (goS (fu 2 0 c6 (gaE (aa 2) (gA1 (gI 8))))))) (ak (ft 8 0 (gLst gaN)) (ak (fg [9,10] (giR (gA1 (aa 6))) (.one 9) (ak (az 10 (gCB (two λi j=>if j < i then j else i) (gaE (gX (gLst (gaV (gI 2) (gaV (gI 3) (gaV (gI 4) (gaV (gI 1) (gaV (gI 6) (gA1 (gI 5)))))))) (fu 2 0 c6 (gaE (aa 2) (gA1 (gI 6))))) (gaE (aa 5) gaN)))) (ak (az 5 (gOp (fq Gy λi j=>.int (i / j)) (aa 5) (aa 10))) (ff (uv 8 (gTup (gaV (gOp cb (gX (aa 4) (gOp (fq (λ_ j=>0 < j) λi j=>.int (i % j)) (gOp cb (aa 3) (gOp qu (gI 9) (aa 9))) (gI 26))) (aa 7)) (gA1 (aa 10))))))))) (ak (az 11 (gX (gLst (gaV (gS "note") (gaV (gS "put") (gaV (gS "again") (gaV (gS "not") (gaV (gS "all") (gaV (gS "is") (gaV (gS "either") (gA1 (gS "then")))))))))) (fu 2 0 c6 (gaE (aa 2) (gA1 (gI 8)))))) (ak (sIf (gT (gOp (eqG MP) (fu 2 0 c6 (gaE (aa 2) (gA1 (gI 8)))) (gI 7))) (M9 8 (gTup (gaV (aa 11) (gA1 (gX (gX (aa 8) (gI 0)) (gI 1))))) (gI 0)) df) (ba (gCB yh (gaE (aa 8) gaN)))))))))))))
def j9:GP:=λds R=>∃n l:Int,ds=[iT n,iT l]/\1<=l/\l<=3/\∀ws,SpOk ws->Wds ws->prd (ws.map (·.2))<=24->l<=(ws.length:Int)->R (.val (spT ws))
def Ia:GS:=(ak (az 1 (gLst (gA1 (gTup gaN)))) (ak (fg [2,3,4,5] (giT (aa 0)) (.tup [2,3]) (ak (az 4 (gLst gaN)) (ak (fg [5] (giL (aa 1)) (.one 5) (az 4 (gOp cb (aa 4) (cq 1 [5] (giR (gA1 (aa 3))) (.one 0) dt (gOp cb (aa 1) (gTup (gA1 (aa 0)))))))) (az 1 (aa 4))))) (ba (aa 1))))
def mz:GP:=λds R=>∃ws:LK,ds=[spT ws]/\SpOk ws/\R (.val (ltT (LL ws)))
def Ib:Pm (Ia) 6 1 1 (mz):=by
 intro ds R a h;obtain⟨ws,rfl,ok,q⟩:=h;have s:=ok.hi;show{bg rfl,bg rfl,?_};show iy (I:=λi=>{[KE (.v (spT ws)),KE (.v (ltT (letters ((ws.take i).map (·.2))))),MN,MN,MN,MN],[MN]}) rfl (λi x N c d=>?_) ?_
 ·have f:=ok.cnt x (bG c);have g:=ok.take i;have b:=ok.take (i+1);have en:letters ((ws.take (i+1)).map (·.2))=longer (letters ((ws.take i).map (·.2))) x.2:=by
   rw[cX,c];change letters ((ws.take i++[x]).map (·.2))=_;rw[bF];unfold letters;rw[bE,iO,Jx]
  have wide:∀l∈letters ((ws.take i).map (·.2)),l.length<=3:=λl a=>by
   rw[(lu _).wide l a,aC,bR];lia
  rw[en]at d b;generalize letters ((ws.take i).map (·.2))=ls at *;show{bg rfl,?_};show iy (I:=λj=>{[KE (.v (spT ws)),KE (.v (ltT ls)),KE (.v (.v (.str x.1))),KE (.v (iT x.2)),KE (.v (ltT (longer (ls.take j) x.2))),MN],[MN]}) rfl (λj l m a o=>?_) ?_
  ·have lm:=wide l (bG a);show{by change(-1000000:Int)<=(x.2:Int);lia,by change(x.2:Int)<=1000000;lia,?_};change dh _ _ _ _ _ _ _ (ic 0 x.2) _ _;rw[jy];show cy (out:=λv:Nat=>tI (l++[(v:Int)])) rfl _ _ (by simp;lia) (λv u Y p=>?_) ?_;{show{by change 1<=1000000;lia,by change(l.map _).length+1<=1000000;simp;lia,?_};change Y (.tup (l.map _++[_])) _;have e:tI (l++[(v:Int)])=.tup (l.map (λn=>Tr.v (.int n))++[.v (.int v)]):=(by simp[tI]);rw[<-e];show p}
   ·have e:longer (ls.take (j+1)) x.2=longer (ls.take j) x.2++(bA x.2).map λv:Nat=>l++[(v:Int)]:=by
     unfold longer;rw[cX,a];simp
    have w:(longer (ls.take j) x.2).length<=100000:=by
     rw[sy,bR];show aX (sS (aX (rF _ _) g) f.2) #v[]
    have r:(longer (ls.take j) x.2).map tI++([]++(bA x.2).map λv:Nat=>tI (l++[(v:Int)]))=(longer (ls.take (j+1)) x.2).map tI:=by
     rw[e,bL,bF,cV];rfl
    show{by change((longer (ls.take j) x.2).map tI).length+([]++(bA x.2).map λv:Nat=>tI (l++[(v:Int)])).length<=1000000;rw[bL,aC,aC,bP];lia,?_};show cast (NA (λz=>m ({[KE (.v (spT ws)),KE (.v (ltT ls)),KE (.v (.v (.str x.1))),KE (.v (iT x.2)),KE (.v (.lst z)),MN],[MN]}:M)) r.symm) o
  ·rw[dE];show d
 ·change R _;rw[dE];show q
theorem fm:∀{ws w} i,(ws.map (·.1)).Nodup->w∈ws->∃p,wt w.1 ws i=KE (p,w.2)
 |v::r,w,i,nd,h=>by
  rw[bE,eG]at nd;rcases aY.mp h with e | e;{subst e;show{i,MU rfl}};{obtain⟨p,a⟩:=fm (i+1) nd.2 e;have ne:v.1≠w.1:=λz=>nd.1 (by rw[z];show jC e);show{p,by rw[wt,MV ne,a]}}
def Rj:GS:=(ak (Uq (.tup [3,4]) (gX (aa 2) (fu 2 0 c6 (gaE (aa 1) (gA1 (gCB gx (gaE (aa 2) gaN))))))) (ba (gX (gLst (gaV (gTup (gaV (gS "is") (gaV (aa 3) (gA1 (fu 2 0 c6 (gaE (aa 1) (gA1 (aa 4)))))))) (gaV (gTup (gaV (gS "put") (gaV (aa 3) (gA1 (fu 2 0 c6 (gaE (aa 1) (gA1 (aa 4)))))))) (gaV (gTup (gA1 (gS "all"))) (gA1 (gTup (gA1 (gS "none")))))))) (aa 0))))
def Lone (ws:LK)(st:Int)(s:Say):Prop:=s.good ws/\s.isT=decide (st≠1)/\s.nts=0/\s.size=1
def xr:GR:=λds d R=>∃st a b ws,ds=[iT st,spT ws]/\d=N9 a b/\0<=st/\st<=3/\0<=a/\0<=b/\SpOk ws/\Wds ws/\∀s c e,0<=c->0<=e->Lone ws st s->R (.val s.t) (N9 c e)
def Rk:Pr 1 (Rj) 5 0 3 (xr):=by
 intro ds d R C h;obtain⟨st,a,b,ws,rfl,rfl,s0,D,c,e,ok,j,q⟩:=h;have E:(ws.map pT).length=ws.length:=aC ..;have G:=ok.hi;have H:=ok.lo;show{rfl,_,_,_,rfl,rfl,c,e,by change(0:Int) < ((ws.map pT).length:Int);lia,by change((ws.map pT).length:Int) < 1073741824;lia,λv a b I l c e=>?_};have m:v < ((ws.map pT).length:Int):=l;have hk:v.toNat < ws.length:=();have n:v=((v.toNat:Nat):Int):=();obtain⟨w,g⟩:∃w,ws[v.toNat]?=KE w:={_,aB hk};have hw:=bG g;have J:=ok.cnt w hw;have o:atI (ws.map pT) v=KE (pT w):=by
  rw[n];show bq (by rw[aN,g];rfl)
 show bf o ?_;show{rfl,_,_,_,rfl,rfl,c,e,by change(0:Int) < (w.2:Int);lia,by change(w.2:Int) < 1073741824;lia,λu a b r s c e=>{bg rfl,?_}};show{rfl,_,_,_,rfl,rfl,c,e,by change(0:Int) < (w.2:Int);lia,by change(w.2:Int) < 1073741824;lia,λt a b y A c e=>{bg rfl,bg rfl,bg rfl,bg rfl,?_}};obtain⟨p,i⟩:=fm 0 j.nd hw;have z:st=0\/st=1\/st=2\/st=3:=();rcases z with rfl | rfl | rfl | rfl;{show q (.is w.1 u) a b c e {λx f=>?_,rfl,rfl,rfl};cases aR.mp f;show#v[p,w.2,i,r,s]};{show q (.put w.1 t) a b c e {λx f=>?_,rfl,rfl,rfl};cases aR.mp f;show#v[p,w.2,i,y,A]}
 ·show q .every a b c e {λx f=>?_,rfl,rfl,rfl};cases aR.mp f
  trivial
 ·show q .nought a b c e {λx f=>?_,rfl,rfl,rfl};cases aR.mp f
  trivial
abbrev jq:=Say×Int
def br (i:jq):Tr:=.lst [i.1.t,.v (.bl i.1.isT),iT i.1.nts,iT i.2]
def ntot (is:List jq):Nat:=(is.map λi=>i.1.nts).sum
def isz (is:List jq):Nat:=(is.map λi=>i.1.size).sum
structure Gd (ws:LK)(m:Nat)(is:List jq):Prop where
 good:∀i∈is,i.1.good ws
 few:ntot is<=m
theorem Ic:∀is:List jq,is.length<=isz is
 | []=>aI _
 |i::is=>by
  have:=Ic is;have:=i.1.size_pos;simp[isz]at *;lia
def iq (a b:List jq):isz (a++b)=isz a+isz b:=by simp[isz]
def vj (a b:List jq):ntot (a++b)=ntot a+ntot b:=by simp[ntot]
def wz (c:a.good ws)(d:b.good ws):(Say.either a b).good ws/\(Say.both a b).good ws:=by
 constructor<;>
 ·intro x hx;rcases aY.mp hx with rfl | hx;{trivial};{rcases cT.mp hx with hx | hx;{show c x hx};{show d x hx}}
def Ki:GS:=(ak (Uq (.lst [2,3]) (gSl (aa 0) (goS (qb (gI 2))) goN)) (ak (az 4 (gTup (gaV (aa 1) (gaV (gX (aa 2) (gI 0)) (gA1 (gX (aa 3) (gI 0))))))) (ba (gOp cb (gSl (aa 0) goN (goS (qb (gI 2)))) (gLst (gA1 (gLst (gaV (aa 4) (gaV (acz (gX (aa 2) (gI 1)) (gX (aa 3) (gI 1))) (gaV (gOp cb (gX (aa 2) (gI 2)) (gX (aa 3) (gI 2))) (gA1 (gCB (two λi j=>if j > i then j else i) (gaE (gX (aa 2) (gI 3)) (gaE (gX (aa 3) (gI 3)) gaN))))))))))))))
def fv (c:Str)(a b:Say):Say:=if c="either" then .either a b else .both a b
def nv:GP:=λds R=>∃is i j a,ds=[.lst ((is++[i,j]).map br),.v (.str a)]/\(a="either"\/a="then")/\is.length<=1000/\∀d,R (.new (.lst ((is++[(fv a i.1 j.1,d)]).map br)))
def S0 (n d k:Nat)(h:0 < k):HT.sIx n d (KE (-(k:Int)))=n - k:=by
 change(if (-(k:Int)) < 0 then (-(k:Int)+(n:Int)).toNat else _)=n - k
 rw[MU ()];lia
def adl (l r:List a)(h:0 < r.length):bu (l++r) (KE (-(r.length:Int))) MN=r/\bu (l++r) MN (KE (-(r.length:Int)))=l:=by
 unfold bu;rw[S0 _ _ _ h,S0 _ _ _ h,aH,qE,HT.sIx_none,HT.sIx_none];constructor;{rw[List.drop_left,fY ()]};{rw[sJ,rL,List.take_left]}
def akp (l:List b)(a:b):bu (l++[a]) MN (KE (-1))=l:=(adl l [a] ∅).2
def Vc (l:List b)(a:b):atI (l++[a]) (-1)=KE a:=by
 unfold atI ixN;rw[MV #v[],MU (by rw[aH];simp;lia)];rw[show(-1+((l++[a]).length:Int)).toNat=l.length by rw[aH];simp;lia];show List.getElem?_concat_length
def Kj:Pm (Ki) 5 1 2 (nv):=by
 intro ds R m h;obtain⟨is,i,j,a,rfl,hw,n,q⟩:=h;have o:(is.map br).length=is.length:=aC ..;rw[bF];obtain⟨c,d⟩:=adl (is.map br) [br i,br j] ∅;change gTg (.lst [2,3]) (.lst (bu (is.map br++[br i,br j]) (KE (-2)) MN)) _ _;rw[show bu (is.map br++[br i,br j]) (KE (-2)) MN=[br i,br j]from c];show{bg rfl,?_};have f:(fv a i.1 j.1).t=.tup [.v (.str a),i.1.t,j.1.t]:=by
  rcases hw with rfl | rfl;{rfl};{rfl}
 have g:(fv a i.1 j.1).isT=(i.1.isT && j.1.isT):=by
  unfold fv
  split<;>rfl
 have l:(fv a i.1 j.1).nts=i.1.nts+j.1.nts:=by
  unfold fv
  split<;>rfl
 have fin:∀b,b=(i.1.isT && j.1.isT)->(bu (is.map br++[br i,br j]) MN (KE (-2))).length+1<=1000000/\R (.new (.lst (bu (is.map br++[br i,br j]) MN (KE (-2))++[Tr.lst [.tup [.v (.str a),i.1.t,j.1.t],.v (.bl b),iT ((i.1.nts:Int)+j.1.nts),iT (if j.2 > i.2 then j.2 else i.2)]]))):=λb e=>by
  rw[show bu (is.map br++[br i,br j]) MN (KE (-2))=is.map br from d];show{(),?_};have z:=q (if j.2 > i.2 then j.2 else i.2)
  rw[bF]at z;unfold br at z;simp only[bE,iO,f,g,l]at z;rw[e,<-Int.natCast_add];show z
 change if i.1.isT=MO then _ else _
 cases hi:i.1.isT with
 |true=>
  rw[MU rfl];show{bg rfl,bg rfl,fin j.1.isT (by rw[hi];rfl)}
 |false=>
  rw[MV aO];show{bg rfl,bg rfl,fin MP (by rw[hi];rfl)}
def Kk:GS:=(ba (gOp cb (aa 0) (gLst (gA1 (gLst (gaV (fu 3 1 xr (gaV (aa 5) (gaE (aa 4) (gA1 (aa 2))))) (gaV (gOp (eqG MO) (aa 5) (gI 1)) (gaV (gI 0) (gA1 (gI 0))))))))))
def Ac:GS:=ak (az 5 (gX (gLst (gaV (gI 0) (gaV (gI 1) (gaV (gI 2) (gaV (gI 3) (gaV (gI 2) (gaV (gI 0) (gaV (gI 1) (gaV (gI 0) (gaV (gI 1) (gaV (gI 0) (gaV (gI 1) (gaV (gI 0) (gaV (gI 1) (gA1 (gI 0)))))))))))))))) (aa 5))) (Kk)
def Ad:GS:=ak (sIf (Az (gT (gOp (dg λi j=>.bl (decide (j < i))) (aa 5) (gI 6))) (Az (gT (gOp (dg λi j=>.bl (decide (i < j))) (aa 5) (gI 12))) (gT (gOp (dg λi j=>.bl (decide (j < i))) (gCB gx (gaE (aa 0) gaN)) (gI 1))))) (ba (au 2 nv (gaV (aa 0) (gA1 (gX (gLst (gaV (gS "either") (gA1 (gS "then")))) (gOp (fq (λ_ j=>0 < j) λi j=>.int (i % j)) (aa 5) (gI 2))))))) df) (Ac)
def Ae:GS:=ak (sIf (Az (gT (gOp (eqG MP) (aa 5) (gI 6))) (gT (gOp (dg λi j=>.bl (decide (i < j))) (gX (aa 6) (gI 3)) (gI 3)))) (ba (gOp cb (gSl (aa 0) goN (goS (qb (gI 1)))) (gLst (gA1 (gLst (gaV (gTup (gaV (gS "again") (gA1 (gX (aa 6) (gI 0))))) (gaV (gC (.v (.bl MP))) (gaV (gX (aa 6) (gI 2)) (gA1 (gOp cb (gX (aa 6) (gI 3)) (gI 1))))))))))) df) (Ad)
def Ag:GS:=ak (sIf (Az (gT (gOp (eqG MP) (aa 5) (gI 5))) (i7 (gX (aa 6) (gI 1)))) (ba (gOp cb (gSl (aa 0) goN (goS (qb (gI 1)))) (gLst (gA1 (gLst (gaV (gTup (gaV (gS "not") (gA1 (gX (aa 6) (gI 0))))) (gaV (gC (.v (.bl MO))) (gaV (gI 0) (gA1 (gI 0)))))))))) df) (Ae)
def Kl:GS:=ak (sIf (Az (gT (gOp (eqG MP) (aa 5) (gI 4))) (gT (gOp (dg λi j=>.bl (decide (i < j))) (gCB sumG (gaE (cq 1 [] (giL (aa 0)) (.one 0) dt (gX (aa 0) (gI 2))) gaN)) (aa 3)))) (ba (gOp cb (aa 0) (gLst (gA1 (gLst (gaV (gTup (gA1 (gS "note"))) (gaV (gC (.v (.bl MP))) (gaV (gI 1) (gA1 (gI 0)))))))))) df) (Ag)
def Km:GS:=ak (az 6 (gX (aa 0) (qb (gI 1)))) (Kl)
def Kn:GS:=ak (az 5 (fu 2 0 c6 (gaE (aa 4) (gA1 (gI 14))))) (Km)
def Oa:GS:=ak (ft 4 0 (au 1 ly (gA1 (aa 1)))) (Kn)
def vk:GP:=λds R=>∃(is:List jq)(it:jq) (cell:Int) (ws:LK) (m:Nat),ds=[.lst ((is++[it]).map br),iT cell,spT ws,iT m]/\SpOk ws/\Wds ws/\Gd ws m (is++[it])/\isz (is++[it])<=500/\∀a,a≠[]->Gd ws m a->isz a<=isz (is++[it])+1->R (.new (.lst (a.map br)))
def Gd.app {ws:LK}{m:Nat}{a b:List jq}(ga:∀i∈a,i.1.good ws)(c:∀i∈b,i.1.good ws)(h:ntot a+ntot b<=m):Gd ws m (a++b):=⟨λi hi=>by
  rcases cT.mp hi with h | h
  · show ga i h
  · show c i h,by rw[vj];show h⟩
def qi (i:jq):ntot [i]=i.1.nts:=by simp[ntot]
def qj (i:jq):isz [i]=i.1.size:=by simp[isz]
theorem uk:∀s:Say,s.isT=MO->s.nts=0
 | .nought,_ | .every,_ | .is _ _,_=>rfl
 | .no s,h=>uk s h
 | .either a b,h=>by
  simp only[Say.isT,cI]at h;simp only[Say.nts,uk a h.1,uk b h.2]
 | .both a b,h=>by
  simp only[Say.isT,cI]at h;simp only[Say.nts,uk a h.1,uk b h.2]
 | .note,h | .put _ _,h | .again _,h=>by cases h
def Cc {ws:LK}{i:jq}(h:i.1.good ws):∀j∈[i],j.1.good ws:=λj a=>by cases aR.mp a;show h
theorem vm:∀s:Say,s.nts<=s.size
 | .note=>aI _
 | .no s=>nQ (vm s)
 | .again s=>nQ (vm s)
 | .either a b=>nQ (nE (vm a) (vm b))
 | .both a b=>nQ (nE (vm a) (vm b))
 | .nought | .every | .is _ _ | .put _ _=>cH _
theorem S2:∀{is:List jq}{i:jq},i∈is->i.1.size<=isz is
 |j::is,i,h=>by
  have e:isz (j::is)=j.1.size+isz is:=(by simp[isz]);rcases aY.mp h with rfl | h;{lia};{have:=S2 h;lia}
theorem nsum:∀is:List jq,(is.map λi=>(i.1.nts:Int)).sum=((ntot is:Nat):Int)
 | []=>rfl
 |i::is=>by
  have e:ntot (i::is)=i.1.nts+ntot is:=(by simp[ntot]);rw[bE,List.sum_cons,nsum is,e,Int.natCast_add]
def du {E:t8}{m:M}(h:E.nx m):df E m:=h
def Ob:Pm (Oa) 7 2 4 (vk):=by
 intro ds R hl h;obtain⟨is,it,cell,ws,m,rfl,ok,wd,p,r,q⟩:_:=h;have w:∀i∈is,i.1.good ws:=λi hi=>p.good i (dR _ hi);have y:it.1.good ws:=p.good it (bY _ (nJ _));have few:=p.few;rw[vj,qi]at few;have sz:=r;rw[iq,qj]at sz;have u:=Ic is;have il:((is++[it]).map br).length=is.length+1:=(by rw[aC,aH];rfl);have J:(is++[it]).map br=is.map br++[br it]:=(by rw[bF];rfl);show{rfl,cell,rfl,λa b A C=>?_};show{rfl,_,_,_,rfl,rfl,A,C,#v[],#v[],λv a b v0 v1 A C=>?_};show bf (x:=br it) (by rw[J];show Vc _ _) ?_
 let S:M:={[KE (.v (.lst ((is++[it]).map br))),KE (.v (iT cell)),KE (.v (spT ws)),KE (.v (iT m)),KE (.c 1),KE (.v (iT v)),KE (.v (br it))],[MN,KE (N9 a b)]}
 let E:t8:={ nx:=λm=>R (.val (.v .non)),rt:=Dv R }
 have D:Ac E S:=by
  show{bg rfl,?_};obtain⟨x,hx,e⟩:_:=menuT (ns:=[0,1,2,3,2,0,1,0,1,0,1,0,1,0]) v0 v1;have L:0<=x/\x<=3:=by
   simp only[aY,dU,or_false]at hx;omega
  show bf e ?_;show{rfl,x,a,b,ws,rfl,rfl,L.1,L.2,A,C,ok,wd,λs a b A C ⟨sg,st,N,ss⟩=>?_};show{rfl,bg rfl,bg rfl,?_};show{by change((is++[it]).map br).length+1<=1000000;omega,?_};have z:=q (is++[it]++[(s,0)]) ∅ (Gd.app p.good (Cc sg) (by rw[qi];change _+s.nts<=m;rw[N];show p.few)) (by rw[iq _ [(s,0)],qj];change _+s.size<=_;omega);rw[bF]at z;have eb:s.isT=(!decide (V.int x=V.int 1)):=by
   rw[st,<-decide_not];show decide_eq_decide.mpr {λh z=>h (V.int.inj z),λh z=>h (by rw[z])}
  have G:br (s,0)=.lst [s.t,.v (.bl (!decide (V.int x=V.int 1))),iT 0,iT 0]:=by
   unfold br;rw[eb,N];rfl
  rw[bE,iO,G]at z;show z
 have O:bu ((is++[it]).map br) MN (KE (-1))=is.map br:=(by rw[J];show akp _ _);have iml:(is.map br).length=is.length:=aC ..;have T:Ad E S:=by
  by_cases g:6 < v;{show ifY (MX g) ?_;by_cases f:v < 12;{show ifY (MX f) ?_;by_cases H:(1:Int) < (((is++[it]).map br).length:Int);{show ifY (MX H) ?_;show{bg rfl,by change(0:Int) < 2;decide,?_};have U:=ia v (m:=2) #v[];obtain⟨l,hw,e⟩:_:=adk (ns:=["either","then"]) U.1 U.2;show bf e ?_;have zT:l="either"\/l="then":=(⇑hw);rcases jO is with rfl | ⟨I,i,rfl⟩;{simp at H};{rw[jP]at *;have e2:I++[i]++[it]=I++[i,it]:=∅;have g1:i.1.good ws:=w i ∅;have hn:(fv l i.1 it.1).nts=i.1.nts+it.1.nts:=(by unfold fv;split<;>rfl);have hz:(fv l i.1 it.1).size=i.1.size+it.1.size+1:=(by unfold fv;split<;>rfl);have o:(fv l i.1 it.1).good ws:=(by unfold fv;split;show(wz g1 y).1;show(wz g1 y).2);rw[vj,qi]at few;rw[aH,cG]at u;show{rfl,I,i,it,l,NA (λz=>[Tr.lst (z.map br),.v (.str l)]) e2,zT,(),λd=>?_};show q _ ∅ (Gd.app (λj hj=>w j (dR _ hj)) (Cc o) (by rw[qi];change _+(fv l i.1 it.1).nts<=m;omega)) ?_;rw[iq,qj,iq,iq,qj,qj];change _+(fv l i.1 it.1).size<=_;omega}};{show ifN (MW H) ?_;show du ?_;show D}};{show ifN (MW f) ?_;show ifN (c:=MP) rfl ?_;show du ?_;show D}};{show ifN (MW g) ?_;show ifN (c:=MP) rfl ?_;show du ?_;show D}
 have k5:Ae E S:=by
  show{rfl,?_};by_cases g:v=6
  ·show sfY (MX (by rw[g])) ?_;by_cases f:it.2 < 3
   ·show ifY (MX f) ?_;show{bg rfl,bg rfl,bg rfl,?_};change(bu ((is++[it]).map br) MN (KE (-1))).length+1<=1000000/\R (.new (.lst (bu ((is++[it]).map br) MN (KE (-1))++[.lst [.tup [.v (.str "again"),it.1.t],.v (.bl MP),iT it.1.nts,iT (it.2+1)]])));rw[O];show{(),?_};have o:(Say.again it.1).good ws:=λx hx=>by
     rcases aY.mp hx with rfl | hx;{trivial};{show y x hx}
    have z:=q (is++[(.again it.1,it.2+1)]) ∅ (Gd.app w (Cc o) (by rw[qi];show few)) (by rw[iq,qj,iq,qj];change _+(it.1.size+1)<=_;omega);rw[bF]at z;show z
   ·show ifN (MW f) ?_;show du ?_;show T
  ·show sfN (MW λe=>g (V.int.inj e)) ?_;show ifN (c:=MP) rfl ?_;show du ?_;show T
 have k4:Ag E S:=by
  show{rfl,?_};by_cases g:v=5
  ·show sfY (MX (by rw[g])) ?_;cases f:it.1.isT with
   |true=>
    show ifY f ?_;show{bg rfl,bg rfl,bg rfl,?_};change(bu ((is++[it]).map br) MN (KE (-1))).length+1<=1000000/\R (.new (.lst (bu ((is++[it]).map br) MN (KE (-1))++[.lst [.tup [.v (.str "not"),it.1.t],.v (.bl MO),iT 0,iT 0]])));rw[O];show{(),?_};have o:(Say.no it.1).good ws:=λx hx=>by
     rcases aY.mp hx with rfl | hx;{show f};{show y x hx}
    have z:=q (is++[(.no it.1,0)]) ∅ (Gd.app w (Cc o) (by rw[qi];show few)) (by rw[iq,qj,iq,qj];change _+(it.1.size+1)<=_;omega);have G:br (.no it.1,0)=.lst [.tup [.v (.str "not"),it.1.t],.v (.bl MO),iT 0,iT 0]:=by
     change Tr.lst [.tup [.v (.str "not"),it.1.t],.v (.bl it.1.isT),iT (it.1.nts:Nat),iT 0]=_;rw[f,uk _ f];rfl
    rw[bF,bE,iO,G]at z;show z
   |false=>
    show ifN f ?_;show du ?_;show k5
  ·show sfN (MW λe=>g (V.int.inj e)) ?_;show ifN (c:=MP) rfl ?_;show du ?_;show k5
 show{rfl,?_};by_cases g:v=4
 ·show sfY (MX (by rw[g])) ?_;show cy (out:=λi:jq=>iT i.1.nts) rfl _ _ (by change 0+_<=_;rw[aH];simp;omega) (λi hi Y hY=>hY) ?_;rw[bL];show{(is++[it]).map λi=>(i.1.nts:Int),by rw[cV];rfl,by rw[aC,aH];simp;omega,λn hn=>?_,?_};{obtain⟨i,hi,rfl⟩:_:=bI.mp hn;have h1:=vm i.1;have h2:=S2 hi;omega}
  ·rw[nsum];by_cases f:((ntot (is++[it]):Nat):Int) < (m:Int)
   ·show ifY (MX f) ?_;show{bg rfl,bg rfl,bg rfl,?_};show{by change((is++[it]).map br).length+1<=1000000;omega,?_};have o:(Say.note).good ws:=λx hx=>by
     cases aR.mp hx
     trivial
    have z:=q (is++[it]++[(.note,0)]) ∅ (Gd.app p.good (Cc o) (by rw[qi];change _+1<=m;omega)) (by rw[iq _ [(.note,0)],qj];show aI _);rw[bF]at z;show z
   ·show ifN (MW f) ?_;show du ?_;show k4
 ·show sfN (MW λe=>g (V.int.inj e)) ?_;show ifN (c:=MP) rfl ?_;show du ?_;show k4
def Kp:GS:=(ak (az 3 (gLst (gA1 (gLst (gaV (gTup (gA1 (gS "all"))) (gaV (gC (.v (.bl MO))) (gaV (gI 0) (gA1 (gI 0))))))))) (ak (fg [4] (giL (aa 0)) (.one 4) (az 3 (au 4 vk (gaV (aa 3) (gaV (aa 4) (gaV (aa 1) (gA1 (aa 2)))))))) (ak (yj [] (gT (gOp (dg λi j=>.bl (decide (j < i))) (gCB gx (gaE (aa 3) gaN)) (gI 1))) (az 3 (au 2 nv (gaV (aa 3) (gA1 (gX (gLst (gaV (gS "either") (gA1 (gS "then")))) (gOp (fq (λ_ j=>0 < j) λi j=>.int (i % j)) (gOp (fq (λ_ j=>0 < j) λi j=>.int (i % j)) (gCB gx (gaE (aa 3) gaN)) (gI 3)) (gI 2)))))))) (ba (gX (gX (aa 3) (gI 0)) (gI 0))))))
def ny:GP:=λds R=>∃(cs:LQ)(ws:LK) (m:Nat),ds=[.lst (cs.map iT),spT ws,iT m]/\cs.length<=28/\SpOk ws/\Wds ws/\∀s:Say,s.good ws->s.nts<=m->s.size<=100->R (.val s.t)
def Kq:Pm (Kp) 5 1 3 (ny):=by
 intro ds R T h;obtain⟨cs,ws,m,rfl,U,ok,y,q⟩:=h;show{bg rfl,bg rfl,bg rfl,?_};show ko (I:=λi g=>∃is:List jq,g={[KE (.v (.lst (cs.map iT))),KE (.v (spT ws)),KE (.v (iT m)),KE (.v (.lst (is.map br))),MN],[MN]}/\is≠[]/\Gd ws m is/\isz is<=1+i) {[(.every,0)],rfl,by simp,{λi hi=>?_,cH _},aI _} ?_ ?_
 ·cases aR.mp hi;intro x n;cases aR.mp n
  trivial
 ·rintro i c g N n ⟨is,rfl,ne,a,sz⟩ A;have hi:=bz n;rcases jO is with rfl | ⟨l,it,rfl⟩;{show MY rfl ne};{rw[jP]at *;show{rfl,l,it,c,ws,m,rfl,ok,y,a,(),λb o p r=>A _ {b,rfl,o,p,()}}}
 ·rintro g ⟨is,rfl,ne,a,sz⟩;have C:=Ic is;show{λk g=>∃is:List jq,g={[KE (.v (.lst (cs.map iT))),KE (.v (spT ws)),KE (.v (iT m)),KE (.v (.lst (is.map br))),MN],[MN]}/\is≠[]/\Gd ws m is/\isz is+is.length<=60/\k=is.length,{_,is,rfl,ne,a,(),rfl},?_};clear sz C a ne is;rintro k g ⟨is,rfl,ne,a,sz,rfl⟩;have D:(is.map br).length=is.length:=aC ..;by_cases c:(1:Int) < ((is.map br).length:Int);{show ifY (MX c) ?_;show{λg=>∃b:List jq,g={[KE (.v (.lst (cs.map iT))),KE (.v (spT ws)),KE (.v (iT m)),KE (.v (.lst (b.map br))),MN],[MN]}/\b≠[]/\Gd ws m b/\isz b+b.length<=60/\b.length < is.length,?_,?_};{rintro g ⟨b,rfl,o,p,r,E⟩;show{_,E,b,rfl,o,p,r,rfl}};{show{bg rfl,by change(0:Int) < 3;decide,by change(0:Int) < 2;decide,?_};have s:=ia ((((is.map br).length:Nat):Int) % 3) (m:=2) #v[];obtain⟨f,hw,e⟩:=adk (ns:=["either","then"]) s.1 s.2;show bf e ?_;have G:f="either"\/f="then":=(⇑hw);rcases jO is with rfl | ⟨H,it,rfl⟩;{show MY rfl ne};rw[jP]at *;rcases jO H with rfl | ⟨l,i,rfl⟩;{simp at c};rw[jP]at *;have J:l++[i]++[it]=l++[i,it]:=∅;have u:i.1.good ws:=a.good i ∅;have w:it.1.good ws:=a.good it ∅;have Y:(fv f i.1 it.1).nts=i.1.nts+it.1.nts:=(by unfold fv;split<;>rfl);have hz:(fv f i.1 it.1).size=i.1.size+it.1.size+1:=(by unfold fv;split<;>rfl);have L:(fv f i.1 it.1).good ws:=(by unfold fv;split;show(wz u w).1;show(wz u w).2);have few:=a.few;rw[vj,vj,qi,qi]at few;rw[iq,iq,qj,qj,aH,aH,cG,cG]at sz;show{rfl,l,i,it,f,NA (λz=>[Tr.lst (z.map br),.v (.str f)]) J,G,(),λd=>?_};show{l++[(fv f i.1 it.1,d)],rfl,by simp,Gd.app (λj O=>a.good j (by simp[O])) (Cc L) (by rw[qi];change _+(fv f i.1 it.1).nts<=m;lia),?_,?_};{rw[iq,qj,aH,cG];change _+(fv f i.1 it.1).size+_<=_;lia};{rw[aH,aH,aH];simp}}}
  ·show ifN (MW c) ?_;obtain⟨i,rfl⟩:∃i,is=[i]:=by
    rcases is with _ | ⟨i,_ | ⟨j,is⟩⟩;{show MY rfl ne};{show#v[i,rfl]};{simp at c;lia}
   have few:=a.few;rw[qi]at few;rw[qj]at sz;show q i.1 (a.good i ∅) few ()
open PySem.Deep
def more (g:LQ->LJ)(f:LJ)(l:LQ):LJ:=f++(g l).filter λm=>!decide (m∈f)
open Classical in
def agp (cs:L1):mul cs=prd cs:=by
 have h:∀cs k,cs.foldl (· * ·) k=k * prd cs:=λcs=>by
  induction cs with
  |nil=>intro k;change k=k * 1;lia
  |cons c cs a=>intro k;rw[rW,a,tT];rfl
 have:=h cs 1;rw[Nat.one_mul]at this;show this
def Ys (ws:LK):(LL ws).length=prd (ws.map (·.2)):=by rw[ym,agp]
def kL (l:LQ):CW:=l.map Sum.inl
abbrev stpT (ls:LJ)(g:LQ->LJ):Tr:=.dct (ls.map kL) (ls.map λl=>ltT (g l))
def gStep (n:Nat):GP:=λds R=>∃ws s,ds=[spT ws,ltT (LL ws),s.t]/\SpOk ws/\(LL ws).length<=24/\s.good ws/\s.nts=0/\s.size<=n/\R (.new (stpT (LL ws) (Ga ws s)))
def tP (k:Fin 9):decide (V.str (gq k)=V.str "put")=decide (k=4):=(⋯:∀k:Fin 9,decide (V.str (gq k)=V.str "put")=decide (k=4)) k
theorem Oc:∀{ws i p c},wt f ws i=KE (p,c)->∃k,p=i+k/\(ws.map (·.1)).idxOf f=k/\f∈ws.map (·.1)/\k < ws.length
 | [],_,_,_,h=>by cases h
 | (g,j)::ws,i,p,c,h=>by
  unfold wt at h;by_cases e:g=f;{rw[MU e]at h;cases h;show{0,rfl,?_,?_,Nat.succ_pos _};{rw[bE,e,List.idxOf_cons_self]};{rw[bE,e];show aP}};{rw[MV e]at h;obtain⟨k,l,a,b,d⟩:=Oc h;show{k+1,(),?_,?_,Nat.succ_lt_succ d};{rw[bE,List.idxOf_cons,show(g == f)=MP from beq_eq_false_iff_ne.mpr e];change(ws.map (·.1)).idxOf f+1=k+1;rw[a]};{rw[bE];show aT _ b}}
end PB
namespace VL
open PySem L2 PySem.Deep PySem.SeqAt
mutual
def immT:Tr->Bool
 | .v _=>MO
 | .tup l=>immL l
 |_=>MP
def immL:DQ->Bool
 | []=>MO
 |d::l=>immT d && immL l
end
open Classical in
def ownR (Q:Ev->Prop):Ev->Prop
 | .val (.lst l)=>immL l=MO/\Q (.new (.lst l))
 |_=>False
def Yt (n:Nat)(g:GP)(ga:GA):GE:=λm Q=>ga m λa b=>xi a λds=>ds.length=n/\immL ds=MO/\g ds (ownR λc=>Q c b)
def lendR (Q:Ev->Prop):Ev->Prop
 | .val d=>immT d=MO/\Q (.val d)
 | .new (.lst l)=>immL l=MO/\Q (.new (.lst l))
 |_=>False
def Ge (n p:Nat)(g:GP)(ga:GA):GE:=λm Q=>ga m λb a=>Uu p b λds j=>ds.length+1=n/\lk a (.cel j) λd=>g (ins p d ds) (lendR λc=>Q c a)
def Fo.void (F:Fd K mg x st ps f fd)(h:∀ds R,¬g ds R):Fo P w K mg base k x ps (spP #v[P,w,K] n g):=
 ⟨f,fd,⟨λvs H Q E a=>by obtain⟨_,_,_,_,_,_,_,z,_⟩:=a;show(h _ _ z).elim,λA outer s H args us vs Q E c e b r a=>by obtain⟨_,_,_,_,_,_,_,z,_⟩:=a;show(h _ _ z).elim⟩,F.at_,F.fn.kp,F.bd⟩
open PyProof.Rows (envOfC)
end VL
namespace PySem
namespace TupD
open SetTable TupSet Deep PyProof.Rows PySem.W
section
variable (prog:aQ)(w:bB)
def Li (h:MR)(e:Int×aK)(x:CW):Prop:=e.1=ay prog w x/\∃a,e.2=.ref a/\IsDeep prog w h x a
def EntsOf (h:MR):List (Int×aK)->CY->Prop
 | [],[]=>True
 |e::a,x::xs=>Li prog w h e x/\EntsOf h a xs
 |_,_=>False
end
section
variable {prog:aQ}{w:bB}
theorem EntsOf.length:∀{a xs},EntsOf prog w h a xs->a.length=xs.length
 | [],[],_=>rfl
 | [],_::_,h=>h.elim
 |_::_,[],h=>h.elim
 |_::a,_::xs,h=>by simp[EntsOf.length h.2]
theorem EntsOf.get:∀{b:List (Int×aK)}{xs:CY}(_:EntsOf prog w h b xs) {i:Nat}{e:Int×aK},b[i]?=KE e->∃x,xs[i]?=KE x/\Li prog w h e x
 | [],[],_,i,e,a=>by simp at a
 | [],_::_,h,_,_,_=>h.elim
 |_::_,[],h,_,_,_=>h.elim
 |e'::b,x::xs,h,0,e,a=>by simp at a;subst a;show#v[x,rfl,h.1]
 |e'::b,x::xs,h,i+1,e,a=>by simpa using EntsOf.get h.2 (i:=i) (⇑a)
theorem EntsOf.hash:∀{a:List (Int×aK)}{xs:CY}(_:EntsOf prog w h a xs) (i:Nat),((a[i]?).map (·.1)).getD 0=((xs[i]?).map (ay prog w)).getD 0
 | [],[],_,i=>by simp
 | [],_::_,h,_=>h.elim
 |_::_,[],h,_=>h.elim
 |e'::a,x::xs,h,0=>by simpa using h.1.1
 |e'::a,x::xs,h,i+1=>by simpa using EntsOf.hash h.2 i
theorem EntsOf.take:∀{a:List (Int×aK)}{xs:CY}(_:EntsOf prog w h a xs) (p:Nat),EntsOf prog w h (a.take p) (xs.take p)
 | [],[],_,p=>by simp[EntsOf]
 | [],_::_,h,_=>h.elim
 |_::_,[],h,_=>h.elim
 |e'::a,x::xs,h,0=>by simp[EntsOf]
 |e'::a,x::xs,h,p+1=>by simpa[EntsOf]using{h.1,EntsOf.take h.2 p}
theorem EntsOf.drop:∀{a:List (Int×aK)}{xs:CY}(_:EntsOf prog w h a xs) (p:Nat),EntsOf prog w h (a.drop p) (xs.drop p)
 | [],[],_,p=>by simp[EntsOf]
 | [],_::_,h,_=>h.elim
 |_::_,[],h,_=>h.elim
 |e'::a,x::xs,h,0=>h
 |e'::a,x::xs,h,p+1=>by simpa using EntsOf.drop h.2 p
theorem EntsOf.app:∀{a b:List (Int×aK)}{xs c:CY}(_:EntsOf prog w h a xs) (_:EntsOf prog w h b c),EntsOf prog w h (a++b) (xs++c)
 | [],_,[],_,_,h'=>h'
 | [],_,_::_,_,h,_=>h.elim
 |_::_,_,[],_,h,_=>h.elim
 |e'::a,_,x::xs,_,h,h'=>{h.1,EntsOf.app h.2 h'}
theorem EntsOf.imp (k:∀x a,IsDeep prog w h x a->IsDeep prog w h' x a):∀{b:List (Int×aK)}{xs:CY}(_:EntsOf prog w h b xs),EntsOf prog w h' b xs
 | [],[],_=>trivial
 | [],_::_,h=>h.elim
 |_::_,[],h=>h.elim
 |e'::b,x::xs,h=>{{h.1.1,h.1.2.elim λa c=>{a,c.1,k _ _ c.2}},EntsOf.imp k h.2}
variable {A:bX}{E:aK->aG->Prop}{s:aG}
def Rm (hk:jI (eZ prog w) s.heap l b)(h:Q MO s):aJ (aV prog w) A (oA (n+2) (.ref b)) Q E s:=by
 have d:=hk.typeIs;obtain⟨o,items,m,e,_,hd,hi⟩:_:=hk;unfold oA;show aA (gG d F.slot_tuple_hash.lookup ?_);dsimp only;show aA (eI e hd ?_);show aA ?_;change aJ _ _ (forIn items _ _) _ _ s;rw[<-gM];show eY _ (λrest r s'=>r.1=MN/\s'=s/\∀v∈rest,∃k t,v=jZ k t) _ ?_ ?_ _ _ {rfl,rfl,items_int hi};{rintro v rest r s' ⟨a,rfl,c⟩;obtain⟨k,t,rfl⟩:_:=c v aP;show aA (m:=oA (n+1) (.int k t)) (wpAny_pure ?_);simp only[fJ,bM,if_false];show wpAny_pure {rfl,rfl,λu f=>c u (aT _ f)}};{rintro⟨g,i⟩ s' ⟨a,rfl,_⟩;simp only at a;subst a;show wpAny_pure h}
def Ie (hk:IsDeep prog w s.heap ks a)(h:Q MO s):aJ (aV prog w) A (oA 8 (.ref a)) Q E s:=by
 have e:=hk.typeIs;obtain⟨o,items,m,f,_,hd,hi⟩:_:=hk;unfold oA;show aA (gG e F.slot_tuple_hash.lookup ?_);dsimp only;show aA (eI f hd ?_);show aA ?_;change aJ _ _ (forIn items _ _) _ _ s;rw[<-gM];show eY _ (λrest r s'=>r.1=MN/\s'=s/\∃left,ItemsR prog w s.heap left rest) _ ?_ ?_ _ _ #v[rfl,rfl,ks,hi]
 ·rintro v rest r s' ⟨d,rfl,left,c⟩;cases left with
  |nil=>show c.elim
  |cons k left=>
   have go:∀{R},R MO s'->aJ (aV prog w) A (oA 7 v) R E s':=λ{R} q=>by
    cases k with
    |inl i=>
     obtain⟨t,rfl⟩:_:=oj c.1;show wpAny_pure q
    |inr l=>
     obtain⟨b,rfl,g⟩:_:=c.1;show Rm (n:=5) g q
   show aA (go ?_);simp only[fJ,bM,if_false];show wpAny_pure #v[rfl,rfl,left,c.2]
 ·rintro⟨j,p⟩ s' ⟨d,rfl,_⟩;simp only at d;subst d;show wpAny_pure h
def agq (hk:jI (eZ prog w) s.heap l b)(h:Q MP s):aJ (aV prog w) A (jV (n+2) (.ref b)) Q E s:=by
 have d:=hk.typeIs;obtain⟨o,items,m,e,g,hd,hi⟩:_:=hk;unfold jV;show aA (iN d ?_);dsimp only;rw[MU #v[]];show aA (wpAny_pure ?_);simp only[fJ,bM,if_false];show aA (eI e hd ?_);dsimp only;show aA ?_;change aJ _ _ (forIn items _ _) _ _ s;rw[<-gM];show eY _ (λrest r s'=>r.1=MN/\s'=s/\∀v∈rest,∃k t,v=jZ k t) _ ?_ ?_ _ _ {rfl,rfl,items_int hi};{rintro v rest r s' ⟨a,rfl,c⟩;obtain⟨k,t,rfl⟩:_:=c v aP;show aA (m:=jV (n+1) (.int k t)) (wpAny_pure ?_);simp only[bM,if_false];show wpAny_pure {rfl,rfl,λu f=>c u (aT _ f)}};{rintro⟨i,j⟩ s' ⟨a,rfl,_⟩;simp only at a;subst a;show wpAny_pure h}
def C4 (hk:IsDeep prog w s.heap ks a)(h:Q MP s):aJ (aV prog w) A (jV 8 (.ref a)) Q E s:=by
 have e:=hk.typeIs;obtain⟨o,items,m,f,j,hd,hi⟩:_:=hk;unfold jV;show aA (iN e ?_);dsimp only;rw[MU #v[]];show aA (wpAny_pure ?_);simp only[fJ,bM,if_false];show aA (eI f hd ?_);dsimp only;show aA ?_;change aJ _ _ (forIn items _ _) _ _ s;rw[<-gM];show eY _ (λrest r s'=>r.1=MN/\s'=s/\∃left,ItemsR prog w s.heap left rest) _ ?_ ?_ _ _ #v[rfl,rfl,ks,hi]
 ·rintro v rest r s' ⟨d,rfl,left,c⟩;cases left with
  |nil=>show c.elim
  |cons k left=>
   have go:∀{R},R MP s'->aJ (aV prog w) A (jV 7 v) R E s':=λ{R} q=>by
    cases k with
    |inl i=>
     obtain⟨t,rfl⟩:_:=oj c.1;show wpAny_pure q
    |inr l=>
     obtain⟨b,rfl,g⟩:_:=c.1;show agq (n:=5) g q
   show aA (go ?_);simp only[bM,if_false];show wpAny_pure #v[rfl,rfl,left,c.2]
 ·rintro⟨p,u⟩ s' ⟨d,rfl,_⟩;simp only at d;subst d;show wpAny_pure h
def Vd {x:CW}{stored:AJ}{Q:Bool->aG->Prop}(d:IsDeep prog w s.heap x a)(hs:∀v∈stored,∃b y,v=.ref b/\IsDeep prog w s.heap y b)(h:Q MP s) :
  aJ (aV prog w) A (searchCouldBeSeen (.ref a) stored) Q E s:=by
 unfold searchCouldBeSeen;show aA ?_;show eY _ (λrest r s'=>r.1=MN/\s'=s/\∀v∈rest,∃b y,v=.ref b/\IsDeep prog w s.heap y b) _ ?_ ?_ _ _ #v[rfl,rfl,hs];{rintro v rest r s' ⟨c,rfl,e⟩;obtain⟨b,y,rfl,f⟩:_:=e v aP;have g:∀u∈rest,∃b y,u=.ref b/\IsDeep prog w s'.heap y b:=λu i=>e u (aT _ i);dsimp only[carriedByValue];show acv ?_ ?_;{show wpAny_pure #v[rfl,rfl,g]};{show aA (yr d ?_);simp only[fJ,bM,if_false];show aA (yr f ?_);simp only[fJ,bM,if_false];show aA (C4 d ?_);simp only[bM,if_false];show aA (C4 f ?_);simp only[bM,if_false];show wpAny_pure #v[rfl,rfl,g]}};{rintro⟨j,l⟩ s' ⟨c,rfl,_⟩;simp only at c;subst c;show wpAny_pure h}
def rh (hk:∀b o,h0.get? b=KE o->h.get? b=KE o)(k:IsDeep prog w h0 x a):IsDeep prog w h x a:=k.mono λb q e _=>hk b q e
end
def ltI:I2->I2->Bool
 | .inl a,.inl b=>decide (a < b)
 | .inl _,.inr _=>MO
 | .inr _,.inl _=>MP
 | .inr l,.inr m=>TupSet.lexLt l m
theorem Yu:∀{a b},ltI a b=MO->ltI b a=MP
 | .inl a,.inl b,h=>by simp[ltI]at h ⊢;omega
 | .inl _,.inr _,_=>rfl
 | .inr l,.inr m,h=>TupSet.lex_asymm h
theorem Yv:∀{a b},ltI a b=MP->ltI b a=MP->a=b
 | .inl a,.inl b,h,h'=>by simp[ltI]at h h';rw[show a=b by omega]
 | .inl _,.inr _,h,_=>nomatch h
 | .inr _,.inl _,_,h=>nomatch h
 | .inr l,.inr m,h,h'=>by rw[TupSet.lex_total l m h h']
theorem Yw:∀{a b c},ltI a b=MO->ltI b c=MO->ltI a c=MO
 | .inl a,.inl b,.inl c,h,h'=>by simp[ltI]at h h' ⊢;omega
 | .inl _,_,.inr _,_,_=>rfl
 | .inl _,.inr _,.inl _,_,h=>nomatch h
 | .inr _,.inl _,_,h,_=>nomatch h
 | .inr _,.inr _,.inl _,_,h=>nomatch h
 | .inr l,.inr m,.inr n,h,h'=>TupSet.lex_trans l m n h h'
def fw:CW->CW->Bool
 | [],[]=>MP
 | [],_::_=>MO
 |_::_,[]=>MP
 |a::c,b::bs=>if a=b then fw c bs else ltI a b
theorem mh:∀x,fw x x=MP
 | []=>rfl
 |a::b=>by simp[fw,mh b]
theorem lex_total:∀x y,fw x y=MP->fw y x=MP->x=y
 | [],[],_,_=>rfl
 | [],_::_,h,_=>nomatch h
 |_::_,[],_,h=>nomatch h
 |a::f,b::bs,c,d=>by
  by_cases e:a=b;{subst e;simp only[fw,if_true]at c d;rw[lex_total f bs c d]};{have g:¬b=a:=λh=>e h.symm;simp only[fw,MV e,MV g]at c d;show MY (Yv c d) e}
theorem lex_trans:∀x y z,fw x y=MO->fw y z=MO->fw x z=MO
 | [],[],_,h,_=>nomatch h
 | [],_::_,[],_,h=>nomatch h
 | [],_::_,_::_,_,_=>rfl
 |_::_,[],_,h,_=>nomatch h
 |_::_,_::_,[],_,h=>nomatch h
 |a::j,b::bs,c::cs,f,d=>by
  by_cases i:a=b;{subst i;by_cases g:a=c;{subst g;simp only[fw,if_true]at f d ⊢;show lex_trans j bs cs f d};{simp only[fw,MV g]at d ⊢;show d}};{by_cases g:b=c;{subst g;simp only[fw,MV i]at f ⊢;show f};{simp only[fw,MV i,MV g]at f d;have l:=Yw f d;have m:¬a=c:=λe=>(by subst e;rw[Yu f]at d;cases d);simp only[fw,MV m];show l}}
def lex_asymm (h:fw x y=MO):fw y x=MP:=by
 cases h':fw y x with
 |false=>rfl
 |true=>have:=lex_trans _ _ _ h h';rw[mh]at this;show nomatch this
def pz (x y:CW):Prop:=fw y x=MP
def Jy (b:pz x y)(a:pz y z):pz x z:=by
 unfold pz at *;cases h:fw z x with
 |false=>rfl
 |true=>
  by_cases e:x=y;{subst e;rw[h]at a;show a}
  ·have c:fw x y=MO:=by
    cases d:fw x y with
    |true=>rfl
    |false=>show MY (lex_total _ _ d b) e
   have:=lex_trans _ _ _ h c;rw[this]at a;show nomatch a
def Od (a:pz x y)(b:pz y x):x=y:=lex_total _ _ b a
def oy (l:CY):Prop:=l.Pairwise pz
theorem Ah:∀{l c},l.Perm c->oy l->oy c->l=c
 | [],c,p,_,_=>by rw[List.Perm.nil_eq p]
 |a::l,[],p,_,_=>by have:=p.length_eq;simp at this
 |a::l,b::c,p,s,s'=>by
  have d:=fQ.mp s;have f:=fQ.mp s';have g:a=b:=by
   have ha:a∈b::c:=p.mem_iff.mp aP;have hb:b∈a::l:=p.mem_iff.mpr aP;rcases aY.mp ha with e | ha;{show e};{rcases aY.mp hb with e | hb;{show e.symm};{show Od (d.1 b hb) (f.1 a ha)}}
  subst g;rw[Ah (List.Perm.cons_inv p) d.2 f.2]
def yt (x:CW):CY->CY
 | []=>[x]
 |y::l=>if fw y x=MO then y::yt x l else x::y::l
def isort:CY->CY
 | []=>[]
 |x::l=>yt x (isort l)
theorem Be (x:CW):∀l,(yt x l).Perm (x::l)
 | []=>lI _
 |y::l=>by
  unfold yt
  split;{show((Be x l).cons y).trans (sU _ _ _)};{show lI _}
theorem isort_perm:∀l,(isort l).Perm l
 | []=>lI _
 |x::l=>(Be x _).trans ((isort_perm l).cons x)
theorem C5 (x:CW):∀l,oy l->oy (yt x l)
 | [],_=>List.pairwise_singleton _ _
 |y::l,s=>by
  have a:=fQ.mp s;unfold yt
  split
  ·rename_i h
   show fQ.mpr {λz hz=>?_,C5 x l a.2};rcases aY.mp ((Be x l).mem_iff.mp hz)with e | hz;{subst e;show lex_asymm h};{show a.1 z hz}
  ·rename_i h
   have b:pz x y:=(by unfold pz;simpa using h);show fQ.mpr {λz hz=>?_,s};rcases aY.mp hz with e | hz;{subst e;show b};{show Jy b (a.1 z hz)}
theorem qk:∀l,oy (isort l)
 | []=>qS
 |x::l=>C5 x _ (qk l)
def D9 (p:a.Perm l)(s:oy a):a=isort l:=Ah (p.trans (isort_perm l).symm) s (qk l)
def ltX (xs:CY)(i j:Nat):Bool:=fw (xs.getD i []) (xs.getD j [])
def KeysL (prog:aQ)(w:bB)(h:MR):AJ->CY->Prop
 | [],[]=>True
 |v::vs,x::xs=>(∃a,v=.ref a/\IsDeep prog w h x a)/\KeysL prog w h vs xs
 |_,_=>False
section
variable {prog:aQ}{w:bB}
theorem KeysL.length:∀{vs xs},KeysL prog w h vs xs->vs.length=xs.length
 | [],[],_=>rfl
 | [],_::_,h=>h.elim
 |_::_,[],h=>h.elim
 |_::_,_::_,h=>by simp[KeysL.length h.2]
theorem KeysL.at:∀{vs:AJ}{xs:CY}(_:KeysL prog w h vs xs) {i:Nat},i < xs.length->∃a,vs.getD i .none=.ref a/\IsDeep prog w h (xs.getD i []) a
 | [],[],_,i,hi=>by simp at hi
 | [],_::_,h,_,_=>h.elim
 |_::_,[],h,_,_=>h.elim
 |v::vs,x::xs,h,0,_=>by simpa using h.1
 |v::vs,x::xs,h,i+1,hi=>by simpa using KeysL.at h.2 (i:=i) (⇑hi)
theorem KeysL.imp (k:∀x a,IsDeep prog w h x a->IsDeep prog w h' x a):∀{vs:AJ}{xs:CY}(_:KeysL prog w h vs xs),KeysL prog w h' vs xs
 | [],[],_=>trivial
 | [],_::_,h=>h.elim
 |_::_,[],h=>h.elim
 |v::vs,x::xs,h=>{h.1.elim λa b=>{a,b.1,k _ _ b.2},KeysL.imp k h.2}
theorem KeysL.pick (k:KeysL prog w h vs xs):∀(p:L1),(∀i∈p,i < xs.length)->KeysL prog w h (p.map λi=>vs.getD i .none) (p.map λi=>xs.getD i [])
 | [],_=>trivial
 |i::p,a=>{k.at (a i aP),KeysL.pick k p λj b=>a j (aT _ b)}
def KeysL.perm (p:a.Perm vs):∀{xs},KeysL prog w h vs xs->∃ys,ys.Perm xs/\KeysL prog w h a ys:=by
 induction p with
 |nil=>intro xs k;show{xs,lI _,k}
 |cons v p c=>
  intro xs k
  match xs,k with
  | [],k=>show k.elim
  |x::xs,k=>
   obtain⟨ys,b,k'⟩:_:=c k.2;show{x::ys,b.cons x,k.1,k'}
 |swap u v l=>
  intro xs k
  match xs,k with
  | [],k=>show k.elim
  | [x],k=>show k.2.elim
  |x::y::xs,k=>show{y::x::xs,sU _ _ _,k.2.1,k.1,k.2.2}
 |trans p q d e=>
  intro xs k;obtain⟨ys,b,f⟩:_:=e k;obtain⟨g,hz,i⟩:_:=d f;show{g,hz.trans b,i}
theorem EntsOf.keys:∀{a xs},EntsOf prog w h a xs->KeysL prog w h (a.map (·.2)) xs
 | [],[],_=>trivial
 | [],_::_,h=>h.elim
 |_::_,[],h=>h.elim
 |_::_,_::_,h=>{h.1.2,EntsOf.keys h.2}
def IsP (x:CW):Prop:=∃k l,x=[.inl k,.inr l]
theorem KeysL.firsts:∀{vs xs},KeysL prog w h vs xs->(∀x∈xs,IsP x)->∃fs,KatTups h vs fs/\fs.length=vs.length/\∀v∈fs,∃k t,v=jZ k t
 | [],[],_,_=>{[],trivial,rfl,by simp}
 | [],_::_,h,_=>h.elim
 |_::_,[],h,_=>h.elim
 |v::vs,x::xs,k,b=>by
  obtain⟨⟨a,rfl,o,items,n,c,d,hd,hi⟩,e⟩:_:=k;obtain⟨fs,g,i,j⟩:_:=KeysL.firsts e λy m=>b y (aT _ m);obtain⟨p,q,rfl⟩:_:=b x aP;obtain⟨l⟩:_:=items;dsimp only at hi
  match l,hi with
  | [],hi=>show hi.elim
  |f::r,hi=>
   show{f::fs,KatTups.cons c d hd rfl g,by simp[i],λv hv=>?_};rcases aY.mp hv with rfl | hv;{show{p,oj hi.1}};{show j v hv}
variable {A:bX}{E:aK->aG->Prop}{s:aG}
theorem Oe:∀x y,HT.lexLt x y=TupSet.lexLt x y
 | [],[]=>rfl
 | [],_::_=>rfl
 |_::_,[]=>rfl
 |a::c,b::bs=>by rw[HT.lexLt_cons,TupSet.lexLt,Oe c bs]
theorem Ig:∀{x vs},ItemsAre (eZ prog w) x vs->lF vs x
 |_,_,.nil=>.nil
 |_,_,.cons (k:=k) h t=>by obtain⟨a,rfl⟩:_:=oj h;show .cons _ _ (Ig t)
theorem two:∀{vs},ItemsR prog w h [a,b] vs->∃c d,vs=[c,d]/\sh prog w h a c/\sh prog w h b d
 | [],q=>q.elim
 | [_],q=>q.2.elim
 | [_,_],q=>{_,_,rfl,q.1,q.2.1}
 |_::_::_::_,q=>q.2.2.elim
def aks (hu:A.units+2 < cK)(D:IsP x)(G:IsP y)(H:IsDeep prog w s.heap x a)(I:IsDeep prog w s.heap y c)(h:Q (fw x y) s) :
  aJ (aV prog w) A (keyLt' (tuples' b) (.ref a) (.ref c)) Q E s:=by
 obtain⟨p,l,rfl⟩:_:=D;obtain⟨q,m,rfl⟩:_:=G;obtain⟨o,its,n,J,_,hd,hi⟩:_:=H;obtain⟨o',its',n',L,_,N,O⟩:_:=I;obtain⟨v1,v2,i,j,r⟩:_:=two hi;obtain⟨u1,u2,d,u,C⟩:_:=two O;obtain⟨its⟩:_:=its;obtain⟨its'⟩:_:=its';dsimp only at i d;subst i d;show kat_lt J hd L N (kat_cons (G6 () j u ?_));by_cases e:(Sum.inl p:I2)=Sum.inl q
 ·rw[MX e];show kat_yes (kat_cons (G6 () r C ?_));have T:p=q:=(by injection e);subst T;by_cases d:(Sum.inr l:I2)=Sum.inr m;{rw[MX d];show kat_yes (kat_nil ?_);have U:l=m:=(by injection d);subst U;rw[mh]at h;show h}
  ·rw[MW d];show kat_no ?_;obtain⟨b1,rfl,Y⟩:_:=r;obtain⟨b2,rfl,k2⟩:_:=C;have h':Q (HT.lexLt l m) s:=by
    rw[Oe];have:fw [Sum.inl p,Sum.inr l] [Sum.inl p,Sum.inr m]=TupSet.lexLt l m:=(by simp only[fw,if_true,MV d];rfl);rw[this]at h;show h
   have z:(b && (0+1 == 0))=MP:=∅;rw[z];obtain⟨o1,f,n1,g1,c1,d1,r1⟩:_:=Y;obtain⟨o2,g,n2,g2,c2,d2,r2⟩:_:=k2;show kat_one _ _ (HT.lt_tupInts (items:=f) (items2:=g) #v[o1,g1,c1,n1,d1] #v[o2,g2,c2,n2,d2] (Ig r1) (Ig r2) () (by show h'))
 ·rw[MW e];show kat_no ?_;obtain⟨t1,rfl⟩:_:=oj j;obtain⟨t2,rfl⟩:_:=oj u;have h':Q (decide (p < q)) s:=by
   have:fw [Sum.inl p,Sum.inr l] [Sum.inl q,Sum.inr m]=decide (p < q):=(by simp only[fw,MV e];rfl);rw[this]at h;show h
  cases(b && 0 == 0)with
  |true=>show oneLt_int h'
  |false=>show kat_one _ _ (P.lt_int (by show h'))
def Ve (x:IsDeep prog w h ks a)(f:h.get? d=KE (fB "list" vs n))(hs:∀b o,b≠d->h.get? b=KE o->h'.get? b=KE o):IsDeep prog w h' ks a:=
 x.mono λb q e c=>hs b q (λz=>by subst z;rw[f]at e;cases e;simp[fB]at c) e
end
end TupD
namespace TupD
open SetTable TupSet Deep PyProof.Rows PySem.W
def Of {xs:CY}(h:i < xs.length):xs.getD i []∈xs:=by
 rw[bN,aB h];show fS h
def agr (xs:CY):Ord (ltX xs) where
 asym _ _ h:=lex_asymm h
 tr i j k h1 h2:=Jy (x:=xs.getD i []) (y:=xs.getD j []) (z:=xs.getD k []) h1 h2
def Og (xs:CY):(bA xs.length).map (λi=>xs.getD i [])=xs:=by
 apply iZ;intro i;rw[aN];by_cases h:i < xs.length;{rw[cP h];simp[bN,aB h]};{rw[cU (⇑h),cU ()];rfl}
def sortG (a:1<=xs.length) :
  rn xs.length (kE xs.length)=MO/\(c8 (ltX xs) (kE xs.length)).toList.map (λi=>xs.getD i [])=isort xs/\∀i∈(c8 (ltX xs) (kE xs.length)).toList,i < xs.length:=by
 obtain⟨u,p⟩:_:=afg (agr xs) a;show{aan a,D9 ?_ ?_,λi hi=>by simpa using p.mem_iff.mp hi};{have:=p.map (λi=>xs.getD i []);rw[Og]at this;show this}
 ·have b:(c8 (ltX xs) (kE xs.length)).size=xs.length:=(by rw[<-cM,p.length_eq,bP]);generalize c8 (ltX xs) (kE xs.length)=q at u b;rw[oy,List.pairwise_map,List.pairwise_iff_getElem];intro i j hi c d;have e:∀k hk,q.toList[k]=q.getD k 0:=λk hk=>by
   rw[cJ,<-bS,aB hk];rfl
  rw[e,e];show u i j d (by rw[cM,b]at c;show c)
section
variable {prog:aQ}{w:bB}{A:bX}{E:aK->aG->Prop}{s:aG}
def Oh (r:s.heap.get? a=KE (fB "list" vs.toArray n))(J:KeysL prog w g vs xs)(kg:∀x c,IsDeep prog w g x c->IsDeep prog w s.heap x c)(hu:A.units+2 < cK)(L:∀x∈xs,IsP x)(h3:xs.length < 64)
  (h:∀h' out c,(∀b o,b≠a->s.heap.get? b=KE o->h'.get? b=KE o)->h'.get? a=KE (fB "list" (fN out) c)->KeysL prog w g out (isort xs)->P (.done (.ret .none)) { s with heap:=h' }) :
  aJ (aV prog w) A (hU.«list.sort» {[.ref a],[]}) P E s:=by
 have hK:KeysL prog w s.heap vs xs:=J.imp kg;have N:=hK.length;have halt:a < ‹s›:=aS r;have s1:=eM s.heap a (fA λ_=>(#[]:AW));obtain⟨O,G'⟩:∃O,(s.heap.update a (fA λ_=>(#[]:AW))).get? a=KE (fB "list" #[] O):={_,get?_update_seq r λ_=>#[]};have m:(((s.heap.update a (fA λ_=>(#[]:AW))).push (fB "tuple" vs.toArray 0)).push (fB "list" #[] 0)).get? a=KE (fB "list" #[] O):=
  aE _ (aE _ G')
 have kp:∀b o,b≠a->s.heap.get? b=KE o->(((s.heap.update a (fA λ_=>(#[]:AW))).push (fB "tuple" vs.toArray 0)).push (fB "list" #[] 0)).get? b=KE o:=λb o q e=>
  aE _ (aE _ (by rw[s1.2 b q];show e))
 generalize hH:((s.heap.update a (fA λ_=>(#[]:AW))).push (fB "tuple" vs.toArray 0)).push (fB "list" #[] 0)=H at m kp;have U:KeysL prog w H vs xs:=hK.imp λx c k=>Ve k r kp;have fin:∀(out:AJ),out.length=vs.length->KeysL prog w g out (isort xs)->∃f,(H.update a (fA λ_=>fN out)).get? a=KE (fB "list" (fN out) f)/\P (.done (.ret .none)) { s with heap:=H.update a (fA λ_=>fN out) }:=λout Y u=>by
  have s2:=eM H a (fA λ_=>fN out);obtain⟨f,D⟩:∃f,(H.update a (fA λ_=>fN out)).get? a=KE (fB "list" (fN out) f):={_,get?_update_seq m λ_=>fN out};have kk:∀b o,b≠a->H.get? b=KE o->(H.update a (fA λ_=>fN out)).get? b=KE o:=λb o q e=>(by rw[s2.2 b q];show e);show{f,D,h _ out f (λb o q e=>kk b o q (kp b o q e)) D u}
 have h4:vs.length < 64:=();rw[list_sort_plain];show aA (listItems_at r rfl ?_);show aA (tW r rfl ?_ (by rw[aL,iI];omega) (cH _));show aA (uV G' rfl ?_);show aA (sQ ?_ (by change vs.length<=_;rw[iI];omega));show aA (qM ?_ (cH _));show dA ?_;change aJ (aV prog w) A _ P E { s with heap:=((s.heap.update a (fA λ_=>(#[]:AW))).push (fB "tuple" vs.toArray 0)).push (fB "list" #[] 0) };rw[hH];dsimp only;by_cases h2:2<=vs.length
 ·have y:¬vs.toArray.size < 2:=(by rw[aL];omega);rw[MV y,MV y];obtain⟨fs,hf1,hf2,hf3⟩:_:=U.firsts L;show aA (kat_kind (s:={ s with heap:=H }) (T:=.type "int") hf1 () (λv hv=>by obtain⟨k,t,rfl⟩:_:=hf3 v hv;show .now) #v[] ?_);obtain⟨q1,q2,q3⟩:_:=sortG (xs:=xs) ();show aA (jF (kat_run (s:={ s with heap:=H }) (ks:=vs) (vs:=vs) (Q:=λI s'=>s'={ s with heap:=H }/\failedOf I=MN/\(arrOf I).map (·.2)=fN ((c8 (ltX xs) (kE xs.length)).toList.map λi=>vs.getD i fR)) (G:=λp s'=>s'={ s with heap:=H }/\p=c8 (ltX xs) (kE xs.length)) rfl h2 () (λp I s' a1 a2 a3 a4=>{a4.1,a3,by rw[kat_snds rfl a2,a4.2]}) ?_) ?_ λ_ _ e=>e);{rw[N];show Sd (n:=xs.length) (lt:=ltX xs) (λi j C hi hj hC=>?_) _ q1 #v[rfl,rfl];obtain⟨c,ec,kc⟩:_:=U.at hi;obtain⟨d,ed,kd⟩:_:=U.at hj;unfold kas_ask;rw[ec,ed];show aks (s:={ s with heap:=H }) hu (L _ (Of hi)) (L _ (Of hj)) kc kd hC}
  ·rintro⟨⟨⟩,I⟩ s' ⟨rfl,l,z⟩;dsimp only;rw[z];have u:=J.pick _ q3;rw[q2]at u;have Y:((c8 (ltX xs) (kE xs.length)).toList.map λi=>vs.getD i fR).length=vs.length:=by
    rw[u.length,(isort_perm xs).length_eq,N]
   obtain⟨f,D,hP⟩:_:=fin _ Y u;show aA (uV m rfl ?_);show aA (tW (s:={ s with heap:=H }) m rfl ?_ (cH _) (by rw[aL,Y,iI];omega));rw[l];simp only[bne_self_eq_false,bM,if_false];show wpAny_pure hP
 ·have y:vs.toArray.size < 2:=(by rw[aL];omega);rw[MU y,MU y];have FI:isort xs=xs:=by
   match xs,N with
   | [],_=>rfl
   | [x],_=>rfl
   |_::_::_,e=>simp at e;omega
  obtain⟨f,D,hP⟩:_:=fin vs rfl (by rw[FI];show J);show aA (wpAny_pure ?_);show aA (wpAny_pure ?_);dsimp only;have hz:Array.map (λx=>x.snd) (arrOf (SortSt.mk' general' (vs.toArray.zip vs.toArray) #[] 7 MN))=fN vs:=by
   change Array.map (λx=>x.snd) (vs.toArray.zip vs.toArray)=_;apply Array.toList_inj.mp;rw[Array.toList_map,Array.toList_zip];show List.map_snd_zip (aI _)
  rw[hz];show aA (uV m rfl ?_);show aA (tW (s:={ s with heap:=H }) m rfl ?_ (cH _) (by rw[aL,iI];omega));simp only[bne_self_eq_false,bM,if_false];show wpAny_pure hP
end
end TupD
namespace TupD
open SetTable TupSet TupG Deep
section
variable {prog:aQ}{w:bB}{A:bX}{E:aK->aG->Prop}{s:aG}
theorem w6
  (H:A.units+2 < cK) (u:s.heap.get? S=KE o) (hd:o.data=.set c ep t) (Sm:Tb t xs.length) (L:xs.length<=t.mask) (q:EntsOf prog w s.heap c.toList xs)
  (z:IsDeep prog w s.heap x a) (h:Int):∀f m r,
   qr t (λi=>((xs[i]?).map (ay prog w)).getD 0) (λi=>decide (xs[i]?=KE x)) h f (m.getD (t.probeStart h))=KE r->
   (match r with | none=>Q (.there MN) s | some j=>Q (.free j MP) s)->
   aJ (aV prog w) A (setSearchFrom S (.ref a) h MO f m) Q E s
 |0,_,_,e,_=>nomatch e
 |f+1,m,r,e,C=>by
  have N:=q.length;rw[cM]at N;have O:t.fits c.size=MO:=(by rw[N];show yu Sm L);unfold setSearchFrom;show aA (gA u hd O ?_);dsimp only;rw[gaveG Sm];simp only[bM,if_false];unfold qr at e;have I:∀g:Nat->Int,(∀i,g i=((c[i]?).map (·.1)).getD 0)->g=λi=>((xs[i]?).map (ay prog w)).getD 0:=λg I=>funext λi=>by
   rw[I i,<-q.hash i,bS]
  match n:t.probe (λi=>((xs[i]?).map (ay prog w)).getD 0) h (m.getD (t.probeStart h))with
  |none=>rw[n]at e;show nomatch e
  |some (.empty j (KE d))=>rw[n]at e;show nomatch e
  |some (.empty j MN)=>
   rw[n]at e;injection e with e;subst e;have T:∀g:Nat->Int,(∀i,g i=((c[i]?).map (·.1)).getD 0)->t.probe g h (m.getD (t.probeStart h))=KE (.empty j MN):=λg U=>(by rw[I g U];show n);rw[T];{dsimp only;show wpAny_pure C};{intro i;rfl}
  |some (.candidate j i next)=>
   rw[n]at e;dsimp only at e;have T:∀g:Nat->Int,(∀i,g i=((c[i]?).map (·.1)).getD 0)->t.probe g h (m.getD (t.probeStart h))=KE (.candidate j i next):=λg U=>by rw[I g U];show n
   rw[T]
   rotate_left;{intro i;rfl};dsimp only;have Y:=candG Sm (hs:=λi=>((xs[i]?).map (ay prog w)).getD 0) (h:=h) (p:=m.getD (t.probeStart h)) (j:=j) (i:=i) (nx:=next) (10 * turns t.mask) n
   have hi:i < c.size:=(by rw[N];show Y.2.1);have D:c[i]?=KE c[i]:=bV hi;obtain⟨y,J,G⟩:=q.get (i:=i) (e:=c[i]) (by rw[bS];show D);obtain⟨_,b,hb,LV⟩:=G;have BY:∀v∈uX (λx=>x.snd) (Array.filter (λx=>x.fst == h) c).toList,∃b y,v=.ref b/\IsDeep prog w s.heap y b:=by
    intro v hv;obtain⟨e',CV,rfl⟩:=bI.mp hv;rw[Array.toList_filter]at CV;have hm:=(cO.mp CV).1;obtain⟨k,hk⟩:=gR hm;obtain⟨y',_,_,b',DD,wX⟩:=q.get hk;show#v[b',y',DD,wX]
   generalize hEi:c[i]=ei at D hb;obtain⟨h1,v1⟩:=ei;dsimp only at hb;subst hb;rw[D];show acv ?_ ?_;{show aA (Vd z BY ?_);simp only[bM,if_false];show aA (dA (G7 H LV z ?_));show aA (gA u hd O ?_);dsimp only;by_cases l:y=x;{rw[MX l];subst l;rw[J]at e;simp only[decide_true,if_true]at e;injection e with e;subst e;simp only[tX,if_true];show wpAny_pure C};{rw[MW l];simp only[lG,bM,if_false];have FB:t.sameMemory t.moves t.mask=KE MO:=(by unfold SetTable.sameMemory;simp);rw[FB];simp only[if_true];rw[Y.1];dsimp only;rw[D];dsimp only;show aA (wpAny_isSame_ref_self ?_);simp only[if_true];show aA (wpAny_pure ?_);dsimp only;rw[J]at e;rw[MV (⇑l)]at e;show w6 H u hd Sm L q z h f (KE next) r e C}};{show aA (dA (G7 H LV z ?_));show aA (gA u hd O ?_);dsimp only;by_cases l:y=x;{rw[MX l];subst l;rw[J]at e;simp only[decide_true,if_true]at e;injection e with e;subst e;simp only[tX,if_true];show wpAny_pure C};{rw[MW l];simp only[lG,bM,if_false];have FB:t.sameMemory t.moves t.mask=KE MO:=(by unfold SetTable.sameMemory;simp);rw[FB];simp only[if_true];rw[Y.1];dsimp only;rw[D];dsimp only;show aA (wpAny_isSame_ref_self ?_);simp only[if_true];show aA (wpAny_pure ?_);dsimp only;rw[J]at e;rw[MV (⇑l)]at e;show w6 H u hd Sm L q z h f (KE next) r e C}}
structure TOk (prog:aQ)(w:bB)(t:eS)(xs:CY):Prop where
 tb:Tb t xs.length
 room:xs.length * 5 < t.mask * 3
 rc:Rc t (xs.map (ay prog w))
 nd:xs.Nodup
def x9 (prog:aQ)(w:bB)(h0 h:MR)(S:MQ)(t:eS)(xs:CY):Prop:=
 ∃o a b,h.get? S=KE o/\o.ExactSet/\o.data=.set a b t/\TOk prog w t xs/\EntsOf prog w h0 a.toList xs
def TOk.fit (T:TOk prog w t xs):xs.length<=t.mask:=by have:=T.room;lia
theorem EntsOf.hashes:∀{a xs},EntsOf prog w h a xs->a.map (·.1)=xs.map (ay prog w)
 | [],[],_=>rfl
 |e::a,x::xs,z=>by rw[bE,bE,z.1.1,EntsOf.hashes z.2]
 | [],_::_,z=>z.elim
 |_::_,[],z=>z.elim
theorem EntsOf.pick (E:EntsOf prog w h a xs):∀(p:L1),(∀i∈p,i < xs.length)->EntsOf prog w h (p.filterMap (a[·]?)) (p.map λi=>xs.getD i [])
 | [],_=>trivial
 |i::p,c=>by
  have hi:=c i aP;have g:=E.length;have e:a[i]?=KE a[i]:=aB ();obtain⟨x,d,b⟩:=E.get e;rw[gB,e,bE];show{?_,EntsOf.pick E p λj f=>c j (aT _ f)};have:xs.getD i []=x:=(by rw[bN,d];rfl);rw[this];show b
def wp_add
  (U:A.units+2 < cK) (hK:∀b o,h0.get? b=KE o->s.heap.get? b=KE o) (hS:x9 prog w h0 s.heap S t xs) (hn:xs.length<=75) (HG:IsDeep prog w h0 x a)
  (h:∀(b:Bool)(h':MR) t' Y,eN S s.heap h'->x9 prog w h0 h' S t' Y->t'.led=t.led->(∀y,y∈Y↔y=x\/y∈xs)->Y.length<=xs.length+1->Q b { s with heap:=h',toks:=s.toks+(lh x+1) }) :
  aJ (aV prog w) A (setAdd S (.ref a)) Q E s:=by
 obtain⟨o,f,ep,l,hex,hd,T,L⟩:=hS;have N:=rh hK HG;have hE:EntsOf prog w s.heap f.toList xs:=L.imp λy b=>rh hK;have q:=hE.length;rw[cM]at q;have yX:t.fits f.size=MO:=(by rw[q];show yu T.tb T.fit);unfold setAdd;show dA ?_;show aA (Jj U N ?_);unfold setAddHashed;show dA ?_;unfold setAddHashedIn;show aA (gA (s:={ s with toks:=s.toks+(lh x+1) }) l hd yX ?_);dsimp only;have hb:byScan (.ref a) f=MP:=rfl;rw[hb];simp only[bM,if_false];have hf:(λ(i:Nat)=>(((xs.map (ay prog w))[i]?).getD 0))=λ(i:Nat)=>((xs[i]?).map (ay prog w)).getD 0:=by
  funext i;rw[aN]
 unfold setSearch;by_cases O:x∈xs
 ·obtain⟨i,hi⟩:=gR O;have hr:qr t (λi=>((xs[i]?).map (ay prog w)).getD 0) (λi=>decide (xs[i]?=KE x)) (ay prog w x) 100000 (t.probeStart (ay prog w x))=KE MN:=by
   rw[<-hf];show Rc.find T.tb (aC _) T.rc (i:=i) (by rw[aN,hi];rfl) (by simp[hi])
  show aA (w6 (s:={ s with toks:=s.toks+(lh x+1) }) U l hd T.tb T.fit hE N (ay prog w x) 100000 MN MN hr ?_);dsimp only;show wpAny_pure (h MP s.heap t xs (qU _ _) #v[o,f,ep,l,hex,hd,T,L] rfl (λy=>⟨λz=>.inr z,λz=>by rcases z with rfl | z;show O;show z⟩) ())
 ·rcases Ug T.tb T.fit (λi=>((xs[i]?).map (ay prog w)).getD 0) (λi=>decide (xs[i]?=KE x)) (ay prog w x)with⟨_,i,_,_,hq⟩ | ⟨j,hr,he,LW⟩;{show MY (bG (of_decide_eq_true hq)) O}
  show aA (w6 (s:={ s with toks:=s.toks+(lh x+1) }) U l hd T.tb T.fit hE N (ay prog w x) 100000 MN (KE j) hr ?_);have hj:j<=t.mask:=Pin.thru (Pin.start _ _) LW;dsimp only;show aA (gA (s:={ s with toks:=s.toks+(lh x+1) }) l hd yX ?_);dsimp only;obtain⟨Sp,hpn,zX,hmv,BA,xK⟩:=T.tb.put he hj;have JY:=Rc.put (h:=ay prog w x) T.tb (aC _) T.rc he hj LW;rw[Sp.plain];simp only[if_true];show aA (Ie (s:={ s with toks:=s.toks+(lh x+1) }) N ?_);simp only[if_true];generalize hes:insertAt f (t.put j).2 (ay prog w x,bQ a)=d;generalize r:xs.take (t.put j).2++x::xs.drop (t.put j).2=c;have u:d.toList=f.toList.take (t.put j).2++(ay prog w x,bQ a)::f.toList.drop (t.put j).2:=(by rw[<-hes];show z9 _ _ _);have C:EntsOf prog w h0 d.toList c:=by
   rw[u,<-r];show(L.take _).app {#v[rfl,a,rfl,HG],L.drop _}
  have D:c.length=xs.length+1:=(by rw[<-r];simp;lia);have hsz:d.size=f.size+1:=(by have:=C.length;rw[cM,D]at this;lia);have AY:∀y,y∈c↔y=x\/y∈xs:=λy=>(by rw[<-r];show Bx);have LX:c.Nodup:=by
   rw[<-r];have p:(xs.take (t.put j).2++x::xs.drop (t.put j).2).Perm (x::xs):=by
    show List.perm_middle.trans (sV _ ?_);rw[iF]
   show p.nodup_iff.mpr (eG.mpr #v[O,T.nd])
  have G:c.map (ay prog w)=(xs.map (ay prog w)).take (t.put j).2++ay prog w x::(xs.map (ay prog w)).drop (t.put j).2:=by
   rw[<-r,bF,bE,tU,tV]
  rw[<-G]at JY;generalize (t.put j).1=g at Sp zX hmv BA xK JY;have JZ:Tb g c.length:=(by rw[D];show Sp);have LY:d.size < scanBound:=(by rw[hsz,q];change _ < 4096;lia);have hg:(s.heap.update S (lR d g)).get? S=KE { o with data:=.set d (ep+1) g }:=by
   have:=gH (lR d g) l (by rw[uQ _ _ hd];rfl);rw[uQ _ _ hd]at this;show this
  have FU:=eM s.heap S (lR d g);show aA (wpAny_storeSet_of (s:={ s with toks:=s.toks+(lh x+1) }) l hd ?_ (fits_of_scanBound LY));cases m:g.tooFull with
  |false=>
   simp only[lG,bM,if_false];show wpAny_pure (h MO _ g c FU {_,_,_,hg,hex,rfl,{JZ,?_,JY,LX},C} zX AY ());unfold SetTable.tooFull at m;rw[JZ.fill]at m;have:=of_decide_eq_false m;lia
  |true=>
   have FJ:(xs.length+1) * 5>=t.mask * 3:=by
    unfold SetTable.tooFull at m;rw[Sp.fill,BA]at m;show of_decide_eq_true m
   have LZ:=T.room;obtain⟨MA,MB,HJ,EG⟩:¬lA (nG (f.size+1)) > sizeLine/\M3 (lA (nG (f.size+1)) - 1)/\c.length<=lA (nG (f.size+1)) - 1/\c.length * 5 < (lA (nG (f.size+1)) - 1) * 3:=by
    rw[q,D];rcases T.tb.mask with e | e | e;{have:xs.length=4:=(by rw[e]at FJ LZ;lia);rw[this];show{by decide +kernel,.inr (.inl ⋯),by decide +kernel,by decide +kernel}};{have:xs.length=18:=(by rw[e]at FJ LZ;lia);rw[this];show{by decide +kernel,.inr (.inr ⋯),by decide +kernel,by decide +kernel}};{rw[e]at FJ;lia}
   generalize nG (f.size+1)=wd at MA MB HJ EG;have heh:d.map (·.1)=(c.map (ay prog w)).toArray:=by
    apply Array.toList_inj.mp;rw[Array.toList_map,EntsOf.hashes C]
   obtain⟨I,order,er,T2,em2,el2,pm,rc2⟩:=Xl (t:=g) (n:=c.length) (H:=c.map (ay prog w)) Sp.plain (aC _) MB HJ;have FK:∀i∈order.toList,i < c.length:=λi hi=>(⇑(pm.mem_iff.mp hi));have AA:=C.length;have EF:order.toList.length=c.length:=(by rw[pm.length_eq,bP]);have MC:(order.filterMap (d[·]?)).toList=order.toList.filterMap (d.toList[·]?):=by
    rw[Array.toList_filterMap];congr 1
    funext i
    rw[bS]
   have hz:(order.filterMap (d[·]?)).size=d.size:=by
    rw[<-cM,MC,Aa _ (by rw[AA];show FK),EF,<-AA,cM]
   have J:(order.toList.map λi=>c.getD i []).Perm c:=by
    have:=pm.map (λi=>c.getD i []);rw[Og]at this;show this
   simp only[Bool.not_false,tX,if_true];show aA (aal (s:={ s with heap:=s.heap.update S (lR d g),toks:=s.toks+(lh x+1) }) (t':=I) (order:=order) hg rfl (by rw[hsz,q,<-D];show yu JZ (by rw[BA,D];have:=T.fit;lia)) MA (by rw[heh];show er) hz LY ?_);show wpAny_pure ?_;have FC:((s.heap.update S (lR d g)).update S (lR (order.filterMap (d[·]?)) I)).get? S=KE { o with data:=.set (order.filterMap (d[·]?)) (ep+1+1) I }:=by
    have:=gH (lR (order.filterMap (d[·]?)) I) hg (by rw[uQ _ _ rfl];rfl);rw[uQ _ _ rfl]at this;show this
   show h MO _ I (order.toList.map λi=>c.getD i []) (FU.trans (eM _ S _)) {_,_,_,FC,hex,rfl,{?_,?_,?_,J.nodup_iff.mpr LX},?_} (el2.trans zX) (λy=>J.mem_iff.trans (AY y)) (by rw[J.length_eq];lia);{rw[J.length_eq];show T2};{rw[J.length_eq,em2];show EG}
   ·have e3:(order.toList.map λi=>c.getD i []).map (ay prog w)=order.toList.map λk=>((c.map (ay prog w))[k]?).getD 0:=by
     rw[cV];show kK λk hk=>?_;have wX:=FK k hk;change ay prog w (c.getD k [])=_;rw[aN,bN,aB wX];rfl
    rw[e3];show rc2
   ·rw[MC];show EntsOf.pick C _ FK
end
end TupD
namespace TupD
open SetTable TupSet TupG Deep PyProof.Rows
def Got (prog:aQ)(w:bB)(h0 h:MR)(S:MQ)(led:Bool)(Y:CY):Prop:=∃t xs,x9 prog w h0 h S t xs/\t.led=led/\(∀y,y∈xs↔y∈Y)/\xs.length<=Y.length
section
variable {prog:aQ}{w:bB}{A:bX}{R:vC->aG->Prop}{I:MQ}{fp wr:CZ}{G:Array pM->Array pM->Prop}{n:Nat}{P:Nat->aK->Prop}{St:Nat->aG->Prop}
def Yx (W:WalksS prog w A.in1 I fp wr G n P St)(S:MQ)(U:S ∉ fp)(h0:MR)(L:CY)(led:Bool)(r:n=L.length)(h3:n<=76)(hu:A.in1.units+2 < cK)
  (hP:∀i v,P i v->∃a x,v=.ref a/\L[i]?=KE x/\IsDeep prog w h0 x a) (hS0:h0.get? S=MN) (hwr:∀b∈wr,h0.get? b=MN) :
  ∀k i s,n - i=k->i<=n->St i s->(∀b o,h0.get? b=KE o->s.heap.get? b=KE o)->
   Got prog w h0 s.heap S led (L.take i)->
   (∀s',Moved (S::wr) G s s'->(∀b o,h0.get? b=KE o->s'.heap.get? b=KE o)->Got prog w h0 s'.heap S led L->R (.ok (.ret .none)) s')->
   kQ (aV prog w) A (.builtin "set.update.loop" {[.ref S,.ref I],[]}) R s:=by
 have u:S ∉ wr:=λh=>U (W.sub _ h);have BO:∀b∈wr,b∈S::wr:=λb c=>aT _ c;have EH:∀{s s'},Moved wr G s s'->(∀b o,h0.get? b=KE o->s.heap.get? b=KE o)->∀b o,h0.get? b=KE o->s'.heap.get? b=KE o:=λd f b o c=>
  d.heap b o (λhw=>by rw[hwr b hw]at c;show nomatch c) (f b o c)
 have EI:∀{s s':aG}{Y},Moved wr G s s'->Got prog w h0 s.heap S led Y->Got prog w h0 s'.heap S led Y:=λd g=>by
  obtain⟨t,xs,⟨o,es,ep,ho,rest⟩,r2⟩:_:=g;show{t,xs,{o,es,ep,d.heap S _ u ho,rest},r2}
 intro k
 induction k with
 |zero=>
  intro i s hk hi z f g hR;have BV:i=n:=();subst BV;show iQ PyProof.Rows.F.entry_set_update_loop ?_;rw[iR jK _];change aJ _ A.in1 (iM (.ref I) >>= _) _ _ s;show aA (W.done s _ _ z λs' d=>?_);change aJ _ A.in1 (ret fR) _ _ s';have q:=EI d g;rw[r,dE]at q;show wpAny_pure (hR s' (d.mono BO) (EH d f) q)
 |succ k ih=>
  intro i s hk hi z f g hR;have zB:i < n:=();show iQ PyProof.Rows.F.entry_set_update_loop ?_;rw[iR jK _];change aJ _ A.in1 (iM (.ref I) >>= _) _ _ s;show aA (W.item i s _ _ zB z λv s' C j d=>?_);obtain⟨a,x,rfl,D,E⟩:_:=hP i v C;have q:=EI d g;have MD:=EH d f;obtain⟨t,xs,hT,zX,AY,H⟩:_:=q;rw[bR]at H;change aJ _ A.in1 (iV [bQ a] (setAdd S (.ref a)) >>= _) _ _ s';show aA (dA ?_);show TupD.wp_add hu MD hT () E λb h' t' BN J N AC BI hx2=>?_;have O:Got prog w h0 h' S led (L.take (i+1)):=⟨t',BN,N,AC.trans zX,λy=>by
    rw[BI,AY,cX,D];simp only[Option.toList_some,cT,aR];show Or.comm,by rw[bR];omega⟩
  have T:∀b o,h0.get? b=KE o->h'.get? b=KE o:=λb o c=>by
   rw[J.2 b (λe=>by rw[e,hS0]at c;show nomatch c)];show MD b o c
  show wpAny_pure {qL jK _,ih (i+1) _ () zB (W.frame _ s' _ _ j (Nat.le_add_right _ _) λb c o e=>?_) T O λGD l m p=>?_};{rw[J.2 b (λh:b=S=>U (by rw[<-h];show c))];show e};{show hR GD (Moved.trans W.gtrans ((d.mono BO).then_heap (Nat.le_add_right _ _) λb o c e=>?_) l) m p;rw[J.2 b (λh:b=S=>c (by rw[h];show aP))];show e}
end
section
variable {prog:aQ}{w:bB}{A:bX}{E:aK->aG->Prop}{s:aG}
def Yy (h0 h:MR)(S:MQ)(led:Bool)(a:h.get? S=KE { cls:=.type "set",dict:=MN,data:=.set #[] 0 (.fresh 0 0 led) }):Got prog w h0 h S led []:=
 {_,[],{_,_,_,a,#v[rfl,rfl,rfl],rfl,{Tb.fresh led,by change 0 * 5 < 7 * 3;omega,(λq b=>nomatch b),nH},trivial},rfl,λy=>kA,aI _}
def call_setG
  (U:∀b o,h0.get? b=KE o->s.heap.get? b=KE o) (hh:A.handled=MN) (hu:A.units+8 < cK) (hl:s.heap.IsList l items) (Y:items.size=L.length) (h3:L.length<=76)
  (hi:∀(i:Nat)(v:aK),items[i]?=KE v->∃a x,v=.ref a/\L[i]?=KE x/\IsDeep prog w h0 x a)
  (h:∀(h':MR)(C:Nat),Got prog w h0 h' ‹s› (E8 w) L->(∀b o,s.heap.get? b=KE o->h'.get? b=KE o)->Q (.ref ‹s›) { s with heap:=h',toks:=C }) :
  aJ (aV prog w) A (call (.type "set") [.ref l]) Q E s:=by
 have ME:∀b,‹s›<=b->h0.get? b=MN:=λb p=>by
  cases e:h0.get? b with
  |none=>rfl
  |some o=>show MY (aS (U b o e)) (Nat.not_lt.mpr p)
 obtain⟨c,tl,hmro⟩:_:=F.called_set.mro;have G:=F.called_set.made;have BO:=F.called_set.sub;show vD (codeAny_of_tree ?_);change aJ _ _ (callAny (.type "set") _) _ _ _;show wpAny_pure {Code.quiet_builtin _ ⋯,iQ F.entry_type_call ?_};rw[Around.under_plain (weight_type_call_type "set" [.ref l] []) rfl];have h1:=F.called_set.notType;have h2:=F.called_set.canCreate;have hct:=F.typeCall_set_1 (.ref l)
 repeat (any_goals (first | assumption | wp_step))
 obtain⟨led,zX⟩:∃led,E8 w=led:={_,rfl};rw[zX]at h;show mL (aaj (.ref l) (E:=E) (Q₁:=λobj f=>obj=.ref ‹s›/\f={ s with heap:=s.heap.push { cls:=.type "set",dict:=MN,data:=.set #[] 0 (.fresh 0 0 led) } }) (by rw[zX];show#v[rfl,rfl])) λr f H=>?_;cases r with
 |error e=>show H
 |ok fl=>
  cases fl with
  |ret obj=>
   obtain⟨rfl,rfl⟩:_:=H;have hS:(s.heap.push { cls:=.type "set",dict:=MN,data:=.set #[] 0 (.fresh 0 0 led) }).get? ‹s›=KE { cls:=.type "set",dict:=MN,data:=.set #[] 0 (.fresh 0 0 led) }:=aZ _ rfl;have hT:Shared.TypeIs { s with heap:=s.heap.push { cls:=.type "set",dict:=MN,data:=.set #[] 0 (.fresh 0 0 led) } } (.ref ‹s›) "set":={_,hS,rfl};have hli:=F.called_set.init.lookup;have EB:=F.called_set.init.bind (.ref ‹s›)
   repeat (any_goals (first | assumption | wp_step))
   show mL (codeAny_call_builtin (R:=wants (λr g=>r=.none/\∃h' C,g={ s with heap:=h',toks:=C }/\Got prog w h0 h' ‹s› led L/\(∀b o,s.heap.get? b=KE o->h'.get? b=KE o)) E) F.called_set.init.plain F.entry_set_init (check_set_init_1 hT ?_)) λq g I=>?_
   ·obtain⟨ol,EF,MF,nl,MG⟩:_:=hl;obtain⟨ocls,j,J,d⟩:_:=ol;simp only at MF MG;subst MF;subst MG;have u:(s.heap.push { cls:=.type "set",dict:=MN,data:=.set #[] 0 (.fresh 0 0 led) }).get? l=KE { cls:=.type "list",dict:=j,data:=.seq items nl,slots:=d }:=aE _ EF;have hsls:=F.sub_list_set;have hslf:=F.sub_list_frozenset;have xN:(mU "list" == mU "dict")=MP:=#v[];have AA:(s.heap.push { cls:=.type "set",dict:=MN,data:=.set #[] 0 (.fresh 0 0 led) }).IsList l items:={_,u,rfl,nl,rfl};unfold hU.«set.__init__» noKeywords Builtin.Frozenset.updateFrom;generalize N:vA=PI
    wp_walk
    subst N;show dJ AA ?_;show aA (wpAny_runValue ?_);have MH:l < ‹s›:=aS EF;have O:A.in1.in1.in1.handled=MN:=(by simp[hh]);have D:(s.heap.push { cls:=.type "set",dict:=MN,data:=.set #[] 0 (.fresh 0 0 led) }).objs.size=‹s›+1:=eU _ _;have y:l≠(s.heap.push { cls:=.type "set",dict:=MN,data:=.set #[] 0 (.fresh 0 0 led) }).objs.size:=(by rw[D];show bH (qX MH));have II:‹s› ∉ [(s.heap.push { cls:=.type "set",dict:=MN,data:=.set #[] 0 (.fresh 0 0 led) }).objs.size,l]:=by
     rw[D];intro n;rcases aY.mp n with e | e;{show MY e (bH (jD _))};{show MY (aR.mp e) (eX MH)}
    have EJ:∀b o,s.heap.get? b=KE o->((s.heap.push { cls:=.type "set",dict:=MN,data:=.set #[] 0 (.fresh 0 0 led) }).push { cls:=.type "list_iterator",data:=.fields #[.ref l,.int 0 0] }).get? b=KE o:=λb o e=>
     aE _ (aE _ e)
    show Yx ((tF O _ l y items).toS) ‹s› II h0 L led Y (by rw[Y];show h3) ?hun hi (ME _ (aI _)) ?hwr
     (items.size - 0) 0 _ () (cH _) {{_,aZ _ rfl,rfl,rfl},(AA.push _)} (λb o e=>EJ b o (U b o e)) ?hS0 ?hR
    case hun=>change A.units+1+1+1+2 < cK;omega
    case hwr=>
     intro b p;rw[aR.mp p,D];show ME _ (pS _)
    case hS0=>
     show Yy _ _ _ _ (aE _ hS)
    case hR=>
     intro s' n hK T;obtain⟨h',g',d',IC,IP⟩:_:=s';have eg:g'=s.gens:=n.gens;have ed:d'=s.drawn:=n.drawn;have eo:IP=s.os:=n.os;subst eg;subst ed;subst eo;change aJ _ _ _ _ _ _;show wpAny_pure ?_;change aJ _ _ (ret fR) _ _ _;show wpAny_pure ⟨rfl,h',IC,rfl,T,λb o e=>n.heap b o (λp=>by
       rcases aY.mp p with z | z
       · rw[z]at e;show MY (aS e) (fU _)
       · rw[aR.mp z,D]at e;show MY (aS e) (Nat.not_lt.mpr (pS _))) (EJ b o e)⟩
   ·cases q with
    |error e=>show I
    |ok m=>
     cases m with
     |ret r=>
      obtain⟨rfl,h',C,rfl,T,wX⟩:_:=I
      repeat (any_goals (first | assumption | wp_step))
      show h _ _ T wX
     |_=>show I.elim
  |_=>show H.elim
end
end TupD
namespace TupD
open SetTable TupSet TupG Deep PyProof.Rows PySem.W
section
variable {prog:aQ}{w:bB}{A:bX}{E:aK->aG->Prop}{s:aG}
def Rn (C:∀b o,h0.get? b=KE o->s.heap.get? b=KE o)(G:A.handled=MN)(H:s.heap.get? S=KE o)(D:TupG.SetObj w o f g t)
  (p:EntsOf prog w h0 f.toList xs) (Y:A.units+8 < cK) (I:∀x∈xs,IsP x) (q:xs.length < 64)
  (h:∀d h' J out c,s.heap.get? d=MN->(∀b o,s.heap.get? b=KE o->h'.get? b=KE o)->h'.get? d=KE (fB "list" (fN out) c)->KeysL prog w h0 out (isort xs)->Q (.ref d) { s with heap:=h',toks:=J }) :
  aJ (aV prog w) A (call (.builtin "sorted") [.ref S]) Q E s:=by
 have L:=p.length;rw[cM]at L;have DY:=D.n76;have q:=q;obtain⟨ys,j,N⟩:=(EntsOf.keys p).perm (E9 w S g f);have l:ys.length < 64:=(by rw[j.length_eq];lia);have HW:=si w S g f;have O:isort ys=isort xs:=D9 ((isort_perm ys).trans j) (qk ys);show Calls.call_function_entry kind_sorted plain_sorted entry_sorted (args_sorted1 _) ?_;unfold hU.«sorted»;show aA (m:=checkCount "sorted" 1 1 _) (wpAny_pure ?_);show aA (TupG.wp_collect (A:=A.in1) G H D λi n r=>?_);show aA (qM ?_ (by rw[iI];lia));change aJ _ _ _ _ _ { s with heap:=i.push (fB "list" (g7 w S g f).toArray 0),toks:=n };have u:(i.push (fB "list" (g7 w S g f).toArray 0)).get? i.objs.size=KE (fB "list" (g7 w S g f).toArray 0):=aZ _ rfl;have kp:∀b o,s.heap.get? b=KE o->(i.push (fB "list" (g7 w S g f).toArray 0)).get? b=KE o:=λb o e=>aE _ (r b o e);have y:s.heap.get? i.objs.size=MN:=by
  cases e:s.heap.get? i.objs.size with
  |none=>rfl
  |some o'=>show MY (aS (r _ _ e)) (fU _)
 show aA (dA (dD slot_list_sort {_,u,rfl} entry_list_sort ?body (args_list_sort _)))
 case body=>
  show Oh (s:={ s with heap:=i.push (fB "list" (g7 w S g f).toArray 0),toks:=n }) u N (λx a k=>rh kp (rh C k)) (by change A.units+1+1+2 < cK;lia) (λx T=>I x (j.mem_iff.mp T)) l λh' out c hk hd z=>?_;rw[O]at z;show{_,rfl,wpAny_pure {_,rfl,h _ h' n out c y (λb o e=>hk b o (λU=>?_) (kp b o e)) hd z}};rw[U,y]at e;show nomatch e
end
open Classical in
noncomputable def dd:CY->CY
 | []=>[]
 |x::l=>if x∈l then dd l else x::dd l
theorem Bf:∀{l},y∈dd l↔y∈l
 | []=>kA
 |x::l=>by
  unfold dd
  split
  ·next h=>
   rw[Bf,aY];show⟨.inr,λz=>by rcases z with rfl | z;show h;show z⟩
  ·rw[aY,aY,Bf]
theorem nodup_dd:∀l,(dd l).Nodup
 | []=>nH
 |x::l=>by
  unfold dd
  split;{show nodup_dd l};{next h=>show eG.mpr {λz=>h (Bf.mp z),nodup_dd l}}
theorem Yz:∀l,(dd l).length<=l.length
 | []=>aI _
 |x::l=>by
  unfold dd;have:=Yz l
  split;{rw[aW];lia};{rw[aW,aW];lia}
theorem Gf:∀{xs ys:CY},xs.Nodup->ys.Nodup->(∀y,y∈xs↔y∈ys)->xs.Perm ys
 | [],ys,_,_,h=>by
  cases ys with
  |nil=>show .refl _
  |cons y ys=>show nomatch (h y).mpr aP
 |x::xs,ys,c,a,h=>by
  letI:BEq (CW):=instBEqOfDecidableEq
  have d:=(h x).mp aP;have b:=eG.mp c;show(sV x (Gf b.2 (a.erase x) λy=>?_)).trans (List.perm_cons_erase d).symm;rw[a.mem_erase_iff,<-h,aY];show⟨λz=>{λe=>b.1 (e ▸ z),.inr z},λf=>by obtain⟨n,z⟩:=f;show z.resolve_left n⟩
noncomputable def srtG (L:CY):CY:=isort (dd L)
def srtG_len (L:CY):(srtG L).length<=L.length:=by
 unfold srtG;rw[(isort_perm _).length_eq];show Yz L
def ags {L xs:CY}(nd:xs.Nodup)(h:∀y,y∈xs↔y∈L):isort xs=srtG L:=
 D9 ((isort_perm xs).trans (Gf nd (nodup_dd L) λy=>(h y).trans Bf.symm)) (qk xs)
def mem_srtG:y∈srtG L↔y∈L:=(isort_perm _).mem_iff.trans Bf
section
variable {prog:aQ}{w:bB}{A:bX}{E:aK->aG->Prop}{s:aG}
def call_sorted_ofG (i:A.handled=MN)(r:L.length < 64)(j:A.units+8 < cK)(l:∀x∈L,IsP x)
  (k:Got prog w h0 s.heap S (E8 w) L) (hk:∀b o,h0.get? b=KE o->s.heap.get? b=KE o)
  (h:∀d h' m out c,s.heap.get? d=MN->(∀b o,s.heap.get? b=KE o->h'.get? b=KE o)->h'.get? d=KE (fB "list" (fN out) c)->KeysL prog w h0 out (srtG L)->Q (.ref d) { s with heap:=h',toks:=m }) :
  aJ (aV prog w) A (call (.builtin "sorted") [.ref S]) Q E s:=by
 obtain⟨t,xs,⟨o,u,y,n,hex,hd,T,e⟩,p,f,g⟩:=k;have a:=e.length;rw[cM]at a;rw[<-ags T.nd f]at h;show Rn hk i n {hex,hd,by rw[a];show T.tb,by rw[a];show T.fit,(),λq=>?_} e j (λx g=>l x ((f x).mp g)) () h;rw[p];unfold E8;rw[q];rfl
def call_sortedL (u:∀b o,h0.get? b=KE o->s.heap.get? b=KE o)(y:s.heap.IsList l vs.toArray)(g:KeysL prog w h0 vs xs)(I:A.units+8 < cK)(z:∀x∈xs,IsP x)(C:xs.length < 64)
  (h:∀d h' D out c,s.heap.get? d=MN->(∀b o,s.heap.get? b=KE o->h'.get? b=KE o)->h'.get? d=KE (fB "list" (fN out) c)->KeysL prog w h0 out (isort xs)->Q (.ref d) { s with heap:=h',toks:=D }) :
  aJ (aV prog w) A (call (.builtin "sorted") [.ref l]) Q E s:=by
 have J:=g.length;show Calls.call_function_entry kind_sorted plain_sorted entry_sorted (args_sorted1 _) ?_;unfold hU.«sorted»;show aA (m:=checkCount "sorted" 1 1 _) (wpAny_pure ?_);show aA (collect_list y ?_ (by rw[iI];lia));show aA (qM ?_ (by rw[iI];lia));generalize i:((s.heap.push (fB "list" #[] 0)).update ‹s› (fA (·++vs.toArray)))=f;have hsz:f.objs.size=‹s›+1:=(by rw[<-i,Heap.size_update,size_push']);have j:∀b o,s.heap.get? b=KE o->f.get? b=KE o:=λb o q=>by
  have n:b < ‹s›:=aS q;rw[<-i,Heap.get?_update_ne _ _ _ _ (bH n),Heap.get?_push_ne _ _ _ (bH n)];show q
 change aJ _ _ _ _ _ { s with heap:=f.push (fB "list" vs.toArray 0) };have p:(f.push (fB "list" vs.toArray 0)).get? f.objs.size=KE (fB "list" vs.toArray 0):=aZ _ rfl;have kp:∀b o,s.heap.get? b=KE o->(f.push (fB "list" vs.toArray 0)).get? b=KE o:=λb o e=>aE _ (j b o e);have r:s.heap.get? f.objs.size=MN:=by
  cases e:s.heap.get? f.objs.size with
  |none=>rfl
  |some L=>show MY (aS (j _ _ e)) (fU _)
 show aA (dA (dD slot_list_sort {_,p,rfl} entry_list_sort ?body (args_list_sort _)))
 case body=>
  show Oh (s:={ s with heap:=f.push (fB "list" vs.toArray 0) }) p g (λx a k=>rh kp (rh u k)) (by change A.units+1+1+2 < cK;lia) z C λh' out c hk hd G=>?_;show{_,rfl,wpAny_pure {_,rfl,h _ h' s.toks out c r (λb o e=>hk b o (λH=>?_) (kp b o e)) hd G}};rw[H,r]at e;show nomatch e
end
end TupD
end PySem
namespace L2
open PySem PySem.Spec PyProof.Rows PySem.Deep
def KeysV (K:aF)(H:Hp)(ys:DK)(L:CY):Prop:=Paired (λy x=>∃a,y=.ref a/\KeyAt K H a x) ys L
section
variable {X:Cx}{f':BK}{σ:St}{H:Hp}{s:aG}
open Classical in
noncomputable def n8 (K:aF)(H:Hp)(h:MR):MR:=PySem.W.hideAll h ((bA h.objs.size).filter λa=>!decide (∃x:CW,KeyAt K H a x))
def Ea {K:aF}{h:MR}{b:MQ}{o:Obj}(e:(n8 K H h).get? b=KE o):h.get? b=KE o/\∃x:CW,KeyAt K H b x:=by
 have c:=PySem.W.of_hideAll _ e;show{c,Classical.byContradiction λn=>?_};have d:b∈(bA h.objs.size).filter λa=>!@decide (∃x:CW,KeyAt K H a x) (kP _):=cO.mpr {bW.mpr (aS c),by simp[n]};have z:(n8 K H h).get? b=MN:=PySem.W.hideAll_none _ d;rw[z]at e;cases e
def Jz {K:aF}{h:MR}{b:MQ}{o:Obj}{x:CW}(e:h.get? b=KE o)(k:KeyAt K H b x):(n8 K H h).get? b=KE o:=by
 show PySem.W.hideAll_get _ e λa=>?_;have q:=(cO.mp a).2;have:∃x:CW,KeyAt K H b x:=#v[x,k];simp[this]at q
def Vf {K:aF}{c:MQ}{l:LQ}(h:SqT K H c (l.map V.int)):KeyAt K H c (l.map Sum.inl):=⟨_,h,by
  clear h
  induction l with
  |nil=>show .nil
  |cons a l b=>show .cons rfl b⟩
theorem Inv.itemsK (I:Inv X f' σ H s):∀{xs ks its},Vals xs its->Paired (λv k=>match k with | Sum.inl i=>v=V.int i | Sum.inr l=>∃c,v=.ref c/\SqT X.K H c (l.map V.int)) xs ks->ItemsR X.p X.w (n8 X.K H s.heap) ks its
 |_,_,_,.nil,.nil=>trivial
 |_,.inl i::_,_,.cons r t,.cons h u=>by
  subst h;obtain⟨a,rfl⟩:=r;show{by change fE i (.int i a)=MO;simp[fE],I.itemsK t u}
 |_,.inr l::_,_,.cons r t,.cons h u=>by
  obtain⟨c,rfl,k⟩:=h;cases r;obtain⟨o,its,n,b,q⟩:=I.tkey k;show{{c,rfl,o,its,n,Jz b (Vf k),q},I.itemsK t u}
def Inv.keyK (I:Inv X f' σ H s){a:MQ}{x:CW}(h:KeyAt X.K H a x):IsDeep X.p X.w (n8 X.K H s.heap) x a:=by
 obtain⟨xs,b,p⟩:=id h;obtain⟨its,r,⟨o,c,d,n,hd⟩,_⟩:=I.tuple b;show{o,its.toArray,n,Jz c h,d,hd,by simpa using I.itemsK r p}
def Inv.ofKeyK (I:Inv X f' σ H s)(h:IsDeep X.p X.w (n8 X.K H s.heap) x a):KeyAt X.K H a x:=by
 obtain⟨o,its,n,c,r⟩:=id h;obtain⟨d,y,b⟩:=Ea c;have e:x=y:=IsDeep.inj h (I.keyK b);subst e;show b
theorem Inv.ofKeysD (I:Inv X f' σ H s):∀{vs:AJ}{xs:CY},TupD.KeysL X.p X.w (n8 X.K H s.heap) vs xs->∃ys,Vals ys vs/\KeysV X.K H ys xs
 | [],[],_=>{[],.nil,.nil}
 | [],_::_,h=>h.elim
 |_::_,[],h=>h.elim
 |v::vs,x::xs,h=>by
  obtain⟨⟨a,rfl,k⟩,b⟩:=h;obtain⟨ys,c,d⟩:=I.ofKeysD b;show{.ref a::ys,.cons rfl c,.cons {a,rfl,I.ofKeyK k} d}
theorem Oi (I:Inv X f' σ H s):∀{ys:DK}{L:CY}{its:AJ},KeysV X.K H ys L->Vals ys its->TupD.KeysL X.p X.w (n8 X.K H s.heap) its L
 | [],[],[],_,_=>trivial
 |y::ys,x::L,v::its,.cons b c,.cons d e=>by
  obtain⟨a,rfl,k⟩:=b;cases d;show{{a,rfl,I.keyK k},Oi I c e}
theorem KeysV.get {K:aF}:∀{ys:DK}{L:CY}{its:AJ},KeysV K H ys L->Vals ys its->∀(i:Nat)(v:aK),its[i]?=KE v->∃a x,v=.ref a/\L[i]?=KE x/\KeyAt K H a x
 |_,_,_,.nil,.nil,i,v,e=>by simp at e
 |_,_,_,.cons (b:=x) p q,.cons r t,0,v,e=>by
  obtain⟨a,rfl,k⟩:=p;cases r;simp at e;show#v[a,x,e.symm,rfl,k]
 |_,_,_,.cons p q,.cons r t,i+1,v,e=>by
  obtain⟨a,x,c,d,f⟩:=KeysV.get q t i v (⇑e);show{a,x,c,by simpa using d,f}
end
section
variable {X:Cx}{e:MS}{te:TE}{x y:Str}{p p2 pos zI:Pos}
def tSrtD (K:aF)(te:TE):TE:=λc H Q=>te c H λv a=>∃l ys L,v=.ref l/\SqL K a l ys/\KeysV K a ys L/\L.length < 64/\(∀x∈L,TupD.IsP x)/\
 ∀d b,a d=MN->KeysV K a b (TupD.srtG L)->Q (.ref d) (upd a d (.lst b))
def agt (z:X.calm=MO)(C:X.A.units+8 < cK)(hg:Gl X x)(hm:X.mg x=MN)(hv:dY x=KE (.builtin "sorted"))(FC:Gl X y)(BI:X.mg y=MN)(HB:dY y=KE (.type "set"))(he:PE X e te)
  (hn:↑(x≠"__name__")) (yW:↑((x == ("__debug__":Str))=MP)) (AS:↑(y≠"__name__")) (CJ:↑((y == ("__debug__":Str))=MP))
  (hs:↥(aM [.Call (.Name y p2) [e] [] zI] X.e=(MP,eval (.Call (.Name y p2) [e] [] zI) X.e)::aM [] X.e)) (xK:↥((dS pos (aM [] X.e)).any (·.1)=MP))
  (D:↥(aM [e] X.e=(MP,eval e X.e)::aM [] X.e)) (FL:↥((dS zI (aM [] X.e)).any (·.1)=MP)) :
  PE X (.Call (.Name x p) [.Call (.Name y p2) [e] [] zI] [] pos) (tSrtD X.K te):=by
 intro E s G H Q I h;show iD (j7 I hg hm hv ?_ hn yW);show kW ?_ hs xK;rw[hs];change aJ _ _ (uR ((MP,eval (.Call (.Name y p2) [e] [] zI) X.e)::dS pos (aM [] X.e))) _ _ s;show mK ?_;show iD (j7 I FC BI HB ?_ AS CJ);show eB ?_ D FL;rw[D];change aJ _ _ (uR ((MP,eval e X.e)::dS zI (aM [] X.e))) _ _ s;show mK (thn (he E s G H _ I h) λu f vR=>?_);obtain⟨v,j,g,r1,n⟩:=vR;obtain⟨l,ys,L,rfl,hl,N,O,xN,n⟩:=n;cases r1;show nN ?_;obtain⟨its,T,pl,hz⟩:=g.list hl;have U:∀b o,(n8 X.K j f.heap).get? b=KE o->f.heap.get? b=KE o:=λb o e=>(Ea e).1;show TupD.call_setG (items:=its.toArray) (L:=L) (h0:=n8 X.K j f.heap) U (g.ok.hd z) C pl.isList (by rw[aL,<-T.length];show Paired.length N) () (λi v e=>?_) λh' q hS hk=>?_;{obtain⟨a,x,e1,e2,k⟩:=N.get T i v (⇑e);show{a,x,e1,e2,g.keyK k}}
 ·show nN ?_;show TupD.call_sorted_ofG (s:={ f with heap:=h',toks:=q }) (g.ok.hd z) O (by show C) xN hS (λb o e=>hk b o (U b o e)) λd r KA out c hd Y KB BJ=>?_;obtain⟨m,KC,HP⟩:=g.ofKeysD BJ;have hkk:∀b o,f.heap.get? b=KE o->r.get? b=KE o:=λb o e=>Y b o (hk b o e);have J:Inv X E G j { f with heap:=h',toks:=q }:=g.kept (h':=h') (t':=q) hk;have KD:j d=MN:=J.hok.none_at hd;have vT:m.length<=sizeLine:=by
   have a1:=Paired.length HP;have a2:=TupD.srtG_len L;rw[a1];show aX (aX a2 (iK O)) #v[]
  show{.ref d,upd j d (.lst m),?_,rfl,n d m KD HP};show J.laidN (h':=r) (t':=KA) Y hd (show ObjOk X.p X.w _ r d (.lst m)from#v[vT,out,c,KC,KB])
def tSrtE (K:aF)(te:TE):TE:=λc H Q=>te c H λv a=>∃l ys L,v=.ref l/\SqL K a l ys/\KeysV K a ys L/\L.length < 64/\(∀x∈L,TupD.IsP x)/\
 ∀d b,a d=MN->KeysV K a b (TupD.isort L)->Q (.ref d) (upd a d (.lst b))
def acd (r:X.A.units+8 < cK)(z:Gl X x)(C:X.mg x=MN)(D:dY x=KE (.builtin "sorted"))(E:PE X e te)
  (G:↑(x≠"__name__")) (J:↑((x == ("__debug__":Str))=MP))
  (hs:↥(aM [e] X.e=(MP,eval e X.e)::aM [] X.e)) (N:↥((dS pos (aM [] X.e)).any (·.1)=MP)) :
  PE X (.Call (.Name x p) [e] [] pos) (tSrtE X.K te):=by
 intro O s T H Q I h;show iD (j7 I z C D ?_ G J);show kW ?_ hs N;rw[hs];change aJ _ _ (uR ((MP,eval e X.e)::dS pos (aM [] X.e))) _ _ s;show mK (thn (E O s T H _ I h) λu i U=>?_);obtain⟨v,f,a,Y,j⟩:=U;obtain⟨l,ys,L,rfl,hl,ht,m,xN,j⟩:=j;cases Y;show nN ?_;obtain⟨its,rv,pl,hz⟩:=a.list hl;have CL:∀b o,(n8 X.K f i.heap).get? b=KE o->i.heap.get? b=KE o:=λb o e=>(Ea e).1;show TupD.call_sortedL (h0:=n8 X.K f i.heap) CL pl.isList (Oi a ht rv) (by show r) xN m λd n KA out c hd BP KB BJ=>?_;obtain⟨g,KC,q⟩:=a.ofKeysD BJ;have KD:f d=MN:=a.hok.none_at hd;have vT:g.length<=sizeLine:=by
  have a1:=Paired.length q;rw[a1,(TupD.isort_perm L).length_eq];show aX (iK m) #v[]
 show{.ref d,upd f d (.lst g),?_,rfl,j d g KD q};show a.laidN (h':=n) (t':=KA) BP hd (show ObjOk X.p X.w _ n d (.lst g)from#v[vT,out,c,KC,KB])
end
end L2
namespace VL
open PySem L2 PySem.Deep
section
variable {X:Cx}
abbrev kyT (k:CW):Tr:=.tup (k.map itT)
def w8 (g:CY->CY)(d:Tr)(R:Ev->Prop):Prop:=match d with
 | .lst l=>∃L:CY,l=L.map kyT/\L.length < 64/\(∀x∈L,TupD.IsP x)/\R (.new (.lst ((g L).map kyT)))
 |_=>False
def Gg (g:CY->CY)(f:GE):GE:=λm Q=>f m λa b=>lk b a λd=>w8 g d λa=>Q a b
theorem Eb {b:B}{F H:Hp}(e:Same F H):∀{xs:DK}{L:CY},Rps b F xs (L.map kyT)->KeysV b.K H xs L
 |_,[],.nil=>.nil
 |_,x::L,.cons h t=>by
  obtain⟨a,ys,rfl,c,d⟩:=Rp.tupI h;show .cons {a,rfl,ja (zh c d) e} (Eb e t)
theorem Bg:∀{k xs},Paired (λv k=>match k with | Sum.inl i=>v=V.int i | Sum.inr l=>∃c,v=.ref c/\SqT b.K F c (l.map V.int)) xs k->Rps b F xs (k.map itT)
 | [],_,.nil=>.nil
 | .inl i::_,_,.cons h t=>by subst h;show .cons (.v rfl) (Bg t)
 | .inr l::_,_,.cons h t=>by
  obtain⟨c,rfl,s⟩:=h;show .cons (.tup s (Mu _)) (Bg t)
def akt (h:KeyAt b.K F a k):Rp b F (.ref a) (kyT k):=by
 obtain⟨xs,s,p⟩:=h;show .tup s (Bg p)
theorem Oj {b:B}{F:Hp}:∀{xs:DK}{L:CY},KeysV b.K F xs L->Rps b F xs (L.map kyT)
 |_,_,.nil=>.nil
 |_,_,.cons h t=>by
  obtain⟨a,rfl,c⟩:=h;show .cons (akt c) (Oj t)
theorem zr:∀{k:CW}{xs:DK},Paired (λv k=>match k with | Sum.inl i=>v=V.int i | Sum.inr l=>∃c,v=.ref c/\SqT K H c (l.map V.int)) xs k->Paired (λv k=>match k with | Sum.inl i=>v=V.int i | Sum.inr l=>∃c,v=.ref c/\SqT K (kz F H) c (l.map V.int)) xs k
 | [],_,.nil=>.nil
 | .inl i::_,_,.cons h t=>.cons h (zr t)
 | .inr l::_,_,.cons h t=>by
  obtain⟨c,rfl,s⟩:=h;show .cons {c,rfl,Mq s} (zr t)
def Y0 {k:CW}(h:KeyAt K H a k):KeyAt K (kz F H) a k:=by
 obtain⟨xs,s,p⟩:=h;show{xs,Mq s,zr p}
theorem J0 {K:aF}{F H:Hp}:∀{xs:DK}{L:CY},KeysV K H xs L->KeysV K (kz F H) xs L
 |_,_,.nil=>.nil
 |_,_,.cons ⟨a,e,h⟩ t=>.cons {a,e,Y0 h} (J0 t)
def Ol {b:B}{W:Wd}{cel:DJ}{R:Ev->Prop}{Q:VK}{L:CY}(ok:Wok b W cel)(q:∀f c z,R f->After b W cel c->Rev b W c z f->Q z c.H)(h:R (.new (.lst (L.map kyT)))) :
  ∀d a,W.H d=MN->KeysV b.K W.H a L->Q (.ref d) (upd W.H d (.lst a)):=λd a hd g=>by
 obtain⟨l1,e,l⟩:=afk ok;obtain⟨l2,i,j⟩:=o6 (d:=.lst (L.map kyT)) (o:=.lst a) (p:=d) e hd {a,bh,Oj (J0 g)};show q _ _ _ h {l1.trans l2,λ_=>rfl,i} (j.old l1.toLe)
def Om {x y:Str}{e:MS}{f:GE}{p n b c:Pos}(s:X.calm=MO)(hu:X.A.units+64 < cK)(u:Gl X x)(w:X.mg x=MN)(C:dY x=KE (.builtin "sorted"))(D:Gl X y)(E:X.mg y=MN)(G:dY y=KE (.type "set"))(I:VE X e f)
  (J:↑(x≠"__name__")) (N:↑((x == ("__debug__":Str))=MP)) (O:↑(y≠"__name__")) (T:↑((y == ("__debug__":Str))=MP))
  (hs:↥(aM [.Call (.Name y n) [e] [] c] X.e=(MP,eval (.Call (.Name y n) [e] [] c) X.e)::aM [] X.e)) (U:↥((dS b (aM [] X.e)).any (·.1)=MP))
  (Y:↥(aM [e] X.e=(MP,eval e X.e)::aM [] X.e)) (FL:↥((dS c (aM [] X.e)).any (·.1)=MP)) :
  VE X (.Call (.Name x p) [.Call (.Name y n) [e] [] c] [] b) (Gg TupD.srtG f):=⟨PE.sub (agt s () u w C D E G I.out J N O T hs U Y FL) λσ H Q hG=>je hG λW m R hW vO h q=>⟨W,m,_,hW,vO,h,λg r W1 x h1 l1 i r1=>by
  obtain⟨d,td,j⟩:=gu i.ok r1 h1;unfold w8 at j
  split at j
  · obtain⟨L,rfl,z1,z2,o⟩:=j;obtain⟨a,ys,rfl,k1,k2⟩:=td;show{a,ys,L,rfl,SqL.of k1,Eb i.ok.sub k2,z1,z2,Ol (R:=λg=>R g r) i.ok (λg W' z o l rz=>q g r W' z o (l1.trans l.lx) (i.lift l.lx l.cs l.ok) (rz.old l1.toLe)) o}
  · show j.elim⟩⟩
def ace {x:Str}{e:MS}{f:GE}{p b:Pos}(hu:X.A.units+64 < cK)(o:Gl X x)(r:X.mg x=MN)(s:dY x=KE (.builtin "sorted"))(u:VE X e f)
  (w:↑(x≠"__name__")) (y:↑((x == ("__debug__":Str))=MP))
  (hs:↥(aM [e] X.e=(MP,eval e X.e)::aM [] X.e)) (C:↥((dS b (aM [] X.e)).any (·.1)=MP)):VE X (.Call (.Name x p) [e] [] b) (Gg TupD.isort f):=⟨PE.sub (acd () o r s u.out w y hs C) λσ H Q D=>je D λW m R E G h q=>⟨W,m,_,E,G,h,λc n W1 x I l1 g J=>by
  obtain⟨d,N,i⟩:=gu g.ok J I;unfold w8 at i
  split at i
  · obtain⟨L,rfl,O,T,l⟩:=i;obtain⟨a,ys,rfl,U,Y⟩:=N;show{a,ys,L,rfl,SqL.of U,Eb g.ok.sub Y,O,T,Ol (R:=λc=>R c n) g.ok (λc W' z l j rz=>q c n W' z l (l1.trans j.lx) (g.lift j.lx j.cs j.ok) (rz.old l1.toLe)) l}
  · show i.elim⟩⟩
def Bh:List (CW×Tr)->CY->DQ->(CY->DQ->Prop)->Prop
 | [],ks,l,R=>R ks l
 | (k,d)::r,ks,l,R=>Bh r (mq ks k) (mr ks l k d) R
def Lp:GL
 | [.lst l],R=>∃ps:List (CW×Tr),l=ps.map (λp=>Tr.tup [kyT p.1,p.2])/\ps.length<=1000000/\Bh ps [] [] λks l=>R (.new (.dct ks l))
 | [.dct ks l],R=>(∀P w,(ks.map (ay P w)).Nodup)/\R (.new (.dct ks l))
 |_,_=>False
theorem S3 {b:B}{F:Hp}:∀{ps:List (CW×Tr)}{f:DE}{kvs:DE}{l:DQ}{R:CY->DQ->Prop},Paired (λ(e:CW×MQ×V) p=>e.1=p.1/\KeyAt b.K F e.2.1 e.1/\Rp b F e.2.2 p.2) f ps->(∀e∈kvs,KeyAt b.K F e.2.1 e.1)->Rps b F (kvs.map (·.2.2)) l->Bh ps (kvs.map (·.1)) l R->
  ∃j,(∀e∈kh kvs f,KeyAt b.K F e.2.1 e.1)/\Rps b F ((kh kvs f).map (·.2.2)) j/\(kh kvs f).length<=kvs.length+f.length/\R ((kh kvs f).map (·.1)) j
 | [],_,kvs,l,R,.nil,hk,m,h=>{l,hk,m,aI _,h}
 | (k,d)::ps,_,kvs,l,R,.cons (a:=e) o q,hk,m,h=>by
  obtain⟨i,c,v⟩:=e;obtain⟨rfl,r,s⟩:=o;obtain⟨u,w⟩:=og (key:=λe:CW×MQ×V=>e.1) (val:=λe=>e.2.2) i s (g:=λe=>if e.1=i then (e.1,e.2.1,v)else e) (e0:=(i,c,v)) rfl rfl (λe=>by split<;>rfl) (λe=>by split<;>rfl) m (L':=iu kvs i c v) (by
    unfold iu atK;rw[eA])
  have x:∀e∈iu kvs i c v,KeyAt b.K F e.2.1 e.1:=λe y=>by
   rcases E5 y with⟨z1,n⟩ | z1;{rcases n with n | ⟨z,A,C,D⟩;{rw[z1,n];show r};{have:=hk z A;rw[C,D]at this;rw[z1];show this}};{show hk e z1}
  obtain⟨j,E,G,H,I⟩:=S3 q x w (by rw[<-u];show h);show{j,E,G,aX H ?_,I};have:=E4 kvs i c v;rw[aW];lia
theorem On {b:B}{F H:Hp}(e:Same F H):∀{ps:List (CW×Tr)}{vs:DK},Rps b F vs (ps.map λp=>Tr.tup [kyT p.1,p.2])->∃f:DE,Paired (λv (e:CW×MQ×V)=>∃p,v=.ref p/\SqT b.K H p [.ref e.2.1,e.2.2]/\KeyAt b.K H e.2.1 e.1) vs f/\Paired (λ(e:CW×MQ×V) p=>e.1=p.1/\KeyAt b.K F e.2.1 e.1/\Rp b F e.2.2 p.2) f ps
 | [],_,.nil=>{[],.nil,.nil}
 | (k,d)::ps,_,.cons h t=>by
  obtain⟨f,i,j⟩:=On e t;obtain⟨a,xs,rfl,l,m⟩:=Rp.tupI h;cases m with
  |cons n o=>
   cases o with
   |cons q r=>
    cases r;obtain⟨c,ys,rfl,s,u⟩:=Rp.tupI n;have g:=zh s u;show{(k,c,_)::f,.cons {a,rfl,l.same e,ja g e} i,.cons #v[rfl,g,q] j}
def S4 (y:X.calm=MO)(hu:X.A.units+64 < cK):mi X (.type "dict") Lp:=by
 intro j s l H xs us Q I r h;obtain⟨W,cel,ds,R,rfl,ok,m,h,q⟩:=h;unfold Lp at h
 split at h
 ·obtain⟨x,rfl,a,vs,rfl,z,C⟩:=cz m;obtain⟨ps,rfl,hz,h⟩:=h;obtain⟨b,D,n⟩:=On ok.sub C;obtain⟨E,G,J,z3,L⟩:=S3 (kvs:=[]) n (λe N=>nomatch N) .nil h;show Uc rfl rfl rfl y () j s l W.H _ us Q I r {a,vs,b,rfl,z,D,λp c f hs=>?_};have O:(kh [] b).length<=sizeLine:=by
   have e1:b.length=ps.length:=Paired.length n;have:([]:DE).length=0:=rfl;show big _ ()
  obtain⟨l2,g,i⟩:=o6 (d:=.dct ((kh [] b).map (·.1)) E) (o:=me X.p X.w p c (kh [] b)) ok f {_,c,bh,G,O,hs,rfl,J};show q _ _ _ L {l2,λ_=>rfl,g} i
 {obtain⟨x,rfl,t⟩:=cz m;obtain⟨a,kvs,rfl,u,T,rfl,U⟩:=t;obtain⟨Y,h⟩:=h;show Ud rfl rfl rfl j s l W.H _ us Q I r ⟨a,kvs,rfl,u,by have:=Y X.p X.w;rw[cV]at this;show this,λp c f hs=>?_⟩;obtain⟨l2,g,i⟩:=o6 (d:=.dct (kvs.map (·.1)) _) (o:=me X.p X.w p c kvs) ok f {_,c,bh,T,u.len,hs,rfl,U};show q _ _ _ h {l2,λ_=>rfl,g} i};{show h.elim}
end
end VL
set_option maxHeartbeats 1000000
namespace PB
open PySem L2 VL Bits S1 PySem.Deep
abbrev av:=Nat×LQ
abbrev sT (p:av):Tr:=.tup [.v (.int (p.1:Int)),tI p.2]
abbrev trT (t:LJ):Tr:=.tup (t.map tI)
abbrev ssT (L:List av):Tr:=.lst (L.map sT)
inductive n9 (A:av->av->Prop):av->av->Prop
 |refl {p:av}:n9 A p p
 |step {p r q:av}:A p r->n9 A r q->n9 A p q
def Say.Q (ws:LK)(t:LJ):Say->av->av->Prop
 | .nought=>λ_ _=>False
 | .every=>λp q=>q=p
 | .note=>λp q=>q=(p.1+1,p.2)/\p.1+2 < t.length/\t[p.1+1]?=KE p.2
 | .is f v=>λp q=>q=p/\∃x c,look ws f=KE (x,c)/\p.2[x]?=KE v
 | .put f v=>λp q=>∃x c,look ws f=KE (x,c)/\q=(p.1,p.2.set x v)
 | .no s=>λp q=>q=p/\∀r,¬s.Q ws t p r
 | .again s=>n9 (s.Q ws t)
 | .either a b=>λp q=>a.Q ws t p q\/b.Q ws t p q
 | .both a b=>λp q=>∃r,a.Q ws t p r/\b.Q ws t r q
def VdS (ws:LK)(t:LJ)(p:av):Prop:=p.1+2<=t.length/\p.2∈LL ws
theorem Say.Q_ok {ws:LK}{t:LJ}(ok:SpOk ws):∀{s:Say},s.good ws->∀{p q:av},VdS ws t p->s.Q ws t p q->VdS ws t q
 | .nought,_,_,_,_,h=>h.elim
 | .every,_,_,_,v,h=>by cases h;show v
 | .note,_,_,_,v,h=>by obtain⟨rfl,d,_⟩:=h;show#v[d,v.2]
 | .is _ _,_,_,_,v,h=>by cases h.1;show v
 | .no _,_,_,_,v,h=>by cases h.1;show v
 | .put f w,g,_,_,v,h=>by
  obtain⟨x,c,lk,rfl⟩:=h;obtain⟨n,o,e,i,j⟩:=g (.put f w) (by simp[Say.parts]);rw[lk]at e;cases e;show{v.1,((F0 ok lk i j).2.2 _ v.2).2.2}
 | .again s,g,p,q,v,h=>by
  have h:n9 (s.Q ws t) p q:=h
  induction h with
  |refl=>show v
  |step d _ l=>show l (Say.Q_ok ok (Say.good_again g) v d) (by assumption)
 | .either a b,g,_,_,v,h=>by
  rcases h with h | h;{show Say.Q_ok ok (Say.good_either g).1 v h};{show Say.Q_ok ok (Say.good_either g).2 v h}
 | .both a b,g,_,_,v,h=>by
  obtain⟨r,d,m⟩:=h;show Say.Q_ok ok (Say.good_both g).2 (Say.Q_ok ok (Say.good_both g).1 v d) m
theorem Ih:∀{L M:List e},L.Nodup->(∀x∈L,x∈M)->L.length<=M.length
 | [],_,_,_=>cH _
 |x::L,M,nd,h=>by
  obtain⟨a,b,rfl⟩:=List.append_of_mem (h x aP);have c:=eG.mp nd;have:=Ih (L:=L) (M:=a++b) c.2 λy d=>by
   have:=h y (aT _ d);rw[cT,aY]at this;rw[cT];rcases this with h | rfl | h;{show .inl h};{show MY d c.1};{show .inr h}
  simp only[aH,aW]at this ⊢;lia
def aku {t:LJ}{L:List av}(nd:L.Nodup)(h:∀p∈L,VdS ws t p):L.length<=(t.length - 1) * (LL ws).length:=by
 have sub:∀p∈L,p∈(bA (t.length - 1)).flatMap λk=>(LL ws).map λl=>(k,l):=λp a=>by
  obtain⟨c,b⟩:=h p a;show fF.mpr {p.1,bW.mpr (),bI.mpr #v[p.2,b,rfl]}
 have:=Ih nd sub;rw[mE]at this;simpa[Function.comp_def,List.map_const',List.sum_replicate_nat]using this
def Ii (g__law_spans:GP):GS:=(ba (Gg TupD.isort (aa 6)))
def Kr (g__law_spans:GP):GS:=ak (yj [] (gT (gOp (eqG MO) (aa 7) (gLst gaN))) (ak (az 7 (cq 1 [6] (giL (au 4 g__law_spans (gaV (aa 0) (gaV (gX (aa 1) (gI 1)) (gaV (aa 2) (gA1 (aa 7))))))) (.one 0) (gT (gOp (inG MO) (aa 0) (aa 1))) (aa 0))) (az 6 (gOp cb (aa 6) (aa 7))))) (Ii g__law_spans)
def Kt (g__law_spans:GP):GS:=ak (az 7 (aa 3)) (Kr g__law_spans)
def Ku (g__law_spans:GP):GS:=ak (az 6 (gCB Lm (gaE (aa 3) gaN))) (Kt g__law_spans)
def Kv (g__law_spans:GP):GS:=ak (sIf (gT (gOp (eqG MP) (aa 4) (gS "either"))) (ak (az 6 (au 4 g__law_spans (gaV (aa 0) (gaV (gX (aa 1) (gI 1)) (gaV (aa 2) (gA1 (aa 3))))))) (ba (Gg TupD.srtG (gOp cb (aa 6) (au 4 g__law_spans (gaV (aa 0) (gaV (gX (aa 1) (gI 2)) (gaV (aa 2) (gA1 (aa 3)))))))))) df) (Ku g__law_spans)
def Kw (g__law_spans:GP):GS:=ak (sIf (gT (gOp (eqG MP) (aa 4) (gS "then"))) (ba (au 4 g__law_spans (gaV (aa 0) (gaV (gX (aa 1) (gI 2)) (gaV (aa 2) (gA1 (au 4 g__law_spans (gaV (aa 0) (gaV (gX (aa 1) (gI 1)) (gaV (aa 2) (gA1 (aa 3)))))))))))) df) (Kv g__law_spans)
def Kx (g__law_spans:GP):GS:=ak (sIf (gT (gOp (eqG MP) (aa 4) (gS "not"))) (ba (cq 1 [1,0,2] (giL (aa 3)) (.one 0) (gT (gOp (eqG MP) (au 4 g__law_spans (gaV (aa 2) (gaV (gX (aa 1) (gI 1)) (gaV (aa 3) (gA1 (gLst (gA1 (aa 0)))))))) (gLst gaN))) (aa 0))) df) (Kw g__law_spans)
def Ky (g__law_spans:GP):GS:=ak (sIf (gOr (gT (gOp (eqG MP) (aa 4) (gS "is"))) (gT (gOp (eqG MP) (aa 4) (gS "put")))) (ak (az 5 (gMt "list" A4 (cq 2 [] (giT (aa 0)) (.tup [0,1]) dt (aa 0)) (gaE (gX (aa 1) (gI 1)) gaN))) (ak (sIf (gT (gOp (eqG MP) (aa 4) (gS "is"))) (ba (cq 1 [5,1] (giL (aa 3)) (.one 0) (gT (gOp (eqG MP) (gX (gX (aa 0) (gI 1)) (aa 1)) (gX (aa 2) (gI 2)))) (aa 0))) df) (ba (Gg TupD.srtG (cq 2 [5,1] (giL (aa 3)) (.tup [0,1]) dt (gTup (gaV (aa 0) (gA1 (gOp cb (gOp cb (gSl (aa 1) goN (goS (aa 2))) (gTup (gA1 (gX (aa 3) (gI 2))))) (gSl (aa 1) (goS (gOp cb (aa 2) (gI 1))) goN)))))))))) df) (Kx g__law_spans)
def Kz (g__law_spans:GP):GS:=ak (sIf (gT (gOp (eqG MP) (aa 4) (gS "note"))) (ba (cq 2 [2] (giL (aa 3)) (.tup [0,1]) (Az (gT (gOp (dg λi j=>.bl (decide (i < j))) (gOp cb (aa 0) (gI 2)) (gCB gx (gaE (aa 2) gaN)))) (gT (gOp (eqG MP) (gX (aa 2) (gOp cb (aa 0) (gI 1))) (aa 1)))) (gTup (gaV (gOp cb (aa 0) (gI 1)) (gA1 (aa 1)))))) df) (Ky g__law_spans)
def gg (g__law_spans:GP):GS:=ak (sIf (gOr (gT (gOp (eqG MP) (aa 4) (gS "all"))) (gT (gOp (eqG MP) (aa 4) (gS "none")))) (ba (cq 1 [4] (giL (aa 3)) (.one 0) (gT (gOp (eqG MP) (aa 1) (gS "all"))) (aa 0))) df) (Kz g__law_spans)
def Oo (g__law_spans:GP):GS:=ak (az 4 (gX (aa 1) (gI 0))) (gg g__law_spans)
structure SpIn (ws:LK)(t:LJ)(L:List av):Prop where
 ok:SpOk ws
 two:2<=t.length
 few:(t.length - 1) * (LL ws).length<=30
 tl:t.length<=100
 nd:L.Nodup
 vd:∀p∈L,VdS ws t p
def SpIn.len {ws:LK}{t:LJ}{L:List av}(h:SpIn ws t L):L.length<=30:=aX (aku h.nd h.vd) h.few
def kf (n:Nat):GP:=λds R=>∃(ws:LK)(s:Say) (t:LJ) (L:List av),ds=[spT ws,s.t,trT t,ssT L]/\SpIn ws t L/\s.good ws/\s.size<=n/\∀L':List av,L'.Nodup->(∀q,q∈L'↔∃p∈L,s.Q ws t p q)->R (.new (ssT L'))
abbrev spM (ws:LK)(s:Say)(t:LJ)(L:List av)(a b c:Option Wt):M:={[KE (.v (spT ws)),KE (.v (.tup (.v (.str s.sort)::s.rest))),KE (.v (trT t)),KE (.v (ssT L)),KE (.v (.v (.str s.sort))),a,b,c],[MN]}
abbrev spE (R:Ev->Prop):t8:={ nx:=λm=>R (.val (.v .non)),rt:=Dv R }
section
variable {n:Nat}{ws:LK}{t:LJ}{L:List av}{R:Ev->Prop}
def J1 (hs:s=.every\/s=.nought)(h:SpIn ws t L)(q:∀L':List av,L'.Nodup->(∀q,q∈L'↔∃p∈L,s.Q ws t p q)->R (.new (ssT L'))):gg (kf n) (spE R) (spM ws s t L MN MN MN):=by
 have C:=h.len;have go:∀b:Bool,(∀(Y:Tr->DJ->Prop)(Z:DJ->Prop) (p:av),(b=MO->Y (sT p) [MN])->(b=MP->Z [MN])->gTg (.one 0) (sT p) ⟨bC 1 MN++mj [KE (.v (spT ws)),KE (.v (.tup (.v (.str s.sort)::s.rest))),KE (.v (trT t)),KE (.v (ssT L)),KE (.v (.v (.str s.sort))),MN,MN,MN] [4],[MN]⟩ λo=>(gT (gOp (eqG MP) (aa 1) (gS "all"))) o λb j=>if b=MO then (aa 0) j λr u=>fz u r λd w=>Y d w.cel else Z j.cel)->
   R (.new (ssT (L.filter λ_=>b)))->dh 1 [4] (.one 0) (gT (gOp (eqG MP) (aa 1) (gS "all"))) (aa 0) [KE (.v (spT ws)),KE (.v (.tup (.v (.str s.sort)::s.rest))),KE (.v (trT t)),KE (.v (ssT L)),KE (.v (.v (.str s.sort))),MN,MN,MN] (λl m=>R (.new (.lst l))) (L.map sT) [] [MN]:=λb y A=>by
  show ef (p:=λ_=>b) (out:=sT) rfl _ _ (by change 0+_<=_;lia) (λp g Y Z a f=>y Y Z p a f) ?_;rw[bL];show A
 rcases hs with rfl | rfl;{exists tL,rfl;show ifY (c:=MO) rfl ?_;show go MO (λY Z p a f=>?_) (q _ (h.nd.filter _) λx=>?_);{exists tL,rfl;show a rfl};{rw[cO];show⟨λz=>#v[x,z.1,rfl],λi=>by obtain⟨p,g,e⟩:=i;show by cases e;show#v[g,rfl]⟩}};{exists tL;exists tZ,rfl;show go MP (λY Z p a f=>?_) (q _ (h.nd.filter _) λx=>?_);{exists tL;show f rfl};{rw[cO];show⟨(λz=>nomatch z.2),λi=>by obtain⟨p,g,e⟩:=i;show e.elim⟩}}
def akv (h:sT p=sT q):p=q:=by
 have b:=Tr.tup.inj h;have a:Tr.v (.int (p.1:Int))=.v (.int (q.1:Int)):=(iB b).1;have c:tI p.2=tI q.2:=(iB (iB b).2).1;obtain⟨k,l⟩:=p;obtain⟨k',d⟩:=q;cases akm c;have:(k:Int)=(k':Int):=(by injection a with a;injection a);have:k=k':=();subst this;rfl
def Vg (h:SpIn ws t L)(q:∀L':List av,L'.Nodup->(∀q,q∈L'↔∃p∈L,Say.note.Q ws t p q)->R (.new (ssT L'))):gg (kf n) (spE R) (spM ws .note t L MN MN MN):=by
 have C:=h.len;exists tL;exists tZ;show du ?_;exists tO,rfl;show ef (p:=λp:av=>decide (p.1+2 < t.length/\t[p.1+1]?=KE p.2)) (out:=λp=>sT (p.1+1,p.2)) rfl _ _ (by change 0+_<=_;lia) (λp d Y Z m l=>?_) ?_
 ·have D:=h.vd p d;have tl:(t.map tI).length=t.length:=aC ..;change if decide (((p.1:Int)+2) < ((t.map tI).length:Int))=MO then _ else _
  by_cases c:p.1+2 < t.length;{show ifY (MX ()) ?_;obtain⟨y,i⟩:∃y,t[p.1+1]?=KE y:={_,aB ()};show bf (x:=tI y) (by rw[show((p.1:Int)+1)=((p.1+1:Nat):Int)by lia];show bq (by rw[aN,i];rfl)) ?_;show{zq _ _ _,λb o=>?_};cases Yr o N5;by_cases f:y=p.2;{show sfY (MX f) ?_;show{bg rfl,?_};show m (MX {c,by rw[i,f]})};{show sfN (MW f) ?_;show l (MW λz=>f (by rw[i]at z;show cB z.2))}};{show ifN (MW ()) ?_;show l (MW λz=>c z.1)}
 ·rw[bL];show cast (NA (λz=>R (.new (.lst z))) ?_) (q ((L.filter λp:av=>decide (p.1+2 < t.length/\t[p.1+1]?=KE p.2)).map λp=>(p.1+1,p.2)) ?_ ?_);{rw[cV];rfl};{show qZ _ (λa b r e=>r ?_) (h.nd.filter _);have s:=lE e;show sZ () s.2};{intro x;rw[List.mem_map];constructor;{intro j;obtain⟨p,d,rfl⟩:=j;obtain⟨u,w⟩:=cO.mp d;have g:=of_decide_eq_true w;show#v[p,u,rfl,g.1,g.2]};{intro j;obtain⟨p,d,rfl,g,A⟩:=j;show{p,cO.mpr {d,MX #v[g,A]},rfl}}}
def ky (p:av):CW:=[.inl (p.1:Int),.inr p.2]
def Vh:CW->av
 | [.inl k,.inr l]=>(k.toNat,l)
 |_=>(0,[])
def Ij (p:av):Vh (ky p)=p:=by
 obtain⟨k,l⟩:=p;change((k:Int).toNat,l)=(k,l);rw[bT]
def Bi (h:ky p=ky q):p=q:=by rw[<-Ij p,h,Ij]
def S5 {M:List av}(nd:X.Nodup)(h:∀x,x∈X↔x∈M.map ky):∃a:List av,X=a.map ky/\a.Nodup/\∀q,q∈a↔q∈M:=by
 have e:(X.map Vh).map ky=X:=by
  rw[cV];show(kK λx f=>?_).trans (pZ _);obtain⟨p,_,rfl⟩:=bI.mp ((h x).mp f);change ky (Vh (ky p))=ky p;rw[Ij]
 show{X.map Vh,e.symm,?_,λq=>?_};{rw[<-e]at nd;show qY (λg e=>g (by rw[e])) (List.pairwise_map.mp nd)};{constructor;{intro b;have:ky q∈X:=(by rw[<-e];show jC b);obtain⟨p,c,d⟩:=bI.mp ((h _).mp this);rw[<-Bi d];show c};{intro b;have:ky q∈X:=(h _).mpr (jC b);rw[<-e]at this;obtain⟨p,c,d⟩:=bI.mp this;rw[<-Bi d];show c}}
def zt (M:List av):M.map sT=(M.map ky).map kyT:=by rw[cV];rfl
def Y1 {M:List av}:∀x∈M.map ky,TupD.IsP x:=λx a=>by
 obtain⟨p,_,rfl⟩:=bI.mp a;show{_,_,rfl}
def S6 {M:List av}(b:M.length < 64)(q:∀a:List av,a.Nodup->(∀q,q∈a↔q∈M)->R (.new (ssT a))):w8 TupD.srtG (ssT M) R:=by
 obtain⟨a,e,nd,c⟩:=S5 (M:=M) (X:=TupD.srtG (M.map ky)) ((TupD.isort_perm _).nodup_iff.mpr (TupD.nodup_dd _)) λx=>TupD.mem_srtG;show{M.map ky,zt M,by rw[aC];show b,Y1,?_};rw[e,<-zt];show q a nd c
def acf {M:List av}{R:Ev->Prop}(d:M.length < 64)(f:M.Nodup)(q:∀c:List av,c.Nodup->(∀q,q∈c↔q∈M)->R (.new (ssT c))):w8 TupD.isort (ssT M) R:=by
 obtain⟨c,e,nd,g⟩:=S5 (M:=M) (X:=TupD.isort (M.map ky)) ((TupD.isort_perm _).nodup_iff.mpr (qZ _ (λa b i e=>i (Bi e)) f)) λx=>(TupD.isort_perm _).mem_iff;show{M.map ky,zt M,by rw[aC];show d,Y1,?_};rw[e,<-zt];show q c nd g
def J2 (hs:s=.is f v\/s=.put f v)(h:SpIn ws t L)(u:s.own ws)(q:∀L':List av,L'.Nodup->(∀q,q∈L'↔∃p∈L,s.Q ws t p q)->R (.new (ssT L'))):gg (kf n) (spE R) (spM ws s t L MN MN MN):=by
 have O:=h.len;have ok:=h.ok;obtain⟨x,c,lk,A,C⟩:∃p c,look ws f=KE (p,c)/\0<=v/\v < (c:Int):=(by rcases hs with rfl | rfl<;>show u);have T:=ok.hi;obtain⟨k,e0,D,m,U⟩:=Oc lk;rw[eP]at e0;subst e0;subst D;have j:=F0 ok lk A C;have o:(ws.map λw:Str×Nat=>Tr.v (.str w.1))=(ws.map (·.1)).map λn=>Tr.v (.str n):=(by rw[cV];rfl);have key:∀p∈L,∃y,p.2[(ws.map (·.1)).idxOf f]?=KE y/\(ws.map (·.1)).idxOf f < p.2.length/\p.2.length<=10/\p.2.set ((ws.map (·.1)).idxOf f) v∈LL ws:=λp a=>by
  obtain⟨l,g,E⟩:=j.2.2 p.2 (h.vd p a).2;show{_,aB g,g,l,E}
 rcases hs with rfl | rfl;{exists tL;exists tZ;show du ?_;exists tO;show du ?_;exists tI',rfl;show ifY (c:=MO) rfl ?_;show cy (out:=λw:Str×Nat=>Tr.v (.str w.1)) rfl _ _ (by change 0+_<=_;lia) (λw hw Y b=>b) ?_;rw[bL,o];show{rfl,ws.map (·.1),rfl,m,?_};exists tI',rfl;show ef (p:=λp:av=>decide (p.2[(ws.map (·.1)).idxOf f]?=KE v)) (out:=sT) rfl _ _ (by change 0+_<=_;lia) (λp a Y Z b G=>?_) ?_;{obtain⟨y,i,_⟩:=key p a;show bf (x:=.v (.int y)) (bq (by rw[aN,i];rfl)) ?_;show{rfl,?_};by_cases c:y=v;{show sfY (show decide (V.int y=V.int v)=MO by simp[c]) ?_;show b (MX (by rw[i,c]))};{show sfN (show decide (V.int y=V.int v)=MP by simp[c]) ?_;show G (MW λz=>c (by rw[i]at z;show cB z))}};{rw[bL];show q _ (h.nd.filter _) λx=>?_;rw[cO];constructor;{intro d;obtain⟨l,g⟩:=d;show{x,l,rfl,_,c,lk,of_decide_eq_true g}};{intro d;obtain⟨p,a,rfl,H,I,e,z⟩:=d;rw[lk]at e;cases e;show{a,MX z}}}};{exists tL;exists tZ;show du ?_;exists tO;show du ?_;exists tI';exists tP,rfl;show cy (out:=λw:Str×Nat=>Tr.v (.str w.1)) rfl _ _ (by change 0+_<=_;lia) (λw hw Y b=>b) ?_;rw[bL,o];show{rfl,ws.map (·.1),rfl,m,?_};exists tI';show du ?_;show cy (out:=λp:av=>sT (p.1,p.2.set ((ws.map (·.1)).idxOf f) v)) rfl _ _ (by change 0+_<=_;lia) (λp a Y b=>?_) ?_;{obtain⟨y,i,r,EE,lset⟩:=key p a;have lm:(p.2.map λn=>Tr.v (.int n)).length=p.2.length:=aC ..;have cl:=agm (p.2.map λn=>Tr.v (.int n)) _ (by rw[lm];show r);show{bg rfl,?_};show{by change(bu (p.2.map λn=>Tr.v (.int n)) MN (KE (((ws.map (·.1)).idxOf f:Nat):Int))).length+1<=1000000;lia,?_};show{by change(bu (p.2.map λn=>Tr.v (.int n)) MN (KE (((ws.map (·.1)).idxOf f:Nat):Int))++[iT v]).length+(bu (p.2.map λn=>Tr.v (.int n)) (KE ((((ws.map (·.1)).idxOf f:Nat):Int)+1)) MN).length<=1000000;rw[aH];change _+1+_<=_;lia,?_};show{bg rfl,?_};show cast (NA (λz=>Y (.tup [.v (.int (p.1:Int)),z]) [MN]) ?_) b;show(Nv r).symm};{rw[bL];have em:(L.map λp:av=>sT (p.1,p.2.set ((ws.map (·.1)).idxOf f) v))=(L.map λp:av=>((p.1,p.2.set ((ws.map (·.1)).idxOf f) v):av)).map sT:=(by rw[cV];rfl);change w8 TupD.srtG (.lst (L.map λp:av=>sT (p.1,p.2.set ((ws.map (·.1)).idxOf f) v))) _;rw[em];show S6 (by rw[aC];lia) λJ nd N=>q J nd λy=>?_;rw[N,List.mem_map];constructor;{intro d;obtain⟨p,a,rfl⟩:=d;show{p,a,_,c,lk,rfl}};{intro d;obtain⟨p,a,H,I,e,rfl⟩:=d;rw[lk]at e;cases e;show#v[p,a,rfl]}}}
def SpIn.one (h:SpIn ws t L)(a:p∈L):SpIn ws t [p]:={h.ok,h.two,h.few,h.tl,eG.mpr {(λz=>nomatch z),nH},λx b=>by rw[aR.mp b];show h.vd p a}
def SpIn.next {a:Say}{L':List av}(h:SpIn ws t L)(b:a.good ws)(nd:L'.Nodup)(c:∀q,q∈L'↔∃p∈L,a.Q ws t p q):SpIn ws t L':=⟨h.ok,h.two,h.few,h.tl,nd,λx d=>by
  obtain⟨p,e,f⟩:=(c x).mp d;show Say.Q_ok h.ok b (h.vd p e) f⟩
def acg {a:Say}(h:SpIn ws t L)(l:(Say.no a).good ws)(hz:(Say.no a).size<=n+1)(q:∀L':List av,L'.Nodup->(∀q,q∈L'↔∃p∈L,(Say.no a).Q ws t p q)->R (.new (ssT L'))):gg (kf n) (spE R) (spM ws (.no a) t L MN MN MN):=by
 have D:=h.len;have m:a.size<=n:=(by simp only[Say.size]at hz;lia);exists tL;exists tZ;show du ?_;exists tO;show du ?_;exists tI';exists tP;show du ?_;exists tN,rfl
 classical
 show ef (p:=λp:av=>decide (∀r,¬a.Q ws t p r)) (out:=sT) rfl _ _ (by change 0+_<=_;lia) (λp f Y Z o s=>?_) ?_
 ·show{bg rfl,rfl,ws,a,t,[p],rfl,h.one f,(Say.good_no l).2,m,λL' nd g=>?_};show{bg rfl,?_};show{by cases L'<;>rfl,λc i=>?_};have e:(∀r,¬a.Q ws t p r)↔L'=[]:=by
   constructor;{intro z;show List.eq_nil_iff_forall_not_mem.mpr λx u=>?_;obtain⟨E,w,j⟩:=(g x).mp u;rw[aR.mp w]at j;show z x j};{intro b r y;subst b;show nomatch (g r).mpr {p,aR.mpr rfl,y}}
  by_cases d:L'=[];{have:c=MO:=i.mpr (by rw[d];rfl);show sfY this ?_;show o (MX (e.mpr d))}
  ·have:c=MP:=by
    cases c with
    |false=>rfl
    |true=>show MY (List.map_eq_nil_iff.mp (i.mp rfl)) d
   show sfN this ?_;show s (MW λz=>d (e.mp z))
 ·rw[bL];show q _ (h.nd.filter _) λx=>?_;rw[cO];constructor;{intro b;obtain⟨A,C⟩:=b;show{x,A,rfl,of_decide_eq_true C}};{intro b;obtain⟨p,f,rfl,z⟩:=b;show{f,MX z}}
def Vi {a b:Say}(h:SpIn ws t L)(j:(Say.both a b).good ws)(hz:(Say.both a b).size<=n+1)(q:∀L':List av,L'.Nodup->(∀q,q∈L'↔∃p∈L,(Say.both a b).Q ws t p q)->R (.new (ssT L'))):gg (kf n) (spE R) (spM ws (.both a b) t L MN MN MN):=by
 have i:a.size<=n/\b.size<=n:=(by simp only[Say.size]at hz;lia);obtain⟨ga,l⟩:=Say.good_both j;exists tL;exists tZ;show du ?_;exists tO;show du ?_;exists tI';exists tP;show du ?_;exists tN;show du ?_;exists tB,rfl;show{rfl,ws,a,t,L,rfl,h,ga,i.1,λm o c=>?_};show{rfl,ws,b,t,m,rfl,h.next ga o c,l,i.2,λL2 s u=>q L2 s λx=>?_}
 rw[u];constructor;{intro d;obtain⟨r,w,e⟩:=d;obtain⟨p,f,g⟩:=(c r).mp w;show#v[p,f,r,g,e]};{intro d;obtain⟨p,f,r,g,e⟩:=d;show{r,(c r).mpr #v[p,f,g],e}}
def Oq {a b:Say}(h:SpIn ws t L)(j:(Say.either a b).good ws)(hz:(Say.either a b).size<=n+1)(q:∀L':List av,L'.Nodup->(∀q,q∈L'↔∃p∈L,(Say.either a b).Q ws t p q)->R (.new (ssT L'))):gg (kf n) (spE R) (spM ws (.either a b) t L MN MN MN):=by
 have d:a.size<=n/\b.size<=n:=(by simp only[Say.size]at hz;lia);obtain⟨ga,e⟩:=Say.good_either j;exists tL;exists tZ;show du ?_;exists tO;show du ?_;exists tI';exists tP;show du ?_;exists tN;show du ?_;exists tB;show du ?_;exists tE,rfl;show{rfl,ws,a,t,L,rfl,h,ga,d.1,λf l g=>?_};show{rfl,ws,b,t,L,rfl,h,e,d.2,λL2 m i=>?_};have s:=(h.next ga l g).len
 have u:=(h.next e m i).len
 show{by change(f.map sT).length+(L2.map sT).length<=1000000;rw[aC,aC];lia,?_};change w8 TupD.srtG (.lst (f.map sT++L2.map sT)) _;rw[<-bF];show S6 (by rw[aH];lia) λo nd r=>q o nd λx=>?_;rw[r,cT,g,i];constructor;{rintro(⟨p,c,z⟩ | ⟨p,c,z⟩);{show{p,c,.inl z}};{show{p,c,.inr z}}};{rintro⟨p,c,z | z⟩;{show .inl #v[p,c,z]};{show .inr #v[p,c,z]}}
def neY {c:Bool}{P Q:Prop}(h:c=MP)(p:P):if (if MO=MO then !c else c)=MO then P else Q:=by subst h;rw[MU #v[]];show p
def neN' {c:Bool}{P Q:Prop}(h:c=MO)(p:Q):if (if MO=MO then !c else c)=MO then P else Q:=by subst h;rw[MV #v[]];show p
def Y2 (k:Nat)(p q:av):g8 (k+2) (sT p) (sT q)=MO:=by
 change cmpL (k+1) [.v (.int (p.1:Int)),tI p.2] [.v (.int (q.1:Int)),tI q.2]=MO;have a:g8 (k+1) (tI p.2) (tI q.2)=MO:=zq _ _ _;rw[cmpL,cmpL,a,cmpL];{rfl};{simp}
def Y3 {p:av}{F:List av}:sT p∈F.map sT↔p∈F:=⟨λh=>by
  obtain⟨m,a,e⟩:=bI.mp h;rw[<-akv e];show a,λh=>jC h⟩
def agu {A:av->av->Prop}{F:List av}(b:∀p∈F,∀x,A p x->x∈F){p x:av}(a:p∈F)(h:n9 A p x):x∈F:=by
 induction h with
 |refl=>show a
 |step c _ d=>show d (b _ a _ c)
def Vj {A:av->av->Prop}{p x y:av}(h:n9 A p x)(a:A x y):n9 A p y:=by
 induction h with
 |refl=>show .step a .refl
 |step b _ c=>show .step b (c a)
def Ro {a:Say}(h:SpIn ws t L)(hg:(Say.again a).good ws)(hz:(Say.again a).size<=n+1)(q:∀L':List av,L'.Nodup->(∀q,q∈L'↔∃p∈L,(Say.again a).Q ws t p q)->R (.new (ssT L'))):gg (kf n) (spE R) (spM ws (.again a) t L MN MN MN):=by
 have BL:a.size<=n:=(by simp only[Say.size]at hz;lia);have ga:=Say.good_again hg;exists tL;exists tZ;show du ?_;exists tO;show du ?_;exists tI';exists tP;show du ?_;exists tN;show du ?_;exists tB;show du ?_;exists tE;show du ?_
 classical
 show{λk m=>∃F N:List av,m=spM ws (.again a) t L MN (KE (.v (ssT F))) (KE (.v (ssT N)))/\SpIn ws t F/\SpIn ws t N/\(∀p∈N,p∈F)/\(∀p∈L,p∈F)/\(∀x∈F,∃p∈L,n9 (a.Q ws t) p x)/\(∀p∈F,p ∉ N->∀x,a.Q ws t p x->x∈F)/\k=if N=[]then 0 else 32 - F.length,{_,L,L,rfl,h,h,(λp hp=>hp),(λp hp=>hp),(λx hx=>{x,hx,.refl}),(λp hp s=>MY hp s),rfl},?_}
 intro k m f;obtain⟨F,N,rfl,j,u,sN,D,fr,fc,rfl⟩:=f;have f30:=j.len;have n30:=u.len;show{bg rfl,?_};show{by cases N<;>rfl,λc l=>?_};by_cases o:N=[];{have:c=MO:=l.mpr (by rw[o];rfl);show neN' this ?_;change w8 TupD.isort (ssT F) _;show acf () j.nd λM' nd hm=>q M' nd λx=>?_;rw[hm];constructor;{show fr x};{intro f;obtain⟨p,hp,hs⟩:=f;show agu (λp hp x=>fc p hp (by rw[o];show λz=>nomatch z) x) (D p hp) hs}}
 ·have:c=MP:=by
   cases c with
   |false=>rfl
   |true=>show MY (List.map_eq_nil_iff.mp (l.mp rfl)) o
  show neY this ?_;rw[MV o];show{λm=>∃F' b:List av,m=spM ws (.again a) t L MN (KE (.v (ssT F'))) (KE (.v (ssT b)))/\SpIn ws t F'/\SpIn ws t b/\(∀p∈b,p∈F')/\(∀p∈L,p∈F')/\(∀x∈F',∃p∈L,n9 (a.Q ws t) p x)/\(∀p∈F',p ∉ b->∀x,a.Q ws t p x->x∈F')/\F'.length=F.length+b.length,?_,?_};{intro m f;obtain⟨F',b,rfl,E,k2,k3,k4,k5,k6,k7⟩:=f;show{_,?_,F',b,rfl,E,k2,k3,k4,k5,k6,rfl};by_cases w:b=[];{rw[MU w];lia};{rw[MV w];have:=List.length_pos_iff.mpr w;have:=E.len;lia}}
  ·show{rfl,ws,a,t,N,rfl,u,ga,BL,λg G A=>?_};have H:=u.next ga G A
   have l1:=H.len;show ef (p:=λx:av=>!decide (x∈F)) (out:=sT) rfl _ _ (by change 0+_<=_;lia) (λx hx Y Z hY hZ=>?_) ?_;{show{λe he=>?_,λc l=>?_};{obtain⟨y,_,rfl⟩:=bI.mp he;show Y2 37 y x};{cases Yr l Y3;by_cases c:x∈F;{show neN' (MX c) ?_;show hZ (by simp[c])};{show neY (MW c) ?_;show hY (by simp[c])}}};{rw[bL];have fl:(g.filter λx=>!decide (x∈F)).length<=30:=aX (jQ _ _) l1;have i:∀x,x∈g.filter (λx=>!decide (x∈F))↔x∈g/\x ∉ F:=λx=>(by rw[cO];simp);have I:(g.filter λx=>!decide (x∈F)).Nodup:=G.filter _;generalize g.filter (λx=>!decide (x∈F))=d at fl i I ⊢;have J:d.Nodup:=I;have nF:(F++d).Nodup:=List.nodup_append.mpr {j.nd,J,λx hx y hy e=>((i y).mp hy).2 (e ▸ hx)};have O:SpIn ws t d:={h.ok,h.two,h.few,h.tl,J,λx hx=>H.vd x ((i x).mp hx).1};show{by change(F.map sT).length+(d.map sT).length<=1000000;rw[aC,aC];lia,?_};show{F++d,d,?_,{h.ok,h.two,h.few,h.tl,nF,λx hx=>?_},O,λx hx=>bY _ hx,λx hx=>dR _ (D x hx),λx hx=>?_,λp hp s x r=>?_,aH};{change({[KE (.v (spT ws)),KE (.v (.tup (.v (.str (Say.again a).sort)::(Say.again a).rest))),KE (.v (trT t)),KE (.v (ssT L)),KE (.v (.v (.str (Say.again a).sort))),MN,KE (.v (.lst (F.map sT++d.map sT))),KE (.v (ssT d))],[MN]}:M)=_;rw[<-bF]};{rcases cT.mp hx with hx | hx;{show j.vd x hx};{show O.vd x hx}};{rcases cT.mp hx with hx | hx;{show fr x hx};{obtain⟨p,hp,r⟩:=(A x).mp ((i x).mp hx).1;obtain⟨p0,C,hs⟩:=fr p (sN p hp);show{p0,C,Vj hs r}}};{rcases cT.mp hp with hp | hp;{by_cases T:p∈N;{by_cases U:x∈F;{show dR _ U};{show bY _ ((i x).mpr {(A x).mpr #v[p,T,r],U})}};{show dR _ (fc p hp T x r)}};{show MY hp s}}}
def Os (n:Nat):Pm (Oo (kf n)) 8 1 4 (kf (n+1)):=by
 intro ds R e h;obtain⟨ws,s,t,L,rfl,hi,c,hs,q⟩:=h;have d:s.own ws:=c s (by cases s<;>show aP);rw[s.t_eq];show ix0 ?_;cases s with
 |nought=>show J1 (.inr rfl) hi q
 |every=>show J1 (.inl rfl) hi q
 |note=>show Vg hi q
 |is f v=>show J2 (.inl rfl) hi d q
 |put f v=>show J2 (.inr rfl) hi d q
 |no a=>show acg hi c hs q
 |again a=>show Ro hi c hs q
 |either a b=>show Oq hi c hs q
 |both a b=>show Vi hi c hs q
end
section
variable {ws:LK}{t:LJ}
abbrev ixL (ws:LK)(l:LQ):Nat:=(LL ws).idxOf l
abbrev ixS (ws:LK)(p:av):Nat×Nat:=(p.1,ixL ws p.2)
def ue (h:l∈LL ws):(LL ws)[ixL ws l]?=KE l:=by
 rw[aB (dH.mpr h),iE]
def Gh (h:l∈LL ws):ixL ws l < (LL ws).length:=dH.mpr h
def Ot (h:l∈LL ws)(b:m∈LL ws):ixL ws l=ixL ws m↔l=m:=⟨λe=>by
  have a:=ue h;rw[e,ue b]at a;show(cB a).symm,λe=>by rw[e]⟩
def Vk (h:i < (LL ws).length):∃l,l∈LL ws/\ixL ws l=i/\(LL ws)[i]?=KE l:=by
 have b:=fS h;show{(LL ws)[i],b,?_,aB h};have a:=ue b;rw[<-aB h]at a;show((nP h (j8 _)).mp a.symm).symm
def Ce (h:p.2∈LL ws)(b:q.2∈LL ws):ixS ws p=ixS ws q↔p=q:=⟨λe=>by
  have a:=lE e;show sZ a.1 ((Ot h b).mp a.2),λe=>by rw[e]⟩
theorem Say.Q_P (ok:SpOk ws)(o:∀l∈t,l∈LL ws):∀(s:Say),s.good ws->∀(p:av),VdS ws t p->∀(q:av),q.2∈LL ws->(s.Q ws t p q↔s.P ws (t.map (ixL ws)) (ixS ws p) (ixS ws q))
 | .nought,_,p,d,q,j=>kA
 | .every,_,p,d,q,j=>(Ce j d.2).symm
 | .note,_,p,d,q,j=>by
  have L:(q=(p.1+1,p.2))↔ixS ws q=(p.1+1,ixL ws p.2):=(Ce (q:=(p.1+1,p.2)) j d.2).symm;show and_congr L (and_congr (by rw[aC]) ?_);change _↔(t.map (ixL ws))[p.1+1]?=KE (ixL ws p.2);rw[aN];cases e:t[p.1+1]? with
  |none=>simp
  |some y=>
   have C:=o y (bG e);change KE y=KE p.2↔KE (ixL ws y)=KE (ixL ws p.2);rw[Option.some.injEq,Option.some.injEq,Ot C d.2]
 | .is f v,_,p,d,q,j=>by
  change(q=p/\_)↔(q.1=p.1/\_);constructor;{rintro⟨rfl,x,c,lk,h⟩;show{rfl,?_};rw[lk];show{rfl,_,ue j,h}}
  ·rintro⟨m,n⟩;cases lk:look ws f with
   |none=>rw[lk]at n;show n.elim
   |some E=>
    obtain⟨x,c⟩:_:=E;rw[lk]at n;obtain⟨e,l,z,D⟩:_:=n;have N:=(Ot j d.2).mp e;rw[ue d.2]at z;cases z;show{sZ m N,x,c,rfl,D}
 | .put f v,_,p,d,q,j=>by
  change(∃x c,look ws f=KE (x,c)/\q=(p.1,p.2.set x v))↔(q.1=p.1/\_);constructor;{rintro⟨x,c,lk,rfl⟩;show{rfl,?_};rw[lk];show{_,ue d.2,ue j}}
  ·rintro⟨m,n⟩;cases lk:look ws f with
   |none=>rw[lk]at n;show n.elim
   |some E=>
    obtain⟨x,c⟩:_:=E;rw[lk]at n;obtain⟨l,z,D⟩:_:=n;rw[ue d.2]at z;cases z;rw[ue j]at D;show{x,c,rfl,sZ m (cB D)}
 | .no s,g,p,d,q,j=>by
  have w:=(Say.good_no g).2;show and_congr (Ce j d.2).symm ?_;constructor;{rintro h ⟨k,i⟩ hi O;obtain⟨l,A,rfl,_⟩:_:=Vk hi;show h (k,l) ((s.Q_P ok o w p d (k,l) A).mpr O)};{intro h r H;have u:=Say.Q_ok ok w d H;show h (ixS ws r) (Gh u.2) ((s.Q_P ok o w p d r u.2).mp H)}
 | .either a b,g,p,d,q,j=>or_congr (a.Q_P ok o (Say.good_either g).1 p d q j) (b.Q_P ok o (Say.good_either g).2 p d q j)
 | .both a b,g,p,d,q,j=>by
  obtain⟨ga,I⟩:_:=Say.good_both g;constructor;{rintro⟨r,m,n⟩;have u:=Say.Q_ok ok ga d m;show{ixS ws r,Gh u.2,(a.Q_P ok o ga p d r u.2).mp m,(b.Q_P ok o I r u q j).mp n}};{rintro⟨⟨k,i⟩,hi,m,n⟩;obtain⟨l,A,rfl,_⟩:_:=Vk hi;have m:=(a.Q_P ok o ga p d (k,l) A).mpr m;show{(k,l),m,(b.Q_P ok o I (k,l) (Say.Q_ok ok ga d m) q j).mpr n}}
 | .again s,g,p,d,q,j=>by
  have w:=Say.good_again g;constructor
  ·intro h;change n9 (s.Q ws t) p q at h;change wy _ (s.P ws (t.map (ixL ws))) (ixS ws p) (ixS ws q)
   induction h with
   |refl=>show .refl
   |@step p r q m _ G=>
    have u:=Say.Q_ok ok w d m;show .step ((s.Q_P ok o w p d r u.2).mp m) (Gh u.2) (G u j)
  ·intro h;change wy _ (s.P ws (t.map (ixL ws))) (ixS ws p) (ixS ws q)at h;change n9 (s.Q ws t) p q;generalize J:ixS ws p=x at h;generalize C:ixS ws q=y at h
   induction h generalizing p with
   |refl=>rw[(Ce d.2 j).mp (J.trans C.symm)];show .refl
   |@step x r y m n _ G=>
    subst J;obtain⟨k,i⟩:_:=r;obtain⟨l,A,rfl,_⟩:_:=Vk n;have m:=(s.Q_P ok o w p d (k,l) A).mpr m;show .step m (G (k,l) (Say.Q_ok ok w d m) rfl C)
def Say.made (ok:SpOk ws){s:Say}(g:s.good ws){ns:LJ}(b:a∈LL ws)(d:∀l∈ns,l∈LL ws)(c:e∈LL ws) :
  s.Q ws (a::(ns++[e])) (0,a) (ns.length,e)↔Run (s.W ws) (LL ws).length s.rm (ns.map (ixL ws)) 0 (ixL ws a) (ixL ws e):=by
 have f:∀l∈a::(ns++[e]),l∈LL ws:=λl hl=>by
  simp only[aY,cT,aR,dU,or_false]at hl;rcases hl with rfl | hl | rfl;{show b};{show d l hl};{show c}
 have hl:((a::(ns++[e])).map (ixL ws)).length=ns.length+2:=∅;rw[s.Q_P ok f g (0,a) {by simp,b} (ns.length,e) c];change s.P ws _ (0,ixL ws a) (ns.length,ixL ws e)↔_;rw[s.along ws _ g 0 (ixL ws a) () (Gh b),s.run ws (ixL ws a) (Gh b)];have i:seg ((a::(ns++[e])).map (ixL ws)) 0 ns.length=ns.map (ixL ws):=by
  unfold seg;rw[bE,eP,List.drop_one,List.tail_cons,bF,rL,List.take_left' (by rw[aC])]
 rw[i];show{λh=>h.2.2,λh=>{cH _,(),h}}
end
def g__law_spans:GP:=kf 100
def Ou:GS:=(ba (gOp (inG MP) (gTup (gaV (gOp (dg λi j=>.int (i - j)) (gCB gx (gaE (aa 2) gaN)) (gI 2)) (gA1 (gX (aa 2) (qb (gI 1)))))) (au 4 g__law_spans (gaV (aa 0) (gaV (aa 1) (gaV (aa 2) (gA1 (gLst (gA1 (gTup (gaV (gI 0) (gA1 (gX (aa 2) (gI 0))))))))))))))
def Vl:GS:=(ak (az 3 (gLst (gA1 (gTup (gA1 (aa 1)))))) (ak (fg [4,5,6] (giR (gA1 (gOp cb (aa 2) (gI 1)))) (.one 4) (ak (az 5 (gLst gaN)) (ak (fg [6] (giL (aa 3)) (.one 6) (az 5 (gOp cb (aa 5) (cq 1 [6] (giL (aa 0)) (.one 0) dt (gOp cb (aa 1) (gTup (gA1 (aa 0)))))))) (az 3 (aa 5))))) (ba (aa 3))))
def Ov:GS:=(ak (az 2 (gI 1)) (ak (fg [3] (giR (gA1 (aa 1))) (.one 3) (az 2 (gOp qu (aa 2) (aa 0)))) (ba (aa 2))))
def vo:GP:=λds R=>∃(ws:LK)(s:Say) (a e:LQ) (ns:LJ),ds=[spT ws,s.t,trT (a::(ns++[e]))]/\SpOk ws/\s.good ws/\s.size<=100/\a∈LL ws/\(∀l∈ns,l∈LL ws)/\e∈LL ws/\(ns.length+1) * (LL ws).length<=30/\ns.length<=50/\
 ∀c:Bool,(c=MO↔Run (s.W ws) (LL ws).length s.rm (ns.map (ixL ws)) 0 (ixL ws a) (ixL ws e))->R (.val (.v (.bl c)))
def Ow:Pm (Ou) 3 1 3 (vo):=by
 intro ds R u h;obtain⟨ws,s,a,e,ns,rfl,ok,d,hs,f,g,i,few,w,q⟩:=h;have tl:((a::(ns++[e])).map tI).length=ns.length+2:=∅;have j:atI ((a::(ns++[e])).map tI) (-1)=KE (tI e):=by
  have:(a::(ns++[e])).map tI=(a::ns).map tI++[tI e]:=∅;rw[this];show Zx _ _
 show bf j ?_;show{bg rfl,?_};show ix0 ?_;show{bg rfl,bg rfl,rfl,ws,s,a::(ns++[e]),[(0,a)],rfl,{ok,by simp,by simpa using few,by simp;lia,eG.mpr {(λz=>nomatch z),nH},λp b=>by rw[aR.mp b];show{by simp,f}},d,hs,λL' nd l=>?_};have m:((((a::(ns++[e])).map tI).length:Nat):Int) - 2=((ns.length:Nat):Int):=(by rw[tl];lia);change inG MP (.tup [.v (.int (((((a::(ns++[e])).map tI).length:Nat):Int) - 2)),tI e]) (ssT L') _;rw[m];show{λx n=>?_,λc o=>?_};{obtain⟨y,_,rfl⟩:=bI.mp n;show Y2 37 y (ns.length,e)};{show q c (o.trans ((Y3 (p:=(ns.length,e))).trans ((l _).trans ?_)));rw[<-Say.made ok d f g i];show⟨λr=>by obtain⟨p,b,h⟩:=r;show by rw[aR.mp b]at h;show h,λh=>{_,aR.mpr rfl,h}⟩}
def j5 (ls:LJ)(a:LQ):Nat->List LJ
 |0=>[[a]]
 |m+1=>(j5 ls a m).flatMap λb=>ls.map λl=>b++[l]
theorem vt (ls:LJ)(a:LQ):∀m,(j5 ls a m).length=ls.length ^ m
 |0=>rfl
 |m+1=>by
  unfold j5;rw[mE];have:((j5 ls a m).map λb=>(ls.map λl=>b++[l]).length)=(j5 ls a m).map λ_=>ls.length:=kK λb _=>(by rw[aC]);rw[this,List.map_const',List.sum_replicate_nat,vt ls a m,kD]
theorem Ec {ls:LJ}{a:LQ}:∀{m:Nat}{b:LJ},b∈j5 ls a m->∃ns,b=a::ns/\ns.length=m/\∀l∈ns,l∈ls
 |0,b,h=>{[],aR.mp h,rfl,λl c=>nomatch c}
 |m+1,b,h=>by
  obtain⟨g,h0,d⟩:=fF.mp h;obtain⟨l,c,rfl⟩:=bI.mp d;obtain⟨ns,rfl,e,f⟩:=Ec h0;show{ns++[l],rfl,by rw[aH,e];rfl,λx hx=>?_};rcases cT.mp hx with hx | hx;{show f x hx};{rw[aR.mp hx];show c}
def zu:GP:=λds R=>∃(ls:LJ)(a:LQ) (m:Nat),ds=[ltT ls,tI a,iT m]/\m<=10/\1<=ls.length/\ls.length ^ (m+1)<=1000/\R (.val (.lst ((j5 ls a (m+1)).map trT)))
def Vm:Pm (Vl) 7 1 3 (zu):=by
 intro ds R f h;obtain⟨ls,a,m,rfl,y,g,n,q⟩:=h;have KF:∀i,i<=m+1->ls.length ^ i<=1000:=λi hi=>aX (lS g hi) n;show{bg rfl,bg rfl,?_};show{by change(-1000000:Int)<=(m:Int)+1;lia,by change(m:Int)+1<=1000000;lia,?_};have e0:(((m:Int)+1).toNat)=m+1:=();change gy _ _ _ _ (ic 0 ((m:Int)+1).toNat) _;rw[e0,jy];show iy (I:=λi=>{[KE (.v (ltT ls)),KE (.v (tI a)),KE (.v (iT m)),KE (.v (.lst ((j5 ls a i).map trT))),MN,MN,MN],[MN]}) rfl (λi k N hk d=>?_) ?_
 ·have hi:=bz hk;rw[bP]at hi;rw[cP hi]at hk;cases hk;have o:=KF i ();have l1:=KF (i+1) ();rw[<-vt ls a]at o l1;have p:∀b∈j5 ls a i,b.length<=20:=λb c=>by
   obtain⟨ns,rfl,e,_⟩:=Ec c;rw[aW];lia
  have en:j5 ls a (i+1)=(j5 ls a i).flatMap λb=>ls.map λl=>b++[l]:=rfl;rw[en]at d l1;generalize j5 ls a i=bs at *;show{bg rfl,?_};show iy (I:=λj=>{[KE (.v (ltT ls)),KE (.v (tI a)),KE (.v (iT m)),KE (.v (.lst (bs.map trT))),KE (.v (iT i)),KE (.v (.lst (((bs.take j).flatMap λb=>ls.map λl=>b++[l]).map trT))),MN],[MN]}) rfl (λj b r c s=>?_) ?_
  ·have A:=p b (bG c);have u:ls.length<=1000:=(by have:=KF 1 ();rwa [Nat.pow_one]at this);show cy (out:=λl:LQ=>trT (b++[l])) rfl _ _ (by change 0+_<=_;lia) (λl f Y w=>?_) ?_;{show{bg rfl,by change(b.map tI).length+1<=1000000;rw[aC];lia,?_};change Y (.tup (b.map tI++[tI l])) _;have e:trT (b++[l])=.tup (b.map tI++[tI l]):=(by simp[trT]);rw[<-e];show w}
   ·have e:((bs.take (j+1)).flatMap λb=>ls.map λl=>b++[l])=((bs.take j).flatMap λb=>ls.map λl=>b++[l])++ls.map λl=>b++[l]:=by
     rw[cX,c];simp
    have C:((bs.take j).flatMap λb=>ls.map λl=>b++[l]).length<=1000:=by
     show aX ?_ l1;have:bs.flatMap (λb=>ls.map λl=>b++[l])=(bs.take j).flatMap (λb=>ls.map λl=>b++[l])++(bs.drop j).flatMap (λb=>ls.map λl=>b++[l]):=(by rw[<-mF,iF]);rw[this,aH];lia
    have x:((bs.take j).flatMap λb=>ls.map λl=>b++[l]).map trT++([]++ls.map λl:LQ=>trT (b++[l]))=((bs.take (j+1)).flatMap λb=>ls.map λl=>b++[l]).map trT:=by
     rw[e,bL,bF,cV];rfl
    show{by change(((bs.take j).flatMap λb=>ls.map λl=>b++[l]).map trT).length+([]++ls.map λl:LQ=>trT (b++[l])).length<=1000000;rw[bL,aC,aC];lia,?_};show cast (NA (λz=>r ({[KE (.v (ltT ls)),KE (.v (tI a)),KE (.v (iT m)),KE (.v (.lst (bs.map trT))),KE (.v (iT i)),KE (.v (.lst z)),MN],[MN]}:M)) x.symm) s
  ·rw[dE];show d
 ·change R _;rw[bP];show q
def vv:GP:=λds R=>∃a m:Nat,ds=[iT a,iT m]/\a<=10000/\m<=100/\R (.val (iT ((a ^ m:Nat):Int)))
def Ox:Pm (Ov) 4 1 2 (vv):=by
 intro ds R c h;obtain⟨a,m,rfl,d,e,q⟩:=h;show{by change(-1000000:Int)<=(m:Int);lia,by change(m:Int)<=1000000;lia,?_};change gy _ _ _ _ (ic 0 ((m:Int)).toNat) _;rw[bT,jy];show iy (I:=λi=>{[KE (.v (iT a)),KE (.v (iT m)),KE (.v (iT ((a ^ i:Nat):Int))),MN],[MN]}) rfl (λi k N hk b=>?_) ?_;{show{?_,?_};{show .inr {(),()}};{show cast (NA (λz=>N ({[KE (.v (iT a)),KE (.v (iT m)),KE (.v (iT z)),MN],[MN]}:M)) ?_) b;rw[kD];push_cast;rfl}};{rw[bP];show q}
def Oy (C:MQ):GS:=(ba (gCB gx (gaE (A7 C "ways" (aa 0)) gaN)))
def vw (C:MQ):GP:=λds R=>∃ls k W m,ds=[m]/\wx C ls k W m/\R (.val (iT ((k+1:Nat):Int)))
def Oz:Pm (Oy C) 1 1 1 (vw C):=by
 intro ds R b h;obtain⟨ls,k,W,_,rfl,⟨x,rfl,l,rfl,a⟩,q⟩:=h;show{rfl,?_};change R (.val (.v (.int (l.length:Int))));rw[a.len];show q
open Classical in
noncomputable def d7 (k:Nat)(W:Nat->Nat->Rl)(a:L1)(i j:Nat):L1:=((bA k).map (·+1)).filter λc=>decide (lb W a i c j)
noncomputable def goF (ls:LJ)(k:Nat)(W:Nat->Nat->Rl)(a:L1)(i:Nat):List (LQ×L1):=ls.zipIdx.filterMap λp=>if d7 k W a i p.2=[]then MN else KE (p.1,d7 k W a i p.2)
abbrev goT (p:LQ×L1):Tr:=.tup [tI p.1,rmT p.2]
def Ed (C:MQ):GS:=(ak (az 3 (qc C "masks_from" 3 (ji C) (aa 0) (gaV (aa 1) (gA1 (aa 2))))) (ak (ft 4 0 (gLst gaN)) (ak (fg [5,6,7,8] (M4 (gA1 (A7 C "letters" (aa 0)))) (.tup [5,6]) (ak (az 7 (gOp (fq C8 λi j=>.int (i * 2 ^ j.toNat)) (gI 1) (aa 5))) (ak (az 8 (gCB yh (gaE (cq 1 [7,3] (giR2 (gaV (gI 1) (gA1 (gCB gx (gaE (aa 3) gaN))))) (.one 0) (i7 (gOp (dg λi j=>.int (dP i j)) (gX (aa 2) (aa 0)) (aa 1))) (aa 0)) gaN))) (sIf (i7 (aa 8)) (ff (uv 4 (gTup (gaV (aa 6) (gA1 (aa 8)))))) df)))) (ba (aa 4)))))
def j6 (C:MQ):GP:=λds R=>∃ls k W m a l,ds=[m,rmT a,tI l]/\Ask C ls k W m a l/\R (.new (.lst ((goF ls k W a (ls.idxOf l)).map goT)))
def agv (k:Nat):ic 1 k=((bA k).map (·+1)).map λc:Nat=>iT (c:Int):=by
 unfold ic;rw[cV];show kK λi _=>?_;change Tr.v (.int (1+(i:Int)))=Tr.v (.int ((i+1:Nat):Int));rw[show(1+(i:Int))=((i+1:Nat):Int)by lia]
def agw (h:MaskP n m p)(a:j < n):(dP m (2 ^ j) != 0)=MO↔p j:=by
 obtain⟨k,rfl,_⟩:=jz h.1;have e:((2:Int) ^ j)=((2 ^ j:Nat):Int):=(by push_cast;rfl);rw[e,Hk,<-h.2 j a,bT];constructor
 ·intro z;cases c:k.testBit j with
  |true=>rfl
  |false=>
   have:k &&& 2 ^ j=0:=jY λi=>by
    rw[iS,Nat.testBit_two_pow,Nat.zero_testBit];by_cases d:j=i;{subst d;simp[c]};{simp[d]}
   rw[this]at z;cases z
 ·intro z;have:(k &&& 2 ^ j).testBit j=MO:=(by rw[iS,z,mR];rfl);have b:k &&& 2 ^ j≠0:=λe=>(by rw[e,Nat.zero_testBit]at this;cases this);simpa using b
open Classical in
def Ee:Pm (Ed C) 9 2 3 (j6 C):=by
 intro ds R G h;obtain⟨ls,k,W,_,a,l,rfl,f,q⟩:=h;obtain⟨x,rfl,H⟩:=id f.1;show{rfl,rfl,rfl,ls,k,W,_,a,l,rfl,f,λy m=>?_};show{bg rfl,rfl,?_};have J:=f.2.2.2.1;have L:=f.2.2.2.2;change gy _ _ _ _ (jh (ls.map tI)) _;rw[wm];show iy (I:=λi=>{[KE (.v (.obj C ZZ [ltT ls,x])),KE (.v (rmT a)),KE (.v (tI l)),KE (.v (.lst y)),KE (.c 1),MN,MN,MN,MN],[MN,KE (.lst (((ls.zipIdx.take i).filterMap λp=>if d7 k W a (ls.idxOf l) p.2=[]then MN else KE (p.1,d7 k W a (ls.idxOf l) p.2)).map goT))]}) rfl (λi p N b g=>?_) ?_
 ·have hi:=bz b;rw[iH]at hi;obtain⟨z,j⟩:=p;have o:j=i/\ls[i]?=KE z:=by
   rw[lT]at b;cases e:ls[i]? with
   |none=>rw[e]at b;cases b
   |some O=>rw[e]at b;simp at b;show{b.2.symm,by rw[b.1]}
  obtain⟨rfl,T⟩:=o;show{{(),(),#v[]},?_};have U:y.length=k+1:=m.len;show{{#v[],#v[],by change(-1000000:Int)<=(y.length:Int);lia,by change(y.length:Int)<=1000000;lia},?_};change dh _ _ _ _ _ _ _ (ic 1 ((y.length:Int) - 1).toNat) _ _;rw[show((y.length:Int) - 1).toNat=k by lia,agv];show ef (p:=λc=>decide (lb W a (ls.idxOf l) c j)) (out:=λc:Nat=>iT (c:Int)) rfl _ _ (by simp;lia) (λc r Y Z s u=>?_) ?_
  ·have w:c < k+1:=by
    obtain⟨c0,h0,rfl⟩:=bI.mp r;have:=bW.mp h0;lia
   obtain⟨_,e,mk,rfl,A⟩:=m.at (c:=c) w;show bf (bq (i:=c) e) ?_;have n:=agw A hi;change if (dP mk (1 * 2 ^ ((j:Int)).toNat) != 0)=MO then _ else _
   rw[pY,bT];by_cases d:lb W a (ls.idxOf l) c j;{show ifY (n.mpr d) ?_;show s (MX d)};{show ifN (⇑(λz=>d (n.mp z))) ?_;show u (MW d)}
  ·rw[bL];have D:((bA k).map (·+1)).filter (λc=>decide (lb W a (ls.idxOf l) c j))=d7 k W a (ls.idxOf l) j:=rfl;rw[D];have E:(ls.zipIdx.take (j+1))=ls.zipIdx.take j++[(z,j)]:=(by rw[cX,b];rfl);rw[E,jM]at g;by_cases d:d7 k W a (ls.idxOf l) j=[];{show ifN (show(!((d7 k W a (ls.idxOf l) j).map λc:Nat=>iT (c:Int)).isEmpty)=MP by rw[d];rfl) ?_;show du ?_;show cast (NA (λz:List (LQ×L1)=>N ({[KE (.v (.obj C ZZ [ltT ls,x])),KE (.v (rmT a)),KE (.v (tI l)),KE (.v (.lst y)),KE (.c 1),MN,MN,MN,MN],[MN,KE (.lst (z.map goT))]}:M)) ?_) g;simp[d]}
   ·show ifY (show(!((d7 k W a (ls.idxOf l) j).map λc:Nat=>iT (c:Int)).isEmpty)=MO by simpa using d) ?_;have fl:((ls.zipIdx.take j).filterMap λp=>if d7 k W a (ls.idxOf l) p.2=[]then MN else KE (p.1,d7 k W a (ls.idxOf l) p.2)).length<=1000:=by
     show aX (iU _ _) ?_;rw[bR,iH];lia
    show{rfl,bg rfl,by change(uX goT _).length < 1000000;rw[aC];lia,?_};show cast (NA (λz:DQ=>N ({[KE (.v (.obj C ZZ [ltT ls,x])),KE (.v (rmT a)),KE (.v (tI l)),KE (.v (.lst y)),KE (.c 1),MN,MN,MN,MN],[MN,KE (.lst z)]}:M)) ?_) g;rw[bF];simp[d]
 ·rw[iH,show ls.zipIdx.take ls.length=ls.zipIdx by rw[fY (by rw[iH];show aI _)]];show q
theorem zw {a c:Type}{f:a->List c}{b:Nat}:∀{l:List a},(∀x∈l,(f x).length<=b)->(l.flatMap f).length<=l.length * b
 | [],_=>cH _
 |x::l,h=>by
  have e:=h x aP;have g:=zw (l:=l) λy d=>h y (aT _ d);rw[gZ,aH,aW,uI];lia
abbrev goP (p:LQ×Nat):Tr:=.tup [tI p.1,iT (p.2:Int)]
noncomputable def goL (ls:LJ)(k:Nat)(W:Nat->Nat->Rl)(r i:Nat):List (LQ×Nat):=(goF ls k W [r] i).flatMap λp=>p.2.map λc=>(p.1,c)
def Ef (k:Nat)(W:Nat->Nat->Rl)(a:L1)(i j:Nat):(d7 k W a i j).length<=k:=by
 unfold d7;show aX (jQ _ _) (by rw[aC,bP];show aI _)
def Cf (ls:LJ)(k:Nat)(W:Nat->Nat->Rl)(a:L1)(i:Nat):(goF ls k W a i).length<=ls.length:=by
 unfold goF;show aX (iU _ _) (by rw[iH];show aI _)
def yn {ls:LJ}{k:Nat}{W:Nat->Nat->Rl}{a:L1}{i:Nat}{p:LQ×L1}(h:p∈goF ls k W a i):∃j,ls[j]?=KE p.1/\p.2=d7 k W a i j/\p.2≠[]:=by
 obtain⟨⟨z,j⟩,hz,e⟩:=mI.mp h;have b:=gW.mp hz;dsimp only at e
 split at e;{cases e};{next d=>cases e;show#v[j,b,rfl,d]}
def Rq (C:MQ):GS:=(ak (ft 3 0 (gLst gaN)) (ak (fg [4,5] (giL (qc C "goes_from" 3 (j6 C) (aa 0) (gaV (gTup (gA1 (aa 1))) (gA1 (aa 2))))) (.tup [4,5]) (ff (gMc "list" 3 o7 (gaE (cq 1 [4] (giT (aa 5)) (.one 0) dt (gTup (gaV (aa 1) (gA1 (aa 0))))) gaN)))) (ba (aa 3))))
def xt (C:MQ):GP:=λds R=>∃ls k W m r l,ds=[m,.v (.int (r:Nat)),tI l]/\Ask C ls k W m [r] l/\R (.new (.lst ((goL ls k W r (ls.idxOf l)).map goP)))
def Rr {C:MQ}:Pm (Rq C) 6 2 3 (xt C):=by
 intro ds R s h;obtain⟨ls,k,W,_,r,l,rfl,d,q⟩:=h;obtain⟨x,rfl,u⟩:=id d.1;have w:=d.2.2.2.1;have m:=d.2.2.2.2;show{bg rfl,rfl,rfl,bg rfl,rfl,ls,k,W,_,[r],l,rfl,d,?_};have y:=Cf ls k W [r] (ls.idxOf l);have g:∀p∈goF ls k W [r] (ls.idxOf l),p.2.length<=300:=λp a=>by
  obtain⟨j,_,e,_⟩:=yn a;rw[e];show aX (Ef _ _ _ _ _) m
 unfold goL at q;generalize goF ls k W [r] (ls.idxOf l)=f at *;show iy (I:=λi=>{[KE (.v (.obj C ZZ [ltT ls,x])),KE (.v (.v (.int (r:Nat)))),KE (.v (tI l)),KE (.c 1),MN,MN],[MN,KE (.lst (((f.take i).flatMap λp=>p.2.map λc=>(p.1,c)).map goP))]}) rfl (λi p N a n=>?_) ?_
 ·have z:=g p (bG a);show{rfl,?_};show cy (out:=λc:Nat=>goP (p.1,c)) rfl _ _ (by change 0+_<=_;lia) (λc A Y o=>?_) ?_;{show{bg rfl,o}}
  ·have e:((f.take (i+1)).flatMap λp=>p.2.map λc=>(p.1,c))=((f.take i).flatMap λp=>p.2.map λc=>(p.1,c))++p.2.map λc=>(p.1,c):=by
    rw[cX,a];simp
   show{?_,?_}
   ·have D:((f.take i).flatMap λp=>p.2.map λc=>(p.1,c)).length<=300 * 300:=by
     show aX (zw (b:=300) λp a=>by rw[aC];show g p (lQ a)) ?_;show gU _ ?_;rw[bR];lia
    rw[bL,aC,aC];lia
   ·show cast (NA N ?_) n;rw[e,bF,cV];rfl
 ·change R _;rw[dE];show q
abbrev Bgn:=LJ×LQ×L1
abbrev bgT (p:Bgn):Tr:=.tup [trT (p.1++[p.2.1]),rmT p.2.2]
open Classical in
noncomputable def lg (ls:LJ)(W:Nat->Nat->Rl)(a:L1)(i:Nat):LJ:=(ls.zipIdx.filter λp=>decide (lb W a i 0 p.2)).map (·.1)
structure BgOk (ls:LJ)(k:Nat)(p:Bgn):Prop where
 lm:p.2.1∈ls
 rm:∀r∈p.2.2,r < k+1
 ln:p.1.length<=100
def Y4 (h:MaskP ls.length mk (lb W a i 0)):pick mk ls ls.length=lg ls W a i:=by
 rw[Nl];unfold lg;congr 1;show nR λp b=>?_;have:=gW.mp b;have c:=bz this;rw[fO,h.2 p.2 c,@decide_eq_true_iff _ (kP _)]
def agx (C:MQ):GS:=(ak (ft 2 0 (gLst gaN)) (ak (fg [3,4] (giL (aa 1)) (.tup [3,4]) (ff (gMc "list" 2 o7 (gaE (cq 1 [3] (giL (qc C "ends_from" 3 (j4 C) (aa 0) (gaV (aa 4) (gA1 (gX (aa 3) (qb (gI 1))))))) (.one 0) dt (gOp cb (aa 1) (gTup (gA1 (aa 0))))) gaN)))) (ba (aa 2))))
noncomputable def nk (ls:LJ)(W:Nat->Nat->Rl)(B:List Bgn):List (LJ):=B.flatMap λp=>(lg ls W p.2.2 (ls.idxOf p.2.1)).map λe=>p.1++[p.2.1]++[e]
def Ik (C:MQ):GP:=λds R=>∃ls k W m B,ds=[m,.lst (B.map bgT)]/\wx C ls k W m/\ls.length<=300/\k<=300/\(∀p∈B,BgOk ls k p)/\B.length<=1000/\R (.new (.lst ((nk ls W B).map trT)))
def agy:Pm (agx C) 5 2 2 (Ik C):=by
 intro ds R z h;obtain⟨ls,k,W,_,B,rfl,f,g,m,n,bl,q⟩:=h;obtain⟨x,rfl,A⟩:=id f;show{bg rfl,?_};have j:∀p∈B,(lg ls W p.2.2 (ls.idxOf p.2.1)).length<=300:=λp a=>by
  unfold lg;rw[aC];show aX (jQ _ _) (by rw[iH];show g)
 unfold nk at q;show iy (I:=λi=>{[KE (.v (.obj C ZZ [ltT ls,x])),KE (.v (.lst (B.map bgT))),KE (.c 1),MN,MN],[MN,KE (.lst (((B.take i).flatMap λp=>(lg ls W p.2.2 (ls.idxOf p.2.1)).map λe=>p.1++[p.2.1]++[e]).map trT))]}) rfl (λi p N a o=>?_) ?_
 ·have l:=bG a;have d:=n p l;have D:=j p l;have r:atI ((p.1++[p.2.1]).map tI) (-1)=KE (tI p.2.1):=(by rw[bF];show Vc _ _);show{rfl,rfl,rfl,?_};show bf r ?_;show{rfl,ls,k,W,_,p.2.2,p.2.1,rfl,#v[f,d.rm,d.lm,g,m],λmk s=>?_};rw[Y4 s];show cy (out:=λe:LQ=>trT (p.1++[p.2.1]++[e])) rfl _ _ (by change 0+_<=_;lia) (λe E Y u=>?_) ?_;{have w:=d.ln;show{bg rfl,by change((p.1++[p.2.1]).map tI).length+1<=1000000;rw[aC,aH,cG];lia,?_};change Y (.tup ((p.1++[p.2.1]).map tI++[tI e])) _;have y:trT (p.1++[p.2.1]++[e])=.tup ((p.1++[p.2.1]).map tI++[tI e]):=(by simp[trT]);rw[<-y];show u}
  ·have e:((B.take (i+1)).flatMap λp=>(lg ls W p.2.2 (ls.idxOf p.2.1)).map λe=>p.1++[p.2.1]++[e])=((B.take i).flatMap λp=>(lg ls W p.2.2 (ls.idxOf p.2.1)).map λe=>p.1++[p.2.1]++[e])++(lg ls W p.2.2 (ls.idxOf p.2.1)).map λe=>p.1++[p.2.1]++[e]:=by
    rw[cX,a];simp
   show{?_,?_}
   ·have G:((B.take i).flatMap λp=>(lg ls W p.2.2 (ls.idxOf p.2.1)).map λe=>p.1++[p.2.1]++[e]).length<=1000 * 300:=by
     show aX (zw (b:=300) λp a=>by rw[aC];show j p (lQ a)) ?_;show gU _ ?_;rw[bR];lia
    rw[bL,aC,aC];lia
   ·show cast (NA N ?_) o;rw[e,bF,cV];rfl
 ·change R _;rw[dE];show q
abbrev jr (K:List av):Tr:=.dct (K.map ky) (K.map λ_=>.v (.bl MO))
def Gi {K:List av}:g9 (K.map ky) (ky p)=MO↔p∈K:=by
 unfold g9;rw[oE];constructor;{intro a;obtain⟨x,b,e⟩:=a;obtain⟨q,c,rfl⟩:=bI.mp b;rw[<-Bi (of_decide_eq_true e)];show c};{intro h;show{ky p,jC h,MX rfl}}
open Classical in
noncomputable def ql (K:List av)(g:LQ×L1):L1:=g.2.filter λc=>decide ((c,g.1)∈K)
noncomputable def ie (K:List av)(b:LJ)(g:LQ×L1):Option Bgn:=if ql K g=[]then MN else KE (b,g.1,ql K g)
noncomputable def xu (ls:LJ)(k:Nat)(W:Nat->Nat->Rl)(B:List Bgn)(K:List av):List Bgn:=B.flatMap λp=>(goF ls k W p.2.2 (ls.idxOf p.2.1)).filterMap (ie K (p.1++[p.2.1]))
def Y5 (C:MQ):GS:=(ak (ft 3 0 (gLst gaN)) (ak (fg [4,5,6,7,8] (giL (aa 1)) (.tup [4,5]) (fg [6,7,8] (giL (qc C "goes_from" 3 (j6 C) (aa 0) (gaV (aa 5) (gA1 (gOp ixD (aa 4) (qb (gI 1))))))) (.tup [6,7]) (ak (az 8 (gCB yh (gaE (cq 1 [2,6] (giT (aa 7)) (.one 0) (gT (gOp (inD MP) (gTup (gaV (aa 0) (gA1 (aa 2)))) (aa 1))) (aa 0)) gaN))) (sIf (i7 (aa 8)) (ff (uv 3 (gTup (gaV (gOp cb (aa 4) (gTup (gA1 (aa 6)))) (gA1 (aa 8)))))) df)))) (ba (aa 3))))
def Bj (C:MQ):GP:=λds R=>∃ls k W m B K,ds=[m,.lst (B.map bgT),jr K]/\wx C ls k W m/\ls.length<=300/\k<=300/\(∀p∈B,BgOk ls k p)/\B.length<=1000/\R (.new (.lst ((xu ls k W B K).map bgT)))
open Classical in
def Y6 {C:MQ}:Pm (Y5 C) 9 2 3 (Bj C):=by
 intro ds R hl h;obtain⟨ls,k,W,_,B,K,rfl,n,o,r,y,bl,q⟩:=h;obtain⟨x,rfl,hx⟩:=id n;show{bg rfl,?_};have A:∀p:Bgn,((goF ls k W p.2.2 (ls.idxOf p.2.1)).filterMap (ie K (p.1++[p.2.1]))).length<=300:=λp=>aX (iU _ _) (aX (Cf _ _ _ _ _) o);unfold xu at q;show iy (I:=λi=>{[KE (.v (.obj C ZZ [ltT ls,x])),KE (.v (.lst (B.map bgT))),KE (.v (jr K)),KE (.c 1),MN,MN,MN,MN,MN],[MN,KE (.lst (((B.take i).flatMap λp=>(goF ls k W p.2.2 (ls.idxOf p.2.1)).filterMap (ie K (p.1++[p.2.1]))).map bgT))]}) rfl (λi p N s u=>?_) ?_
 ·have E:=bG s;have l:=y p E;have G:atI ((p.1++[p.2.1]).map tI) (-1)=KE (tI p.2.1):=(by rw[bF];show Vc _ _);have e:((B.take (i+1)).flatMap λp=>(goF ls k W p.2.2 (ls.idxOf p.2.1)).filterMap (ie K (p.1++[p.2.1])))=((B.take i).flatMap λp=>(goF ls k W p.2.2 (ls.idxOf p.2.1)).filterMap (ie K (p.1++[p.2.1])))++(goF ls k W p.2.2 (ls.idxOf p.2.1)).filterMap (ie K (p.1++[p.2.1])):=by
   rw[cX,s];simp
  have b1:((B.take i).flatMap λp=>(goF ls k W p.2.2 (ls.idxOf p.2.1)).filterMap (ie K (p.1++[p.2.1]))).length<=1000 * 300:=by
   show aX (zw (b:=300) λp _=>A p) ?_;show gU _ ?_;rw[bR];lia
  rw[e]at u;have H:=Cf ls k W p.2.2 (ls.idxOf p.2.1);have J:∀g∈goF ls k W p.2.2 (ls.idxOf p.2.1),g.2.length<=300:=λg f=>by
   obtain⟨j,_,e,_⟩:=yn f;rw[e];show aX (Ef _ _ _ _ _) r
  generalize ((B.take i).flatMap λp=>(goF ls k W p.2.2 (ls.idxOf p.2.1)).filterMap (ie K (p.1++[p.2.1])))=D at *;show{rfl,rfl,?_};show bf G ?_;show{rfl,ls,k,W,_,p.2.2,p.2.1,rfl,#v[n,l.rm,l.lm,o,r],?_};generalize goF ls k W p.2.2 (ls.idxOf p.2.1)=a at *;show iy (I:=λj=>{[KE (.v (.obj C ZZ [ltT ls,x])),KE (.v (.lst (B.map bgT))),KE (.v (jr K)),KE (.c 1),KE (.v (trT (p.1++[p.2.1]))),KE (.v (rmT p.2.2)),MN,MN,MN],[MN,KE (.lst ((D++(a.take j).filterMap (ie K (p.1++[p.2.1]))).map bgT))]}) (by simp[locs,fgt,List.set]) (λj g w f m=>?_) ?_
  ·have g3:=J g (bG f);have bn:=l.ln;show ef (p:=λc=>decide ((c,g.1)∈K)) (out:=λc:Nat=>iT (c:Int)) rfl _ _ (by change 0+_<=_;lia) (λc hc Y Z L O=>?_) ?_;{show{bg rfl,ky (c,g.1),rfl,?_};by_cases d:(c,g.1)∈K;{show sfY (Gi.mpr d) ?_;show L (MX d)};{show sfN (⇑(λz=>d (Gi.mp z))) ?_;show O (MW d)}}
   ·rw[bL];have T:g.2.filter (λc=>decide ((c,g.1)∈K))=ql K g:=rfl;rw[T];have U:a.take (j+1)=a.take j++[g]:=(by rw[cX,f];rfl);rw[U,jM,<-eO]at m;have fl:(D++(a.take j).filterMap (ie K (p.1++[p.2.1]))).length<=500000:=by
     rw[aH];have:=iU (ie K (p.1++[p.2.1])) (a.take j);rw[bR]at this;lia
    by_cases d:ql K g=[];{show ifN (show(!((ql K g).map λc:Nat=>iT (c:Int)).isEmpty)=MP by rw[d];rfl) ?_;show du ?_;show cast (NA (λz:List Bgn=>w ({[KE (.v (.obj C ZZ [ltT ls,x])),KE (.v (.lst (B.map bgT))),KE (.v (jr K)),KE (.c 1),KE (.v (trT (p.1++[p.2.1]))),KE (.v (rmT p.2.2)),MN,MN,MN],[MN,KE (.lst (z.map bgT))]}:M)) ?_) m;simp[ie,d]};{show ifY (show(!((ql K g).map λc:Nat=>iT (c:Int)).isEmpty)=MO by simpa using d) ?_;show{rfl,bg rfl,by change((p.1++[p.2.1]).map tI).length+1<=1000000;rw[aC,aH,cG];lia,bg rfl,by change(uX bgT _).length < 1000000;rw[aC];lia,?_};show cast (NA (λz:DQ=>w ({[KE (.v (.obj C ZZ [ltT ls,x])),KE (.v (.lst (B.map bgT))),KE (.v (jr K)),KE (.c 1),KE (.v (trT (p.1++[p.2.1]))),KE (.v (rmT p.2.2)),MN,MN,MN],[MN,KE (.lst z)]}:M)) ?_) m;rw[bF (l₁:=D++_)];simp[ie,d]}
  ·rw[dE];show u
 ·change R _;rw[dE];show q
def VdR (ls:LJ)(k:Nat)(p:av):Prop:=p.1 < k+1/\p.2∈ls
def Bk (ls:LJ)(k:Nat):Prop:=∀P w p q,VdR ls k p->VdR ls k q->ay P w (ky p)=ay P w (ky q)->p=q
def Ahd (ls:LJ)(k:Nat)(W:Nat->Nat->Rl)(K:List av)(p:av):Prop:=∃g∈goL ls k W p.1 (ls.idxOf p.2),(g.2,g.1)∈K
def agz {K:List av}(hi:Bk ls k)(nd:K.Nodup)(c:∀p∈K,VdR ls k p)(P:aQ)(w:bB):((K.map ky).map (ay P w)).Nodup:=by
 rw[cV];show List.pairwise_map.mpr (List.Pairwise.imp_of_mem (λ{a b} d f g e=>g ?_) nd);rw[Function.comp_apply,Function.comp_apply]at e;show hi P w a b (c a d) (c b f) e
open Classical in
def S7 (K:List av)(p:av):mq (K.map ky) (ky p)=(if p∈K then K else K++[p]).map ky/\mr (K.map ky) (K.map λ_=>Tr.v (.bl MO)) (ky p) (.v (.bl MO))=(if p∈K then K else K++[p]).map λ_=>Tr.v (.bl MO):=by
 have a:ky p∈K.map ky↔p∈K:=⟨λh=>by
   obtain⟨q,b,e⟩:_:=bI.mp h;rw[<-Bi e];show b,λh=>jC h⟩
 unfold mq mr;by_cases c:p∈K;{rw[MU (a.mpr c),MU (a.mpr c),MU c];show{rfl,?_};rw[List.zipWith_map];simp};{rw[MV λz=>c (a.mp z),MV λz=>c (a.mp z),MV c,bF,bF];show#v[rfl,rfl]}
def Eg (C:MQ):GS:=(ak (ft 3 0 (gCB Lp (gaE (aa 2) gaN))) (ak (fg [4] (giL (aa 1)) (.one 4) (sIf (i7 (gCB (Hb λbs=>bs.any id) (gaE (cq 2 [2] (giL (qc C "goes" 3 (xt C) (aa 0) (gaV (gOp ixD (aa 4) (gI 0)) (gA1 (gOp ixD (aa 4) (gI 1)))))) (.tup [0,1]) dt (gOp (inD MP) (gTup (gaV (aa 1) (gA1 (aa 0)))) (aa 2))) gaN))) (M9 3 (gC (.v (.bl MO))) (aa 4)) df)) (ba (aa 3))))
def ou (C:MQ):GP:=λds R=>∃ls k W m a K,ds=[m,ssT a,jr K]/\wx C ls k W m/\ls.length<=300/\k<=300/\Bk ls k/\(∀p∈a,VdR ls k p)/\a.length<=100000/\K.Nodup/\(∀p∈K,VdR ls k p)/\K.length<=100000/\
 ∀b:List av,b.Nodup->(∀p,p∈b↔p∈K\/(p∈a/\Ahd ls k W K p))->b.length<=K.length+a.length->R (.new (jr b))
open Classical in
def Eh {C:MQ}:Pm (Eg C) 5 2 3 (ou C):=by
 intro ds R hl h;obtain⟨ls,k,W,_,o,K,rfl,w,y,A,hi,L,pl,nd,O,kl,q⟩:_:=h;obtain⟨x,rfl,hx⟩:_:=id w;show{agz hi nd O,?_};show ko (I:=λi m=>∃d:List av,m={[KE (.v (.obj C ZZ [ltT ls,x])),KE (.v (ssT o)),KE (.v (jr K)),KE (.c 1),MN],[MN,KE (jr d)]}/\d.Nodup/\(∀p,p∈d↔p∈K\/(p∈o.take i/\Ahd ls k W K p))/\d.length<=K.length+i) {K,rfl,nd,by simp,aI _} ?_ ?_
 ·rintro i p m N u ⟨d,rfl,r,s,D⟩ E;have zS:=bz u;have G:=L p (bG u);have H:∀q,q∈o.take (i+1)↔q∈o.take i\/q=p:=λq=>(by rw[cX,u];simp);show{rfl,rfl,rfl,ls,k,W,_,p.1,p.2,rfl,{w,by simpa using G.1,G.2,y,A},?_};have gl:(goL ls k W p.1 (ls.idxOf p.2)).length<=300 * 300:=by
   unfold goL;show aX (zw (b:=300) λg n=>?_) (gU _ (aX (Cf _ _ _ _ _) y));rw[aC];obtain⟨j,_,e,_⟩:_:=yn n;rw[e];show aX (Ef _ _ _ _ _) A
  have J:Ahd ls k W K p↔((goL ls k W p.1 (ls.idxOf p.2)).map λg=>g9 (K.map ky) (ky (g.2,g.1))).any id=MO:=by
   rw[List.any_map,oE];constructor;{rintro⟨g,n,h⟩;show{g,n,Gi.mpr h}};{rintro⟨g,n,h⟩;show{g,n,Gi.mp h}}
  generalize goL ls k W p.1 (ls.idxOf p.2)=T at *;show cy (out:=λg:LQ×Nat=>Tr.v (.bl (g9 (K.map ky) (ky (g.2,g.1))))) rfl _ _ (by change 0+_<=_;omega) (λg n Y U=>?_) ?_;{show{bg rfl,ky (g.2,g.1),rfl,U}}
  ·rw[bL];show{T.map λg=>g9 (K.map ky) (ky (g.2,g.1)),by rw[cV];rfl,?_};by_cases c:Ahd ls k W K p
   ·show ifY (J.mp c) ?_;obtain⟨e1,e2⟩:_:=S7 d p;show{ky p,rfl,by rw[aC];omega,?_};change N ({[KE (.v (.obj C ZZ [ltT ls,x])),KE (.v (ssT o)),KE (.v (jr K)),KE (.c 1),MN],[MN,KE (.dct (mq (d.map ky) (ky p)) (mr (d.map ky) (d.map λ_=>Tr.v (.bl MO)) (ky p) (.v (.bl MO))))]}:M);rw[e1,e2];show E _ {if p∈d then d else d++[p],rfl,?_,λq=>?_,?_};{split;{show r};{next h=>show List.nodup_append.mpr {r,eG.mpr {(λz=>nomatch z),nH},λa ha b hb e=>h (by rw[<-aR.mp hb,<-e];show ha)}}}
    ·have hq:q∈(if p∈d then d else d++[p])↔q∈d\/q=p:=by
      split;{next h=>show⟨.inl,λz=>by rcases z with z | rfl;show z;show h⟩};{rw[cT,aR]}
     rw[hq,s,H];constructor;{rintro((h | ⟨l,f⟩) | rfl);{show .inl h};{show .inr {.inl l,f}};{show .inr {.inr rfl,c}}};{rintro(h | ⟨l | rfl,f⟩);{show .inl (.inl h)};{show .inl (.inr #v[l,f])};{show .inr rfl}}
    ·split;{omega};{rw[aH,cG];omega}
   ·show ifN (⇑(λz=>c (J.mpr z))) ?_;show du ?_;show E _ {d,rfl,r,λq=>?_,()};rw[s,H];constructor;{rintro(h | ⟨l,f⟩);{show .inl h};{show .inr {.inl l,f}}};{rintro(h | ⟨l | rfl,f⟩);{show .inl h};{show .inr #v[l,f]};{show MY f c}}
 ·rintro m ⟨d,rfl,r,s,D⟩;rw[dE]at s;show q d r s D
def gh (ls:LJ)(k:Nat)(W:Nat->Nat->Rl):Nat->av->Prop
 |0=>λp=>∃j,j < ls.length/\W p.1 0 (ls.idxOf p.2) j
 |m+1=>λp=>gh ls k W m p\/∃g∈goL ls k W p.1 (ls.idxOf p.2),gh ls k W m (g.2,g.1)
def prs (ls:LJ)(k:Nat):List av:=(bA (k+1)).flatMap λr=>ls.map λl=>(r,l)
def S8:p∈prs ls k↔VdR ls k p:=by
 unfold prs VdR;rw[List.mem_flatMap];constructor;{intro a;obtain⟨r,b,h⟩:=a;obtain⟨l,c,rfl⟩:=bI.mp h;show{bW.mp b,c}};{intro a;obtain⟨d,e⟩:=a;show{p.1,bW.mpr d,bI.mpr #v[p.2,e,rfl]}}
def akx (k:Nat)(nd:ls.Nodup):(prs ls k).Nodup:=by
 unfold prs;show List.pairwise_flatMap.mpr {λr _=>?_,?_};{show qZ _ (λa b c e=>c (lE e).2) nd};{show qY (λ{a b} c x d y f e=>?_) List.nodup_range;subst e;obtain⟨l,_,rfl⟩:=bI.mp d;obtain⟨g,_,e⟩:=bI.mp f;show c (lE e).1.symm}
theorem S9:∀(Q K:List av),(K++Q).Nodup->R ((K++Q).map ky) ((K++Q).map λ_=>Tr.v (.bl MO))->Bh (Q.map λp=>(ky p,Tr.v (.bl MO))) (K.map ky) (K.map λ_=>Tr.v (.bl MO)) R
 | [],K,_,h=>by rw[cE]at h;show h
 |p::Q,K,nd,h=>by
  have a:p ∉ K:=λz=>(List.nodup_append.mp nd).2.2 p z p aP rfl;have e:=S7 K p;rw[MV a]at e;change Bh _ (mq (K.map ky) (ky p)) (mr (K.map ky) (K.map λ_=>Tr.v (.bl MO)) (ky p) (.v (.bl MO))) R;rw[e.1,e.2];have b:K++p::Q=(K++[p])++Q:=∅;rw[b]at nd h;show S9 Q (K++[p]) nd h
def aky (h:g∈goL ls k W r i):VdR ls k (g.2,g.1):=by
 unfold goL at h;obtain⟨p,b,d⟩:=fF.mp h;obtain⟨c,a,rfl⟩:=bI.mp d;obtain⟨j,e,f,_⟩:=yn b;rw[f]at a;unfold d7 at a;obtain⟨l,h0,rfl⟩:=bI.mp (cO.mp a).1;show⟨by have:=bW.mp h0;change l+1 < k+1;lia,bG e⟩
def Il (C:MQ):GS:=(ak (ft 2 0 (gLst gaN)) (ak (fg [3] (giR (gA1 (qc C "rooms" 1 (vw C) (aa 0) gaN))) (.one 3) (ff (gMc "list" 2 o7 (gaE (cq 1 [3] (giL (A7 C "letters" (aa 0))) (.one 0) dt (gTup (gaV (aa 1) (gA1 (aa 0))))) gaN)))) (ak (az 4 (gCB Lp (gaE (cq 1 [0] (giL (aa 2)) (.one 0) (i7 (qc C "ends" 3 (xq C) (aa 1) (gaV (gX (aa 0) (gI 0)) (gA1 (gX (aa 0) (gI 1)))))) (gTup (gaV (aa 0) (gA1 (gC (.v (.bl MO))))))) gaN))) (ak (ft 5 1 (gLst gaN)) (ak (fg [6] (giR (gA1 (aa 1))) (.one 6) (ak (ff (uv 5 (aa 4))) (az 4 (au 3 (ou C) (gaV (aa 0) (gaV (aa 2) (gA1 (aa 4)))))))) (ba (aa 5)))))))
def rj (C:MQ):GP:=λds R=>∃ls k W m n,ds=[m,iT ((n:Nat):Int)]/\wx C ls k W m/\ls.Nodup/\ls.length<=300/\k<=300/\Bk ls k/\n<=100/\
 ∀a:List (List av),a.length=n->(∀m K,a[m]?=KE K->∀p,p∈K↔VdR ls k p/\gh ls k W m p)->R (.new (.lst (a.map jr)))
open Classical in
def Im:Pm (Il C) 7 3 2 (rj C):=by
 intro ds R hl h;obtain⟨ls,k,W,_,n,rfl,E,nd,G,yK,hi,hn,q⟩:=h;obtain⟨x,rfl,hx⟩:=id E;show{bg rfl,rfl,rfl,rfl,ls,k,W,_,rfl,E,by change(-1000000:Int)<=((k+1:Nat):Int);lia,by change((k+1:Nat):Int)<=1000000;lia,?_};change gy _ _ _ _ (ic 0 (((k+1:Nat):Int)).toNat) _;rw[bT,jy];show iy (I:=λi=>{[KE (.v (.obj C ZZ [ltT ls,x])),KE (.v (iT ((n:Nat):Int))),KE (.c 1),MN,MN,MN,MN],[MN,KE (ssT ((bA i).flatMap λr=>ls.map λl=>(r,l))),MN]}) rfl (λi r N O H=>?_) ?_
 ·have zS:=bz O;rw[bP]at zS;rw[cP zS]at O;cases O;have fl:((bA i).flatMap λr=>ls.map λl=>((r,l):av)).length<=301 * 300:=by
   show aX (zw (b:=300) λr _=>by rw[aC];show G) (gU _ ?_);rw[bP];lia
  show{rfl,rfl,?_};show cy (out:=λl:LQ=>sT (i,l)) rfl _ _ (by change 0+_<=_;lia) (λl hl Y T=>{bg rfl,T}) ?_;have e:((bA (i+1)).flatMap λr=>ls.map λl=>((r,l):av))=((bA i).flatMap λr=>ls.map λl=>((r,l):av))++ls.map λl=>((i,l):av):=by
   rw[iP];simp
  rw[e]at H;show{?_,?_};{rw[bL,aC,aC];lia}
  ·show cast (NA N ?_) H;have es:ssT (((bA i).flatMap λr=>ls.map λl=>((r,l):av))++ls.map λl=>((i,l):av))=Tr.lst ((((bA i).flatMap λr=>ls.map λl=>((r,l):av)).map sT)++ls.map λl=>sT (i,l)):=by
    change Tr.lst (uX sT (_++_))=_;rw[bF,cV];rfl
   rw[es];rfl
 ·rw[bP];have ep:((bA (k+1)).flatMap λr=>ls.map λl=>((r,l):av))=prs ls k:=rfl;rw[ep];have U:=akx k nd;have pl:(prs ls k).length<=301 * 300:=by
   unfold prs;show aX (zw (b:=300) λr _=>by rw[aC];show G) (gU _ ?_);rw[bP];lia
  have vp:∀p∈prs ls k,VdR ls k p:=λp f=>S8.mp f;have KG:∀p,p∈prs ls k↔VdR ls k p:=λp=>S8;generalize prs ls k=o at *;show ef (p:=λp:av=>decide (gh ls k W 0 p)) (out:=λp=>Tr.tup [sT p,.v (.bl MO)]) rfl _ _ (by change 0+_<=_;lia) (λp f Y Z T hZ=>?_) ?_
  ·have v:=vp p f;show{rfl,rfl,rfl,ls,k,W,_,p.1,p.2,rfl,{E,by simpa using v.1,v.2,G,yK},λmk BA=>?_};have ec:gh ls k W 0 p↔pick mk ls ls.length≠[]:=by
    constructor;{intro D e;obtain⟨j,u,hw⟩:=D;have:ls[j]∈pick mk ls ls.length:=Nf.mpr {j,u,(BA.2 j u).mpr hw,aB u};rw[e]at this;show nomatch this};{intro xN;obtain⟨y,hy⟩:=List.exists_mem_of_ne_nil _ xN;obtain⟨j,u,hb,_⟩:=Nf.mp hy;show{j,u,(BA.2 j u).mp hb}}
   by_cases c:gh ls k W 0 p;{show ifY (show(!((pick mk ls ls.length).map tI).isEmpty)=MO by simpa using ec.mp c) ?_;show{bg rfl,T (MX c)}};{show ifN (show(!((pick mk ls ls.length).map tI).isEmpty)=MP by simpa using λz=>c (ec.mpr z)) ?_;show hZ (MW c)}
  ·rw[bL];have MK:(o.filter λp=>decide (gh ls k W 0 p)).Nodup:=U.filter _;have k0m:∀p,p∈o.filter (λp=>decide (gh ls k W 0 p))↔VdR ls k p/\gh ls k W 0 p:=λp=>(by rw[cO,decide_eq_true_iff,KG]);have k0l:(o.filter λp=>decide (gh ls k W 0 p)).length<=100000:=aX (jQ _ _) ();generalize o.filter (λp=>decide (gh ls k W 0 p))=K0 at *;show{K0.map λp=>(ky p,Tr.v (.bl MO)),by rw[cV];rfl,by rw[aC];lia,S9 K0 [] MK ?_};show{bg rfl,by change(-1000000:Int)<=((n:Nat):Int);lia,by change((n:Nat):Int)<=1000000;lia,?_};change gy _ _ _ _ (ic 0 (((n:Nat):Int)).toNat) _;rw[bT,jy];show ko (I:=λi m=>∃(a:List (List av))(K:List av),m={[KE (.v (.obj C ZZ [ltT ls,x])),KE (.v (iT ((n:Nat):Int))),KE (.v (ssT o)),MN,KE (.v (jr K)),KE (.c 2),MN],[MN,MN,KE (.lst (a.map jr))]}/\a.length=i/\(∀m K,a[m]?=KE K->∀p,p∈K↔VdR ls k p/\gh ls k W m p)/\K.Nodup/\(∀p,p∈K↔VdR ls k p/\gh ls k W i p)) {[],K0,rfl,rfl,(λm K e=>by cases e),MK,k0m} ?_ ?_
   ·intro i y m N hy D H;obtain⟨a,K,hm,J,kc,kn,w⟩:=D;have hiy:=bz hy;rw[bP]at hiy;have kv:∀p∈K,VdR ls k p:=λp f=>((w p).mp f).1;have kle:K.length<=100000:=aX (Ih kn λp f=>(KG p).mpr (kv p f)) ();have nxt:∀d:List av,(∀p,p∈d↔p∈K\/(p∈o/\Ahd ls k W K p))->∀p,p∈d↔VdR ls k p/\gh ls k W (i+1) p:=λd h p=>by
     rw[h,w,KG];constructor;{rintro(⟨A,s⟩ | ⟨A,g,L,s⟩);{show{A,.inl s}};{show{A,.inr {g,L,((w _).mp s).2}}}};{rintro⟨A,s | ⟨g,L,s⟩⟩;{show .inl #v[A,s]};{show .inr {A,g,L,(w _).mpr {aky L,s}}}}
    have lst:∀m d,(a++[K])[m]?=KE d->∀p,p∈d↔VdR ls k p/\gh ls k W m p:=λm d e=>by
     by_cases c:m < a.length;{rw[cA c]at e;show kc m d e};{rw[cN ()]at e;have:m - a.length=0:=(by have:=bz e;simp at this;lia);rw[this]at e;cases e;rw[show m=i by lia];show w}
    have em:(a++[K]).map jr=a.map jr++[jr K]:=(by rw[bF];rfl);have kll:(a.map jr).length < 1000000:=(by rw[aC];lia);subst hm;show{rfl,kll,?_};show{rfl,ls,k,W,_,o,K,rfl,E,G,yK,hi,vp,(),kn,kv,kle,λd n' m' _=>H _ {a++[K],d,?_,by rw[aH,J];rfl,lst,n',nxt d m'}};rw[em];rfl
   ·intro m D;obtain⟨a,K,hm,J,kc,kn,w⟩:=D;rw[bP]at J;subst hm;show q a J kc
abbrev t5:Tr:=.v (.int 400)
noncomputable def Bm (ls:LJ)(k:Nat)(W:Nat->Nat->Rl)(a:LQ)(n:Nat)(b:List (List av)):Nat->List Bgn
 |0=>[([],a,[0])]
 |m+1=>xu ls k W (Bm ls k W a n b m) (b.getD (n - m - 1) [])
noncomputable def i6 (ls:LJ)(k:Nat)(W:Nat->Nat->Rl)(a:LQ)(n:Nat)(b:List (List av))(m:Nat):List (LJ):=(bA m).flatMap λj=>nk ls W (Bm ls k W a n b j)
def aha {ls:LJ}{k:Nat}{W:Nat->Nat->Rl}{B:List Bgn}{K:List av}{h:Nat}(d:∀p∈B,p.2.1∈ls/\(∀r∈p.2.2,r < k+1)/\p.1.length=h):∀p∈xu ls k W B K,p.2.1∈ls/\(∀r∈p.2.2,r < k+1)/\p.1.length=h+1:=λp b=>by
 unfold xu at b;obtain⟨q,f,i⟩:=fF.mp b;obtain⟨g,l,e⟩:=mI.mp i;obtain⟨j,m,n,_⟩:=yn l;unfold ie at e
 split at e;{cases e};{cases e;show{bG m,λc a=>?_,by change(q.1++[q.2.1]).length=_;rw[aH,(d q f).2.2];rfl};unfold ql at a;have a:=(cO.mp a).1;rw[n]at a;unfold d7 at a;obtain⟨o,h0,rfl⟩:=bI.mp (cO.mp a).1;have:=bW.mp h0;change o+1 < k+1;lia}
theorem adm {ls:LJ}{k:Nat}{W:Nat->Nat->Rl}{a:LQ}{n:Nat}{c:List (List av)}(b:a∈ls):∀m,∀p∈Bm ls k W a n c m,p.2.1∈ls/\(∀r∈p.2.2,r < k+1)/\p.1.length=m
 |0=>λp d=>by
  cases aR.mp d;show{b,λr e=>by rw[aR.mp e];lia,rfl}
 |m+1=>aha (adm b m)
def Rt (C:MQ):GS:=(ak (az 3 (au 2 (rj C) (gaV (aa 0) (gA1 (aa 2))))) (ak (ft 4 0 (gLst gaN)) (ak (az 5 (gLst (gA1 (gTup (gaV (gTup (gA1 (aa 1))) (gA1 (gTup (gA1 (gI 0))))))))) (ak (fg [6] (giD (gaV (aa 2) (gaV (qb (gI 1)) (gA1 (qb (gI 1)))))) (.one 6) (ak (ff (gMc "list" 4 o7 (gaE (au 2 (Ik C) (gaV (aa 0) (gA1 (aa 5)))) gaN))) (ak (az 5 (gIf (i7 (aa 6)) (au 3 (Bj C) (gaV (aa 0) (gaV (aa 5) (gA1 (gX (aa 3) (gOp (dg λi j=>.int (i - j)) (aa 6) (gI 1))))))) (gLst gaN))) (sIf (gT (gOp (dg λi j=>.bl (decide (j < i))) (gOp cb (gCB gx (gaE (aa 4) gaN)) (gCB gx (gaE (aa 5) gaN))) (gC t5))) Fs df)))) (ba (aa 4))))))
def xv (C:MQ):GP:=λds R=>∃ls k W m a n,ds=[m,tI a,iT ((n:Nat):Int)]/\wx C ls k W m/\ls.Nodup/\ls.length<=300/\k<=300/\Bk ls k/\n<=50/\a∈ls/\
 ∀b:List (List av),b.length=n->(∀m K,b[m]?=KE K->∀p,p∈K↔VdR ls k p/\gh ls k W m p)->(∀m,m<=n->(i6 ls k W a n b (m+1)).length+(if m=n then 0 else (Bm ls k W a n b (m+1)).length)<=400)/\R (.new (.lst ((i6 ls k W a n b (n+1)).map trT)))
def Ru:Pm (Rt C) 7 2 3 (xv C):=by
 intro ds R T h;obtain⟨ls,k,W,_,a,n,rfl,d,nd,f,g,hi,U,A,q⟩:=h;obtain⟨x,rfl,Y⟩:=id d;show{rfl,ls,k,W,_,n,rfl,d,nd,f,g,hi,(),λb D E=>?_};obtain⟨o,q⟩:=q b D E;show{bg rfl,bg rfl,bg rfl,bg rfl,bg rfl,?_};show{n+1,by change(n:Int)=((n+1:Nat):Int) - 1;lia,rfl,rfl,(),?_};change gy _ _ _ _ (B6 (n+1)) _;unfold B6;have bl:∀i,i<=n->(Bm ls k W a n b i).length<=400/\(i6 ls k W a n b i).length<=400:=λi hi=>by
  cases i with
  |zero=>show{by change 1<=400;lia,cH _}
  |succ j=>
   have:=o j ();rw[MV ()]at this;lia
 show iy (I:=λi=>{[KE (.v (.obj C ZZ [ltT ls,x])),KE (.v (tI a)),KE (.v (iT ((n:Nat):Int))),KE (.v (.lst (b.map jr))),KE (.c 1),KE (.v (.lst ((if i=n+1 then []else Bm ls k W a n b i).map bgT))),MN],[MN,KE (.lst ((i6 ls k W a n b i).map trT))]}) rfl (λi y N l e=>?_) ?_
 ·have r:=bz l;rw[bP]at r;rw[cP r]at l;cases l;have G:¬i=n+1:=();rw[MV G];obtain⟨b1,b2⟩:=bl i ();have s:∀p∈Bm ls k W a n b i,BgOk ls k p:=λp H=>by
   obtain⟨J,L,h3⟩:=adm A i p H;show{J,L,()}
  have m:=o i ();have u:i6 ls k W a n b (i+1)=i6 ls k W a n b i++nk ls W (Bm ls k W a n b i):=by
   unfold i6;rw[iP];simp
  have el:(nk ls W (Bm ls k W a n b i)).length<=400:=by
   rw[u,aH]at m;lia
  show{rfl,rfl,ls,k,W,_,Bm ls k W a n b i,rfl,d,f,g,s,(),?_};show{by rw[aC,aC];lia,?_};have em:(i6 ls k W a n b i).map trT++(nk ls W (Bm ls k W a n b i)).map trT=(i6 ls k W a n b (i+1)).map trT:=(by rw[u,bF]);by_cases c:i=n
  ·show ifN (show(((n+1:Nat):Int) - 1 - (i:Int) != 0)=MP by rw[c,show((n+1:Nat):Int) - 1 - (n:Int)=0 by lia];rfl) ?_;show{bg rfl,?_};change if decide ((400:Int) < (((i6 ls k W a n b i).map trT++(nk ls W (Bm ls k W a n b i)).map trT).length:Int)+((([]:DQ)).length:Int))=MO then _ else _
   rw[em];show ifN (MW ?_) ?_;{rw[aC,eW];rw[MU c]at m;lia};{show du ?_;rw[MU (show i+1=n+1 by lia)]at e;show e}
  ·show ifY (show(((n+1:Nat):Int) - 1 - (i:Int) != 0)=MO by
     have:((n+1:Nat):Int) - 1 - (i:Int)≠0:=();simpa using this) ?_
   obtain⟨K,w⟩:∃K,b[n - i - 1]?=KE K:={_,aB ()};have O:atI (b.map jr) (((n+1:Nat):Int) - 1 - (i:Int) - 1)=KE (jr K):=by
    rw[show((n+1:Nat):Int) - 1 - (i:Int) - 1=((n - i - 1:Nat):Int)by lia];show bq (by rw[aN,w];rfl)
   show bf O ?_;have z:Bm ls k W a n b (i+1)=xu ls k W (Bm ls k W a n b i) K:=by
    change xu ls k W (Bm ls k W a n b i) (b.getD (n - i - 1) [])=_;rw[bN,w];rfl
   show{rfl,ls,k,W,_,Bm ls k W a n b i,K,rfl,d,f,g,s,(),?_};change if decide ((400:Int) < (((i6 ls k W a n b i).map trT++(nk ls W (Bm ls k W a n b i)).map trT).length:Int)+(((xu ls k W (Bm ls k W a n b i) K).map bgT).length:Int))=MO then _ else _
   rw[MV c,z]at m;rw[em];show ifN (MW ?_) ?_;{rw[aC,aC];lia};{show du ?_;rw[MV (show ¬i+1=n+1 by lia),z]at e;show e}
 ·rw[bP];show q
def O0 (W:Nat->Nat->Rl)(n k:Nat):L1->Nat->Nat->Nat->Prop
 | [],r,_,c=>c=r
 |m::ns,r,i,c=>∃a,1<=a/\a<=k/\m < n/\W r a i m/\O0 W n k ns a m c
def Gj (i:Nat):L1->Nat
 | []=>i
 |m::ns=>Gj m ns
section
variable {W:Nat->Nat->Rl}{n k:Nat}
theorem Ei:∀ns r i e,Run W n k ns r i e↔∃c,O0 W n k ns r i c/\W c 0 (Gj i ns) e
 | [],r,i,e=>{λh=>#v[r,rfl,h],λ⟨c,a,b⟩=>by cases a;show b}
 |m::ns,r,i,e=>by
  constructor;{rintro⟨c,a,b,f,g,o⟩;obtain⟨d,j,l⟩:_:=(Ei ns c m e).mp o;show{d,#v[c,a,b,f,g,j],l}};{rintro⟨d,⟨c,a,b,f,g,j⟩,l⟩;show{c,a,b,f,g,(Ei ns c m e).mpr #v[d,j,l]}}
theorem Gk:∀ns i m,Gj i (ns++[m])=m
 | [],_,_=>rfl
 |x::ns,_,m=>Gk ns x m
theorem sx:∀ns r i m c,O0 W n k (ns++[m]) r i c↔∃d,O0 W n k ns r i d/\1<=c/\c<=k/\m < n/\W d c (Gj i ns) m
 | [],r,i,m,c=>by
  constructor;{rintro⟨g,a,b,e,f,rfl⟩;show#v[r,rfl,a,b,e,f]};{rintro⟨d,rfl,a,b,e,f⟩;show#v[c,a,b,e,f,rfl]}
 |x::ns,r,i,m,c=>by
  constructor;{rintro⟨g,a,b,e,f,o⟩;obtain⟨d,j,l⟩:_:=(sx ns g x m c).mp o;show{d,#v[g,a,b,e,f,j],l}};{rintro⟨d,⟨g,a,b,e,f,j⟩,l⟩;show{g,a,b,e,f,(sx ns g x m c).mpr #v[d,j,l]}}
end
def xw (ls:LJ)(a:LQ):Nat->List (LJ×LQ)
 |0=>[([],a)]
 |m+1=>(xw ls a m).flatMap λx=>ls.map λl=>(x.1++[x.2],l)
theorem O1 (ls:LJ)(a:LQ):∀m,(xw ls a m).map (λx=>x.1++[x.2])=j5 ls a m
 |0=>rfl
 |m+1=>by
  unfold xw j5;rw[List.map_flatMap,<-O1 ls a m,List.flatMap_map];congr 1
  funext x
  rw[cV];rfl
section
variable {ls:LJ}{k:Nat}{W:Nat->Nat->Rl}{a:LQ}{n:Nat}
def zx (ls:LJ)(x:LJ×LQ):L1:=((x.1++[x.2]).tail).map ls.idxOf
def zy (x:LJ×LQ)(l:LQ):zx ls (x.1++[x.2],l)=zx ls x++[ls.idxOf l]:=by
 unfold zx;have:((x.1++[x.2])++[l]).tail=(x.1++[x.2]).tail++[l]:=(by cases x.1<;>rfl);change(((x.1++[x.2])++[l]).tail).map ls.idxOf=_;rw[this,bF];rfl
theorem O2:∀{m x},x∈xw ls a m->Gj (ls.idxOf a) (zx ls x)=ls.idxOf x.2
 |0,x,h=>by cases aR.mp h;rfl
 |m+1,x,h=>by
  obtain⟨y,c,b⟩:_:=fF.mp h;obtain⟨l,d,rfl⟩:_:=bI.mp b;rw[zy,Gk]
open Classical in
noncomputable def rsF (ls:LJ)(k:Nat)(W:Nat->Nat->Rl)(a:LQ)(n m:Nat)(x:LJ×LQ):L1:=if m=0 then [0]else ((bA k).map (·+1)).filter λc=>decide (O0 W ls.length k (zx ls x) 0 (ls.idxOf a) c/\gh ls k W (n - m) (c,x.2))
noncomputable def FF (ls:LJ)(k:Nat)(W:Nat->Nat->Rl)(a:LQ)(n m:Nat)(x:LJ×LQ):Option Bgn:=if rsF ls k W a n m x=[]then MN else KE (x.1,x.2,rsF ls k W a n m x)
def akz (d:ls[j]?=KE l)(f:1<=c)(g:c<=k)(hw:W r c i j):(l,c)∈goL ls k W r i:=by
 unfold goL;have b:c∈d7 k W [r] i j:=by
  unfold d7;show cO.mpr {bI.mpr {c - 1,bW.mpr (),()},?_};show @decide_eq_true _ (kP _) {r,aR.mpr rfl,hw}
 show fF.mpr {(l,d7 k W [r] i j),?_,bI.mpr #v[c,b,rfl]};unfold goF;show List.mem_filterMap.mpr {(l,j),List.mem_zipIdx_iff_getElem?.mpr d,?_};rw[MV λe=>by rw[e]at b;show nomatch b]
def js {P:Prop}{i:Decidable P}:@decide P i=MO↔P:=decide_eq_true_iff
def ahb {m j:Nat}{x:LJ×LQ}{l:LQ}{K:List av}(nd:ls.Nodup)(b:x∈xw ls a m)(H:m < n)(e:ls[j]?=KE l)(s:∀p,p∈K↔VdR ls k p/\gh ls k W (n - m - 1) p) :
  rsF ls k W a n (m+1) (x.1++[x.2],l)=ql K (l,d7 k W (rsF ls k W a n m x) (ls.idxOf x.2) j):=by
 have i:l∈ls:=bG e;have o:=bz e;have u:ls.idxOf l=j:=by
  have w:ls[ls.idxOf l]?=KE l:=(by rw[aB (dH.mpr i),iE]);show(nP (dH.mpr i) nd).mp (w.trans e.symm)
 unfold rsF ql d7;rw[MV (),List.filter_filter];show nR λc A=>?_;obtain⟨q,h0,rfl⟩:_:=bI.mp A;have C:=bW.mp h0;rw[fO,cI,js,js,js,zy,sx,O2 b,u,s];have en:n - (m+1)=n - m - 1:=();rw[en];constructor
 ·rintro⟨⟨d,f,I,J,L,r⟩,g⟩;show{{{by change q+1 < k+1;omega,i},g},d,?_,r};by_cases z:m=0;{subst z;rw[MU rfl];cases aR.mp b;cases f;show aR.mpr rfl}
  ·rw[MV z];have dk:1<=d/\d<=k:=by
    cases m with
    |zero=>show MY rfl z
    |succ N=>
     obtain⟨y,O,D⟩:_:=fF.mp b;obtain⟨T,U,rfl⟩:_:=bI.mp D;rw[zy,sx]at f;obtain⟨_,_,E,G,_⟩:_:=f;show#v[E,G]
   show cO.mpr {bI.mpr {d - 1,bW.mpr (),()},?_};show js.mpr {f,?_};rw[show n - m=(n - m - 1)+1 by omega];show .inr {(l,q+1),akz e () () r,g}
 ·rintro⟨⟨_,g⟩,d,hd,hw⟩;show{{d,?_,(),(),o,hw},g};by_cases z:m=0;{subst z;rw[MU rfl]at hd;cases aR.mp b;rw[aR.mp hd];rfl};{rw[MV z]at hd;show(js.mp (cO.mp hd).2).1}
theorem Vn {b c γ:Type}(f:b->Option c)(g:c->List γ):∀l:List b,(l.filterMap f).flatMap g=l.flatMap λx=>(f x).elim [] g
 | []=>rfl
 |x::l=>by
  rw[gZ,<-Vn f g l];cases e:f x with
  |none=>rw[mS e];rfl
  |some y=>rw[kG e,gZ];rfl
theorem vx {b c:Type}{f g:b->List c}:∀{l:List b},(∀x∈l,f x=g x)->l.flatMap f=l.flatMap g
 | [],_=>rfl
 |x::l,h=>by rw[gZ,gZ,h x aP,vx λy d=>h y (aT _ d)]
theorem O3 {b i:Type}{f g:b->Option i}:∀{l:List b},(∀x∈l,f x=g x)->l.filterMap f=l.filterMap g
 | [],_=>rfl
 |x::l,h=>by
  have c:=O3 λy j=>h y (aT _ j);have d:=h x aP;cases e:f x with
  |none=>rw[mS e,mS (d ▸ e),c]
  |some y=>rw[kG e,kG (d ▸ e),c]
def ala {b c:Type}(f:b->Option c)(l:List b):l.filterMap f=l.zipIdx.filterMap λq=>f q.1:=by
 have h:(l.zipIdx.map tJ).filterMap f=l.zipIdx.filterMap (f∘tJ):=mO;rw[List.zipIdx_map_fst]at h;show h
theorem Vo (nd:ls.Nodup){b:List (List av)}(i:b.length=n)(f:∀m K,b[m]?=KE K->∀p,p∈K↔VdR ls k p/\gh ls k W m p):∀m,m<=n->Bm ls k W a n b m=(xw ls a m).filterMap (FF ls k W a n m)
 |0,_=>by
  change[([],a,[0])]=List.filterMap _ [([],a)];have:FF ls k W a n 0 ([],a)=KE ([],a,[0]):=by
   unfold FF rsF;rw[MU rfl,MV ∅]
  rw[kG this];rfl
 |m+1,h=>by
  obtain⟨K,g⟩:∃K,b[n - m - 1]?=KE K:={_,aB ()};have o:b.getD (n - m - 1) []=K:=(by rw[bN,g];rfl);change xu ls k W (Bm ls k W a n b m) (b.getD (n - m - 1) [])=((xw ls a m).flatMap λx=>ls.map λl=>(x.1++[x.2],l)).filterMap (FF ls k W a n (m+1));rw[o,Vo nd i f m ()];unfold xu;rw[Vn,List.filterMap_flatMap];show vx λx s=>?_;have key:∀l j,ls[j]?=KE l->FF ls k W a n (m+1) (x.1++[x.2],l)=ie K (x.1++[x.2]) (l,d7 k W (rsF ls k W a n m x) (ls.idxOf x.2) j):=λl j e=>by
   unfold FF ie;rw[ahb nd s () e (f _ K g)]
  rw[mO];by_cases c:rsF ls k W a n m x=[]
  ·have e0:FF ls k W a n m x=MN:=(by unfold FF;rw[MU c]);rw[e0];show(List.filterMap_eq_nil_iff.mpr λl u=>?_).symm;obtain⟨j,e⟩:_:=oP.mp u;change FF ls k W a n (m+1) (x.1++[x.2],l)=MN;rw[key l j e,c];have:d7 k W [] (ls.idxOf x.2) j=[]:=by
    unfold d7;show List.filter_eq_nil_iff.mpr λy _ z=>?_;obtain⟨r,w,_⟩:_:=js.mp z;show nomatch w
   unfold ie ql;rw[this];rfl
  ·have e0:FF ls k W a n m x=KE (x.1,x.2,rsF ls k W a n m x):=(by unfold FF;rw[MV c]);rw[e0];change(goF ls k W (rsF ls k W a n m x) (ls.idxOf x.2)).filterMap (ie K (x.1++[x.2]))=_;unfold goF;rw[List.filterMap_filterMap];have A:ls.filterMap (FF ls k W a n (m+1)∘λl=>(x.1++[x.2],l))=ls.zipIdx.filterMap λq=>FF ls k W a n (m+1) (x.1++[x.2],q.1):=by
    show ala _ ls
   rw[A];show O3 λq C=>?_;have e:=gW.mp C;rw[key q.1 q.2 e];by_cases d:d7 k W (rsF ls k W a n m x) (ls.idxOf x.2) q.2=[];{rw[MU d,d];unfold ie ql;rfl};{rw[MV d];rfl}
theorem Ta:∀d,gh ls k W q p->gh ls k W (q+d) p
 |0,h=>h
 |d+1,h=>.inl (Ta d h)
def alb {m j:Nat}{x:LJ×LQ}(b:x∈xw ls a m)(s:m<=n)(g:j < ls.length):lb W (rsF ls k W a n m x) (ls.idxOf x.2) 0 j↔Run W ls.length k (zx ls x) 0 (ls.idxOf a) j:=by
 rw[Ei,O2 b];unfold lb rsF;by_cases z:m=0;{subst z;rw[MU rfl];cases aR.mp b;constructor;{rintro⟨r,e,hw⟩;rw[aR.mp e]at hw;show{0,rfl,hw}};{rintro⟨c,i,hw⟩;cases i;show{0,aR.mpr rfl,hw}}}
 ·rw[MV z];constructor;{rintro⟨r,e,hw⟩;show{r,(js.mp (cO.mp e).2).1,hw}}
  ·rintro⟨d,f,hw⟩;have dk:1<=d/\d<=k:=by
    cases m with
    |zero=>show MY rfl z
    |succ u=>
     obtain⟨y,w,l⟩:_:=fF.mp b;obtain⟨A,C,rfl⟩:_:=bI.mp l;rw[zy,sx]at f;obtain⟨_,_,o,p,_⟩:_:=f;show#v[o,p]
   show{d,cO.mpr {bI.mpr {d - 1,bW.mpr (),()},js.mpr {f,?_}},hw};have q:gh ls k W 0 (d,x.2):=#v[j,g,hw];have:=Ta (n - m) q
   rwa [eP]at this
open Classical in
noncomputable def Gm (ls:LJ)(k:Nat)(W:Nat->Nat->Rl)(a:LQ)(x:LJ×LQ):LJ:=(ls.zipIdx.filter λq=>decide (Run W ls.length k (zx ls x) 0 (ls.idxOf a) q.2)).map (·.1)
def alc (nd:ls.Nodup){b:List (List av)}(g:b.length=n)(i:∀m K,b[m]?=KE K->∀p,p∈K↔VdR ls k p/\gh ls k W m p)(m:Nat)(d:m<=n):nk ls W (Bm ls k W a n b m)=(xw ls a m).flatMap λx=>(Gm ls k W a x).map λe=>x.1++[x.2]++[e]:=by
 rw[Vo nd g i m d];unfold nk;rw[Vn];show vx λx j=>?_;have f:lg ls W (rsF ls k W a n m x) (ls.idxOf x.2)=Gm ls k W a x:=by
  unfold lg Gm;congr 1;show nR λq l=>?_;have o:=bz (gW.mp l);rw[fO,js,js];show alb j d o
 by_cases c:rsF ls k W a n m x=[]
 ·have e0:FF ls k W a n m x=MN:=(by unfold FF;rw[MU c]);rw[e0,<-f,c];have:lg ls W [] (ls.idxOf x.2)=[]:=by
   unfold lg;rw[List.filter_eq_nil_iff.mpr λy _ z=>?_];{rfl};{obtain⟨r,s,_⟩:_:=js.mp z;show nomatch s}
  rw[this];rfl
 ·have e0:FF ls k W a n m x=KE (x.1,x.2,rsF ls k W a n m x):=(by unfold FF;rw[MV c]);rw[e0,<-f];rfl
end
end PB
namespace PySem
namespace Deep
inductive BT where
 |nil
 |node (l:BT) (x:Int) (r:BT)
def BT.ins:BT->Int->Option BT
 | .nil,y=>KE (.node .nil y .nil)
 | .node l x r,y=>if y < x then (l.ins y).map (.node · x r)else if x < y then (r.ins y).map (.node l x ·)else MN
def BT.toL:BT->LQ
 | .nil=>[]
 | .node l x r=>l.toL++x::r.toL
def BT.build:LQ->BT->Option BT
 | [],t=>KE t
 |x::xs,t=>(t.ins x).bind (BT.build xs)
theorem BT.ins_ok:∀{t t':BT}{y:Int},t.ins y=KE t'->t.toL.Pairwise (· < ·)->t'.toL.Pairwise (· < ·)/\t'.toL.Perm (y::t.toL)
 | .nil,t',y,h,_=>by
  cases h;show{by simp[BT.toL],by simp[BT.toL]}
 | .node l x r,t',y,h,hs=>by
  have p:(l.toL++x::r.toL).Pairwise (· < ·):=hs;obtain⟨j,m,f⟩:_:=List.pairwise_append.mp p;obtain⟨n,q⟩:_:=fQ.mp m;have h':(if y < x then (l.ins y).map (BT.node · x r)else if x < y then (r.ins y).map (BT.node l x ·)else MN)=KE t':=h
  by_cases c:y < x;{rw[MU c]at h';obtain⟨s,e,rfl⟩:_:=dB.mp h';obtain⟨g,d⟩:_:=BT.ins_ok e j;show{pD.mpr {g,m,λa ha b hb=>?_},?_};{rcases aY.mp (d.mem_iff.mp ha)with rfl | ha;{rcases aY.mp hb with rfl | hb;{show c};{show rP c (n b hb)}};{show f a ha b hb}};{change(s.toL++x::r.toL).Perm (y::(l.toL++x::r.toL));show List.Perm.append_right _ d}}
  ·rw[MV c]at h';by_cases i:x < y
   ·rw[MU i]at h';obtain⟨o,e,rfl⟩:_:=dB.mp h';obtain⟨g,d⟩:_:=BT.ins_ok e q;have up:∀b∈o.toL,x < b:=λb hb=>by
     rcases aY.mp (d.mem_iff.mp hb)with rfl | hb;{show i};{show n b hb}
    show{pD.mpr {j,fQ.mpr #v[up,g],λa ha b hb=>?_},?_};{rcases aY.mp hb with rfl | hb;{show f a ha b aP};{show rP (f a ha x aP) (up b hb)}};{change(l.toL++x::o.toL).Perm (y::(l.toL++x::r.toL));show(lH l.toL (sV x d)).trans ?_;show(lH l.toL (sU y x r.toL)).trans ?_;show rM}
   ·rw[MV i]at h';cases h'
theorem BT.build_ok:∀{xs:LQ}{t t':BT},BT.build xs t=KE t'->t.toL.Pairwise (· < ·)->t'.toL.Pairwise (· < ·)/\t'.toL.Perm (xs++t.toL)
 | [],t,t',h,hs=>by cases h;show{hs,lI _}
 |x::xs,t,t',h,hs=>by
  obtain⟨g,a,b⟩:_:=Option.bind_eq_some_iff.mp (show(t.ins x).bind (BT.build xs)=KE t' from h);obtain⟨c,d⟩:_:=BT.ins_ok a hs;obtain⟨e,f⟩:_:=BT.build_ok b c;show{e,f.trans ?_};show(lH xs d).trans ?_;show rM
def rk (h:(BT.build xs .nil).isSome=MO):xs.Nodup:=by
 obtain⟨t,e⟩:_:=kC.mp h;obtain⟨a,b⟩:_:=BT.build_ok e .nil;have c:t.toL.Nodup:=a.imp λh=>Int.ne_of_lt h;have d:t.toL.Perm xs:=(by simpa[BT.toL]using b);show d.nodup_iff.mp c
theorem qm {g l:Type}{f:g->l}:∀{xs:List g},(xs.map f).Nodup->∀a∈xs,∀b∈xs,f a=f b->a=b
 | [],_,a,c,_,_,_=>by cases c
 |x::xs,h,a,c,b,i,e=>by
  rw[bE,eG]at h;rcases aY.mp c with j | IE;{rcases aY.mp i with d | DD;{rw[j,d]};{rw[j]at e;show MY (bI.mpr #v[b,DD,e.symm]) h.1}};{rcases aY.mp i with d | DD;{rw[d]at e;show MY (bI.mpr #v[a,IE,e]) h.1};{show qm h.2 a IE b DD e}}
def xb (x:Nat×LQ):Int:=tG (eR [hashInt (x.1:Int),tG (eR (x.2.map hashInt))])
def box (n:Nat):List (Nat×LQ):=(bA 6).flatMap λr=>(S1.letters (bC n 6)).map λl=>(r,l)
def box1:((box 1).map xb).Nodup:=rk ⋯
def box2:((box 2).map xb).Nodup:=rk ⋯
def box3:((box 3).map xb).Nodup:=rk ⋯
def Bn (P:aQ)(w:bB)(r:Nat)(l:LQ):ay P w [.inl (r:Int),.inr l]=xb (r,l):=rfl
def ahc (a:r < 6)(b:l.length=n)(c:∀v∈l,0<=v/\v < 6):(r,l)∈box n:=by
 show fF.mpr {r,bW.mpr a,bI.mpr {l,?_,rfl}};rw[S1.letters_mem];show{by rw[b,cY],λi v e=>?_};have hi:=(bK.mp e).1;show{6,by rw[dN,MU ()],?_};show c v (bG e)
def aci {n:Nat}(f:n=1\/n=2\/n=3){a b:Nat×LQ}(c:a∈box n)(d:b∈box n)(e:xb a=xb b):a=b:=by
 rcases f with rfl | rfl | rfl;{show qm box1 a c b d e};{show qm box2 a c b d e};{show qm box3 a c b d e}
end Deep
end PySem
namespace PB
open PySem L2 VL Bits S1 PySem.Deep
def ahd (ok:SpOk ws)(hk:k < 6):Bk (LL ws) k:=λP w p q b j e=>by
 have box:∀p:av,VdR (LL ws) k p->p∈box ws.length:=λp b=>by
  obtain⟨r,l⟩:=p;have f:=(lu _).wide l b.2;rw[aC]at f;show ahc (by have:=b.1;change r < 6;lia) f λv m=>?_;obtain⟨i,hi⟩:=oP.mp m;obtain⟨c,a,n,g⟩:=((letters_mem ..).mp b.2).2 i v hi;rw[aN]at a;cases d:ws[i]? with
  |none=>rw[d]at a;cases a
  |some y=>
   rw[d]at a;cases a;have:=(ok.cnt y (bG d)).2;have g:v < (y.2:Int):=g;show{n,()}
 have o:ws.length=1\/ws.length=2\/ws.length=3:=(by have:=ok.lo;have:=ok.hi;lia);have a:xb p=xb q:=by
  rw[<-Bn P w p.1 p.2,<-Bn P w q.1 q.2];show e
 show aci o (box p b) (box q j) a
def acj (C:MQ):GS:=(ba (au 3 (xv C) (gaV (adg C 3 (qz C) (gaV (aa 0) (gA1 (aa 1)))) (gaV (aa 2) (gA1 (aa 3))))))
def z6:GP:=λds R=>∃(ws:LK)(s:Say) (a:LQ) (n:Nat),ds=[spT ws,s.t,tI a,iT ((n:Nat):Int)]/\SpOk ws/\s.size<=1000/\s.good ws/\s.rm < 6/\n<=50/\a∈LL ws/\
 ∀b:List (List av),b.length=n->(∀m K,b[m]?=KE K->∀p,p∈K↔VdR (LL ws) s.rm p/\gh (LL ws) s.rm (s.W ws) m p)->(∀m,m<=n->(i6 (LL ws) s.rm (s.W ws) a n b (m+1)).length+(if m=n then 0 else (Bm (LL ws) s.rm (s.W ws) a n b (m+1)).length)<=400)/\R (.new (.lst ((i6 (LL ws) s.rm (s.W ws) a n b (n+1)).map trT)))
def ack:Pm (acj C) 4 1 4 (z6):=by
 intro ds R g h;obtain⟨ws,s,a,n,rfl,ok,hs,b,c,d,e,q⟩:=h;have le:=Lo ok;show{rfl,ws,s,rfl,rfl,ok,hs,b,(),λx f=>?_};show{trivial,rfl,LL ws,s.rm,s.W ws,x,a,n,rfl,f,j8 _,(),(),ahd ok c,d,e,q}
theorem Say.rm_nts:∀s:Say,s.rm<=s.nts
 | .again s=>s.rm_nts
 | .either a b=>nE a.rm_nts b.rm_nts
 | .both a b=>nE a.rm_nts b.rm_nts
 | .no s=>cH _
 | .note=>aI _
 | .nought | .every | .is _ _ | .put _ _=>cH _
section
variable {ls:LJ}{k:Nat}{W:Nat->Nat->Rl}{a:LQ}{n:Nat}
def MkB (ls:LJ)(k:Nat)(W:Nat->Nat->Rl)(a:LQ)(b:LJ):Prop:=Run W ls.length k ((b.dropLast.tail).map ls.idxOf) 0 (ls.idxOf a) (ls.idxOf (b.getLast?.getD []))
def acm (x:LJ×LQ)(e:LQ):MkB ls k W a (x.1++[x.2]++[e])↔Run W ls.length k (zx ls x) 0 (ls.idxOf a) (ls.idxOf e):=by
 unfold MkB zx;rw[lV,lU];rfl
def Vp (p:b->Bool)(l:List b):l.filter p=(l.zipIdx.filter λq=>p q.1).map (·.1):=by
 have h:(l.zipIdx.map tJ).filter p=(l.zipIdx.filter (p∘tJ)).map tJ:=sC;rw[List.zipIdx_map_fst]at h;show h
open Classical in
def due_m (nd:ls.Nodup)(m:Nat):(j5 ls a (m+1)).filter (λb=>decide (MkB ls k W a b))=(xw ls a m).flatMap λx=>(Gm ls k W a x).map λe=>x.1++[x.2]++[e]:=by
 change((j5 ls a m).flatMap λb=>ls.map λl=>b++[l]).filter _=_;rw[<-O1,List.flatMap_map,List.filter_flatMap];show vx λx j=>?_;rw[sC];congr 1;rw[Vp];unfold Gm;congr 1;show nR λq f=>?_;have c:=gW.mp f;have d:q.1∈ls:=bG c;have g:ls.idxOf q.1=q.2:=by
  have i:ls[ls.idxOf q.1]?=KE q.1:=(by rw[aB (dH.mpr d),iE]);show(nP (dH.mpr d) nd).mp (i.trans c.symm)
 rw[fO,js];change decide (MkB ls k W a (x.1++[x.2]++[q.1]))=MO↔_;rw[js,acm,g]
open Classical in
noncomputable def t6 (ls:LJ)(k:Nat)(W:Nat->Nat->Rl)(a:LQ)(m:Nat):List (LJ):=(bA m).flatMap λj=>(j5 ls a (j+1)).filter λb=>decide (MkB ls k W a b)
def O4 (nd:ls.Nodup)(c:b.length=n)(d:∀m K,b[m]?=KE K->∀p,p∈K↔VdR ls k p/\gh ls k W m p)(m:Nat)(f:m<=n+1):i6 ls k W a n b m=t6 ls k W a m:=by
 unfold i6 t6;show vx λj e=>?_;have:=bW.mp e;rw[alc nd c d j (),due_m nd j]
def Tc (m:Nat):(t6 ls k W a m).length<=((bA m).map λj=>ls.length ^ (j+1)).sum:=by
 unfold t6;rw[mE]
 induction m with
 |zero=>show aI _
 |succ m b=>
  rw[iP,bF,bF,sD,sD];show nE b ?_;simp only[bE,iO,List.sum_cons,List.sum_nil,Nat.add_zero];show aX (jQ _ _) (by rw[vt];show aI _)
def ald (nd:ls.Nodup)(c:b.length=n)(d:∀m K,b[m]?=KE K->∀p,p∈K↔VdR ls k p/\gh ls k W m p)(m:Nat)(e:m<=n):(Bm ls k W a n b m).length<=ls.length ^ m:=by
 rw[Vo nd c d m e];show aX (iU _ _) ?_;have:=NA pU (O1 ls a m);rw[aC,vt]at this;lia
def Td:∀L:Fin 7,∀n:Fin 4,∀m:Fin 4,2<=L.val->L.val ^ (n.val+1)<=300->m.val<=n.val->((bA (m.val+1)).map λj=>L.val ^ (j+1)).sum+(if m.val=n.val then 0 else L.val ^ (m.val+1))<=400:=by decide +kernel
def ale (nd:ls.Nodup)(f:2<=ls.length)(j:ls.length<=6)(l:n<=3)(g:ls.length ^ (n+1)<=300)(d:b.length=n)(e:∀m K,b[m]?=KE K->∀p,p∈K↔VdR ls k p/\gh ls k W m p)(m:Nat)(i:m<=n) :
  (i6 ls k W a n b (m+1)).length+(if m=n then 0 else (Bm ls k W a n b (m+1)).length)<=400:=by
 have h:=Td {ls.length,()} {n,()} {m,()} f g i;have o:=Tc (ls:=ls) (k:=k) (W:=W) (a:=a) (m+1);rw[O4 nd d e (m+1) ()];simp only at h;by_cases c:m=n;{rw[MU c]at h ⊢;lia};{rw[MV c]at h ⊢;have:=ald (a:=a) nd d e (m+1) ();lia}
end
def K2:GS:=(ak (sIf (gT (gOp (dg λi j=>.bl (decide (j < i))) (gCB gx (gaE (aa 0) gaN)) (gI 1))) (ba (gRev (aa 0) (qb (gI 1)))) df) (ak (Uq (.tup [1,2]) (gX (aa 0) (gI 0))) (ba (gTup (gA1 (gTup (gaV (aa 1) (gA1 (gCB (two λi j=>if j < i then j else i) (gaE (gOp cb (aa 2) (gI 1)) (gaE (gI 6) gaN)))))))))))
def Turned (ws a:LK):Prop:=a=ws.reverse\/∃x c,ws=[(x,c)]/\a=[(x,min (c+1) 6)]
def oa:GP:=λds R=>∃ws:LK,ds=[spT ws]/\SpOk ws/\∀a,Turned ws a->R (.val (spT a))
def K3:Pm (K2) 3 1 1 (oa):=by
 intro ds R b h;obtain⟨ws,rfl,ok,q⟩:=h;have d:(ws.map pT).length=ws.length:=aC ..;have a:=ok.lo;by_cases c:(1:Int) < ((ws.map pT).length:Int);{show ifY (MX c) ?_;have z:=q _ (.inl rfl);unfold spT at z;rw[oG]at z;show#v[rfl,z]}
 ·show ifN (MW c) ?_;obtain⟨w,rfl⟩:∃w,ws=[w]:=by
   rcases ws with _ | ⟨w,_ | ⟨v,r⟩⟩;{simp at a};{show#v[w,rfl]};{simp at c;lia}
  show{bg rfl,bg rfl,?_};have z:=q _ (.inr #v[w.1,w.2,rfl,rfl]);have e:(if (6:Int) < (w.2:Int)+1 then 6 else (w.2:Int)+1)=((min (w.2+1) 6:Nat):Int):=by
   split<;>lia
  change R (.val (.tup [.tup [.v (.str w.1),iT (if (6:Int) < (w.2:Int)+1 then 6 else (w.2:Int)+1)]]))
  rw[e];show z
def Y7 (ws:LK)(p:List AK):Prop:=p.length=ws.length/\∀(i:Nat)(v:Int) (w:Str×Nat),p[i]?=KE (KE v)->ws[i]?=KE w->0<=v/\v < (w.2:Int)
def RowIn (ws:LK)(r:Row):Prop:=Y7 ws r.m/\∀d∈r.ds,Y7 ws d
def Gn:GP:=λds R=>∃T ws n,ds=[N4 T,spT ws,iT n]/\T.length<=n/\T.length<=36/\ws.length<=3/\(∀r∈T,RowIn ws r/\r.ds.length<=36)/\R (.val (.v (.bl MO)))
def Rv:GP:=λds R=>∃T ws s,ds=[N4 T,stpT (LL ws) (Ga ws s)]/\SpOk ws/\(∀r∈T,U8 ws.length r)/\R (.val (.v (.bl (allD T (Bd ws s)))))
def O5:GP:=λds R=>∃T ws s,ds=[N4 T,stpT (LL ws) (Ga ws s)]/\SpOk ws/\adj ws.length T/\(T=[]\/U9 (Bd ws s) ws.length T=T)/\R (.val (.v (.bl MO)))
abbrev Rw:GP:=gStep 100
def vy:GS:=(ba (gOp (eqG MP) (Yt 2 Gb (gaV (aa 0) (gA1 (aa 1)))) (aa 7)))
def vz:GS:=ak (ff (gMc "list" 4 Fl gaN)) (vy)
def v7:GS:=ak (az 7 (gCB Lm (gaE (aa 4) gaN))) (vz)
def v8:GS:=ak (fg [5,6] (giL (aa 2)) (.one 5) (ak (ft 6 1 (Ge 2 0 Vb (gaE (aa 4) (gA1 (aa 5))))) (ak (sIf (gOr (yy (i7 (gIsi "list" (aa 6)))) (gT (gOp (eqG MO) (aa 6) (gOp ixD (aa 3) (aa 5))))) (ba (gC (.v (.bl MP)))) df) (ff (uv 6 (aa 5)))))) (v7)
def v9:GS:=ak (sIf (yy (i7 (Ge 2 0 O5 (gaE (aa 4) (gA1 (aa 3)))))) (ba (gC (.v (.bl MP)))) df) (v8)
def wa:GS:=ak (sIf (gOr (yy (i7 (Ge 3 0 Gn (gaE (aa 4) (gaV (aa 0) (gA1 (gCB gx (gaE (aa 2) gaN)))))))) (yy (i7 (Ge 2 0 Rv (gaE (aa 4) (gA1 (aa 3))))))) (ba (gC (.v (.bl MP)))) df) (v9)
def wb:GS:=ak (ft 4 0 (Yt 2 Gb (gaV (aa 0) (gA1 (aa 1))))) (wa)
def we:GS:=ak (az 3 (au 3 Rw (gaV (aa 0) (gaV (aa 2) (gA1 (aa 1)))))) (wb)
def C6:GS:=ak (az 2 (au 1 mz (gA1 (aa 0)))) (we)
def nq:GP:=λds R=>∃(ws:LK)(s:Say),ds=[spT ws,s.t]/\SpOk ws/\(LL ws).length<=24/\s.good ws/\s.nts=0/\s.size<=100/\R (.val (.v (.bl MO)))
def Turned.sp {ws a:LK}(t:Turned ws a)(h:SpOk ws):SpOk a:=by
 rcases t with rfl | ⟨x,c,rfl,rfl⟩;{show{by rw[fH];show h.lo,by rw[fH];show h.hi,λw hw=>h.cnt w (List.mem_reverse.mp hw)}};{show{aI _,by simp,λw hw=>?_};cases aR.mp hw;have:=h.cnt (x,c) (nJ _);dsimp only at this ⊢;omega}
theorem Te:∀a b,prd (a++b)=prd a * prd b
 | [],b=>by change prd b=1 * prd b;lia
 |c::a,b=>by change c * prd (a++b)=c * prd a * prd b;rw[Te a b,tT]
theorem Tf:∀a,prd a.reverse=prd a
 | []=>rfl
 |c::a=>by rw[iX,Te,Tf a];change prd a * (c * 1)=c * prd a;rw[Nat.mul_one,mP]
def O6 {ws a:LK}(t:Turned ws a)(h:SpOk ws)(hw:Wds ws){f:Str}{v:Int}(e:∃p c,look ws f=KE (p,c)/\0<=v/\v < (c:Int)):∃p c,look a f=KE (p,c)/\0<=v/\v < (c:Int):=by
 obtain⟨p,c,lk,b,i⟩:_:=e;obtain⟨k,_,j,_⟩:_:=Cb lk;have g:(f,c)∈ws:=bG j;rcases t with rfl | ⟨x,d,rfl,rfl⟩;{obtain⟨l,m⟩:_:=fm (w:=(f,c)) (ws:=ws.reverse) 0 (by rw[oG];show(List.reverse_perm _).nodup_iff.mpr hw.nd) (List.mem_reverse.mpr g);show#v[l,c,m,b,i]};{cases aR.mp g;have n:=h.cnt (f,c) (nJ _);dsimp only at n;show{0,min (c+1) 6,MU rfl,b,()}}
def Y8 {ws a:LK}(t:Turned ws a)(h:SpOk ws)(hw:Wds ws){s:Say}(g:s.good ws):s.good a:=λx b=>by
 have:=g x b;cases x with
 |is f v=>show O6 t h hw this
 |put f v=>show O6 t h hw this
 |_=>show this
def ahe {c d:Type}(f:c->d)(l:List c)(a b:AK):bu (l.map f) a b=(bu l a b).map f:=by
 unfold bu;rw[tU,tV,aC]
def adn:GS:=(ak (az 1 (au 2 j9 (gaV (au 2 nj (gaV (aa 0) (gA1 (gI 0)))) (gA1 (gI 1))))) (ak (az 2 (au 3 ny (gaV (gSl (aa 0) (goS (gI 1)) (goS (gI 29))) (gaV (aa 1) (gA1 (gI 0)))))) (ak (fg [3] (giL (gLst (gaV (aa 1) (gaV (au 1 oa (gA1 (aa 1))) (gA1 (aa 1)))))) (.one 3) (sIf (yy (i7 (au 2 nq (gaV (aa 3) (gA1 (aa 2)))))) (ba (gC (.v (.bl MP)))) df)) (ba (gC (.v (.bl MO)))))))
def g_law:GP:=λds R=>∃ns:LQ,ds=[.scr (ns.map iT)]/\R (.val (.v (.bl MO)))
end PB
namespace PB.N21
open PySem L2 VL Bits S1 PySem.Deep
def mn:List (L1):=[[2],[3],[2,2],[4],[1,3],[2,1,2],[1,2],[3,1]]
def mn_ok:∀cs∈mn,(1<=cs.length/\cs.length<=3)/\(∀c∈cs,1<=c/\c<=6)/\2<=prd cs/\prd cs<=4:=by decide
def menuC (h0:0<=v)(b:v < 8):∃cs∈mn,atI (mn.map λcs=>Tr.lst (cs.map λc:Nat=>iT (c:Int))) v=KE (.lst (cs.map λc:Nat=>iT (c:Int))):=by
 have hk:v.toNat < mn.length:=(by change v.toNat < 8;lia);have a:v=((v.toNat:Nat):Int):=();have q:atI (mn.map λcs=>Tr.lst (cs.map λc:Nat=>iT (c:Int))) ((v.toNat:Nat):Int)=KE (.lst (mn[v.toNat].map λc:Nat=>iT (c:Int))):=bq (by rw[aN,aB hk];rfl);rw[<-a]at q;show{_,fS hk,q}
def Ab:GS:=(ak (ft 1 0 (au 1 ly (gA1 (aa 0)))) (ak (az 2 (fu 2 0 c6 (gaE (aa 1) (gA1 (gI 26))))) (ak (az 3 (gS "abcdefghijklmnopqrstuvwxyz")) (ak (az 4 (gSl (gS "abcdefg") goN (goS (fu 2 0 c6 (gaE (aa 1) (gA1 (gI 8))))))) (ak (az 5 (gX (gLst (gaV (gLst (gA1 (gI 2))) (gaV (gLst (gA1 (gI 3))) (gaV (gLst (gaV (gI 2) (gA1 (gI 2)))) (gaV (gLst (gA1 (gI 4))) (gaV (gLst (gaV (gI 1) (gA1 (gI 3)))) (gaV (gLst (gaV (gI 2) (gaV (gI 1) (gA1 (gI 2))))) (gaV (gLst (gaV (gI 1) (gA1 (gI 2)))) (gA1 (gLst (gaV (gI 3) (gA1 (gI 1))))))))))))) (fu 2 0 c6 (gaE (aa 1) (gA1 (gI 8)))))) (ba (gCB yh (gaE (cq 1 [5,2,3,4] (giR (gA1 (gCB gx (gaE (aa 5) gaN)))) (.one 0) dt (gTup (gaV (gOp cb (gX (aa 3) (gOp (fq (λ_ j=>0 < j) λi j=>.int (i % j)) (gOp cb (aa 2) (gOp qu (gI 9) (aa 0))) (gI 26))) (aa 4)) (gA1 (gX (aa 1) (aa 0)))))) gaN))))))))
def j9:GP:=λds R=>∃n:Int,ds=[iT n]/\∀ws,SpOk ws->Wds ws->2<=prd (ws.map (·.2))->prd (ws.map (·.2))<=4->R (.val (spT ws))
def K4:Pm (Ab) 6 2 1 (j9):=by
 intro ds R hl h;obtain⟨n,rfl,q⟩:=h;show{rfl,n,rfl,λa b d f=>?_};show{rfl,_,_,_,rfl,rfl,d,f,#v[],#v[],λg a b E G d f=>?_};show{rfl,_,_,_,rfl,rfl,d,f,#v[],#v[],λu a b H I d f=>?_};have l:=ako H I;show{bg rfl,bg rfl,bg rfl,bg rfl,bg rfl,bg rfl,bg rfl,bg rfl,bg rfl,bg rfl,?_};show{rfl,_,_,_,rfl,rfl,d,f,#v[],#v[],λv a b y A d f=>?_};obtain⟨cs,C,e⟩:=menuC y A;show bf e ?_;obtain⟨⟨l1,l3⟩,J,L,N⟩:=mn_ok cs C;clear e C y A;generalize qC ("abcdefg":Str) MN (KE u)=tl at l ⊢;have cl:(cs.map λc:Nat=>iT (c:Int)).length=cs.length:=aC ..;show{by change(-1000000:Int)<=(((cs.map λc:Nat=>iT (c:Int)).length:Nat):Int);lia,by change(((cs.map λc:Nat=>iT (c:Int)).length:Nat):Int)<=1000000;lia,?_};change dh _ _ _ _ _ _ _ (ic 0 (((cs.map λc:Nat=>iT (c:Int)).length:Int)).toNat) _ _;rw[cl,Nj];have ch:∀k:Nat,atI abc.cps.toList ((g+9 * (k:Int)) % 26)=KE ((atI abc.cps.toList ((g+9 * (k:Int)) % 26)).getD 0):=λk=>by
  have D:=ia (g+9 * (k:Int)) (m:=26) #v[];obtain⟨c,e⟩:=akn D.1 D.2;rw[e];rfl
 generalize o:(λk:Nat=>(atI abc.cps.toList ((g+9 * (k:Int)) % 26)).getD 0)=j at ch;have ch:∀k:Nat,atI abc.cps.toList ((g+9 * (k:Int)) % 26)=KE (j k):=λk=>(by rw[<-o];show ch k);show cy (out:=λk:Nat=>pT (#v[#[j k]]++tl,cs.getD k 0)) rfl _ _ (by rw[bP];change 0+_<=_;lia) (λk hk Y O=>?_) ?_;{have hk:=bW.mp hk;show{.inl {#v[],#v[]},by change(0:Int) < 26;decide,?_};show{by decide +kernel,?_};show bf (ch k) ?_;show{by change 1+_<=_;lia,?_};show bf (x:=iT ((cs.getD k 0:Nat):Int)) (bq (by rw[aN,aB hk,bN,aB hk];rfl)) ?_;show{bg rfl,O}}
 ·have T:(bA cs.length).map (λk:Nat=>cs.getD k 0)=cs:=iZ λi=>by
   rw[aN];by_cases c:i < cs.length;{rw[cP c,aB c];change KE (cs.getD i 0)=_;rw[bN,aB c];rfl};{rw[cU (by rw[bP];lia),cU ()];rfl}
  have p:((bA cs.length).map λk:Nat=>((#v[#[j k]]++tl,cs.getD k 0):Str×Nat)).map (·.2)=cs:=(by rw[cV];show T);have r:((bA cs.length).map λk:Nat=>((#v[#[j k]]++tl,cs.getD k 0):Str×Nat)).length=cs.length:=(by rw[aC,bP]);have U:Tail g tl ((bA cs.length).map λk:Nat=>((#v[#[j k]]++tl,cs.getD k 0):Str×Nat)):=λi w hw=>by
   rw[aN]at hw;obtain⟨k,s,rfl⟩:=dB.mp hw;have hi:=bz s;rw[bP]at hi;rw[cP hi]at s;cases s;show{_,ch i,rfl}
  have z:=q ((bA cs.length).map λk:Nat=>((#v[#[j k]]++tl,cs.getD k 0):Str×Nat)) {by rw[r];show l1,by rw[r];show l3,λw hw=>J _ (by rw[<-p];show bI.mpr #v[w,hw,rfl])} (U.ok (by rw[r];show l3) E G) (by rw[p];show L) (by rw[p];show N);rw[show spT _=.tup _ from NA Tr.tup cV]at z;show z
def Y9 (n:Nat)(a b:LJ):g8 (n+2) (trT a) (trT b)=MO:=N6 n a b
def O7:GS:=(ba (gOp (eqG MP) (au 4 z6 (gaV (aa 0) (gaV (aa 1) (gaV (aa 4) (gA1 (aa 5)))))) (aa 6)))
def vy:GS:=ak (ff (gMc "list" 8 Fl gaN)) (O7)
def vz:GS:=ak (sIf (gOr (yy (i7 (gIsi "list" (aa 8)))) (gT (gOp (eqG MO) (aa 8) (aa 6)))) (ba (gC (.v (.bl MP)))) df) (vy)
def v7:GS:=ak (ft 8 0 (au 4 z6 (gaV (aa 0) (gaV (aa 1) (gaV (aa 4) (gA1 (aa 5))))))) (vz)
def v8:GS:=ak (fg [7] (giR (gA1 (gOp cb (aa 5) (gI 1)))) (.one 7) (az 6 (gOp cb (aa 6) (cq 1 [1,0] (giL (au 3 zu (gaV (aa 3) (gaV (aa 4) (gA1 (aa 7)))))) (.one 0) (i7 (au 3 vo (gaV (aa 2) (gaV (aa 1) (gA1 (aa 0)))))) (aa 0))))) (v7)
def v9:GS:=ak (az 6 (gLst gaN)) (v8)
def wa:GS:=ak (yj [] (gT (gOp (dg λi j=>.bl (decide (j < i))) (au 2 vv (gaV (gCB gx (gaE (aa 3) gaN)) (gA1 (gOp cb (aa 5) (gI 1))))) (gI 300))) (az 5 (gOp (dg λi j=>.int (i - j)) (aa 5) (gI 1)))) (v9)
def wb:GS:=ak (az 5 (gOp (fq (λ_ j=>0 < j) λi j=>.int (i % j)) (gOp (fq Gy λi j=>.int (i / j)) (aa 2) (gI 8)) (gI 4))) (wa)
def we:GS:=ak (az 4 (gX (aa 3) (gOp (fq (λ_ j=>0 < j) λi j=>.int (i % j)) (aa 2) (gCB gx (gaE (aa 3) gaN))))) (wb)
def C6:GS:=ak (az 3 (au 1 mz (gA1 (aa 0)))) (we)
def nq:GP:=λds R=>∃(ws:LK)(s:Say) (p:Int),ds=[spT ws,s.t,iT p]/\SpOk ws/\2<=(LL ws).length/\(LL ws).length<=5/\s.good ws/\s.nts<=3/\s.size<=100/\R (.val (.v (.bl MO)))
open Classical in
def Rx:Pm (C6) 9 2 3 (nq):=by
 intro ds R G h;obtain⟨ws,s,p,rfl,ok,l2,l5,w,hn,hs,q⟩:=h;have o:((LL ws).map tI).length=(LL ws).length:=aC ..;have H:s.rm < 6:=(by have:=s.rm_nts;lia);show{rfl,ws,rfl,ok,?_};have J:=ia p (m:=(((LL ws).map tI).length:Int)) ();show{by change(0:Int) < (((LL ws).map tI).length:Int);lia,?_};obtain⟨a,x,L⟩:∃a∈LL ws,atI ((LL ws).map tI) (p % (((LL ws).map tI).length:Int))=KE (tI a):=by
  generalize p % (((LL ws).map tI).length:Int)=v at J;have hk:v.toNat < (LL ws).length:=();have ek:v=((v.toNat:Nat):Int):=();have q:atI ((LL ws).map tI) ((v.toNat:Nat):Int)=KE (tI (LL ws)[v.toNat]):=bq (by rw[aN,aB hk];rfl);rw[<-ek]at q;show{_,fS hk,q}
 show bf L ?_;clear L J;show{{#v[],#v[]},by change(0:Int) < 4;decide,?_};have O:=ia (p / 8) (m:=4) #v[];obtain⟨r,y⟩:∃r:Nat,p / 8 % 4=(r:Int):={(p / 8 % 4).toNat,()};rw[y]at O;show{λk m=>m={[KE (.v (spT ws)),KE (.v s.t),KE (.v (iT p)),KE (.v (ltT (LL ws))),KE (.v (tI a)),KE (.v (iT k)),MN,MN,MN],[MN,MN]}/\k<=3,{r,by rw[<-y];rfl,()},?_};intro k m vP;obtain⟨rfl,hk⟩:=vP;show{rfl,(LL ws).length,k+1,by change _=[iT (LL ws).length,_];rw[<-o];rfl,(),(),?_};change if decide ((300:Int) < (((LL ws).length ^ (k+1):Nat):Int))=MO then _ else _
 by_cases c:300 < (LL ws).length ^ (k+1);{show ifY (MX (by exact_mod_cast c)) ?_;have k0:k≠0:=λe=>(by subst e;rw[Nat.pow_one]at c;lia);show{λT=>T={[KE (.v (spT ws)),KE (.v s.t),KE (.v (iT p)),KE (.v (ltT (LL ws))),KE (.v (tI a)),KE (.v (iT ((k - 1:Nat):Int))),MN,MN,MN],[MN,MN]},λT e=>{k - 1,(),by rw[e];rfl,()},?_};change({[KE (.v (spT ws)),KE (.v s.t),KE (.v (iT p)),KE (.v (ltT (LL ws))),KE (.v (tI a)),KE (.v (iT ((k:Int) - 1))),MN,MN,MN],[MN,MN]}:M)=_;rw[show((k:Int) - 1)=((k - 1:Nat):Int)by lia]}
 ·show ifN (MW (by exact_mod_cast c)) ?_;have A:(LL ws).length ^ (k+1)<=300:=();clear c r y O;show{bg rfl,?_};show{by change(-1000000:Int)<=(k:Int)+1;lia,by change(k:Int)+1<=1000000;lia,?_};have e0:(((k:Int)+1).toNat)=k+1:=();change gy _ _ _ _ (ic 0 ((k:Int)+1).toNat) _;rw[e0,jy];have dl:∀i,i<=k+1->(t6 (LL ws) s.rm (s.W ws) a i).length<=1000:=λi hi=>by
   cases i with
   |zero=>show cH _
   |succ m=>
    have h:=Td {(LL ws).length,()} {k,()} {m,()} l2 A (by change m<=k;lia);have h1:=Tc (ls:=LL ws) (k:=s.rm) (W:=s.W ws) (a:=a) (m+1);simp only at h;lia
  show iy (I:=λi=>{[KE (.v (spT ws)),KE (.v s.t),KE (.v (iT p)),KE (.v (ltT (LL ws))),KE (.v (tI a)),KE (.v (iT k)),KE (.v (.lst ((t6 (LL ws) s.rm (s.W ws) a i).map trT))),MN,MN],[MN,MN]}) rfl (λi j N C D=>?_) ?_
  ·have hi:=bz C;rw[bP]at hi;rw[cP hi]at C;cases C;have hp:(LL ws).length ^ (i+1)<=300:=aX (lS () ()) A;show{rfl,LL ws,a,i,rfl,(),(),(),?_};show ef (p:=λb=>decide (MkB (LL ws) s.rm (s.W ws) a b)) (out:=trT) rfl _ _ (by rw[vt];change 0+_<=_;lia) (λb hb Y Z hY hZ=>?_) ?_
   ·obtain⟨E,rfl,u,U⟩:=Ec hb;obtain⟨ns,e,rfl⟩:∃ns e,E=ns++[e]:={E.dropLast,E.getLast (λz=>by rw[z]at u;simp at u),(List.dropLast_concat_getLast _).symm};rw[aH]at u;simp only[aW,eW]at u;have en:ns.length=i:=();have hM:MkB (LL ws) s.rm (s.W ws) a (a::(ns++[e]))↔Run (s.W ws) (LL ws).length s.rm (ns.map (ixL ws)) 0 (ixL ws a) (ixL ws e):=by
     unfold MkB;rw[<-lO,lV,lU];show kA
    show{rfl,ws,s,a,e,ns,rfl,ok,w,hs,x,λl G=>U l (dR _ G),U e ∅,?_,(),λc n=>?_};{rw[en];show aX (sS (show i+1<=4 by lia) l5) #v[]}
    cases c with
    |true=>show hY (MX (hM.mpr (n.mp rfl)))
    |false=>show hZ (MW λz=>by cases n.mpr (hM.mp z))
   ·have ed:t6 (LL ws) s.rm (s.W ws) a (i+1)=t6 (LL ws) s.rm (s.W ws) a i++(j5 (LL ws) a (i+1)).filter λb=>decide (MkB (LL ws) s.rm (s.W ws) a b):=by
     unfold t6;rw[iP,mF,List.flatMap_singleton]
    have l0:=dl i ();have l1:=dl (i+1) ();rw[ed]at D l1;rw[aH]at l1;rw[bF]at D;show{by change((t6 (LL ws) s.rm (s.W ws) a i).map trT).length+(((j5 (LL ws) a (i+1)).filter λb=>decide (MkB (LL ws) s.rm (s.W ws) a b)).map trT).length<=1000000;rw[aC,aC];lia,?_};show D
  ·rw[bP];have few:∀d:List (List av),d.length=k->(∀m K,d[m]?=KE K->∀p,p∈K↔VdR (LL ws) s.rm p/\gh (LL ws) s.rm (s.W ws) m p)->(∀m,m<=k->(i6 (LL ws) s.rm (s.W ws) a k d (m+1)).length+(if m=k then 0 else (Bm (LL ws) s.rm (s.W ws) a k d (m+1)).length)<=400)/\i6 (LL ws) s.rm (s.W ws) a k d (k+1)=t6 (LL ws) s.rm (s.W ws) a (k+1):=λd f g=>{ale (j8 _) l2 (aX l5 #v[]) hk A f g,O4 (j8 _) f g (k+1) (aI _)}
   generalize t6 (LL ws) s.rm (s.W ws) a (k+1)=due at few;show{rfl,ws,s,a,k,rfl,ok,(),w,H,(),x,λd f g=>{(few d f g).1,?_}};rw[(few d f g).2];show{H0 (Y9 37) due due,λc n=>?_};cases n.mpr rfl;show du ?_;show{rfl,rfl,ws,s,a,k,rfl,ok,(),w,H,(),x,λd f g=>{(few d f g).1,?_}};rw[(few d f g).2];show{H0 (Y9 37) due due,λc n=>?_};cases n.mpr rfl;show q
def adn:GS:=(ak (az 1 (au 1 j9 (gA1 (au 2 nj (gaV (aa 0) (gA1 (gI 0))))))) (ak (az 2 (au 3 ny (gaV (gSl (aa 0) (goS (gI 2)) (goS (gI 28))) (gaV (aa 1) (gA1 (gI 3)))))) (ak (az 3 (au 2 nj (gaV (aa 0) (gA1 (gI 1))))) (ak (fg [4] (giL (gLst (gaV (aa 1) (gaV (au 1 oa (gA1 (aa 1))) (gA1 (aa 1)))))) (.one 4) (sIf (yy (i7 (au 3 nq (gaV (aa 4) (gaV (aa 2) (gA1 (aa 3))))))) (ba (gC (.v (.bl MP)))) df)) (ba (gC (.v (.bl MO))))))))
def Turned.two {ws a:LK}(t:Turned ws a)(b:2<=prd (ws.map (·.2)))(d:prd (ws.map (·.2))<=4):2<=(LL a).length/\(LL a).length<=5:=by
 rw[Ys];rcases t with rfl | ⟨x,c,rfl,rfl⟩;{rw[oG,Tf];lia};{change 2<=min (c+1) 6 * 1/\min (c+1) 6 * 1<=5;have b:2<=c * 1:=b;have d:c * 1<=4:=d;lia}
def alf {a:Type}(l:List a):(bu l (KE 2) (KE 28)).length<=28:=by
 unfold bu;rw[bR,dI,show(2:Int)=((2:Nat):Int)from rfl,show(28:Int)=((28:Nat):Int)from rfl,HT.sIx_nat,HT.sIx_nat];lia
def g_law:GP:=λds R=>∃ns:LQ,ds=[.scr (ns.map iT)]/\R (.val (.v (.bl MO)))
def f_law:Pm (adn) 5 1 1 (g_law):=by
 intro ds R i h;obtain⟨ns,rfl,q⟩:=h;show{rfl,ns,0,rfl,λx=>?_};show{rfl,x,rfl,λws ok d f g=>?_};have le:2<=(LL ws).length/\(LL ws).length<=5:=(by rw[Ys];lia);show{rfl,bu ns (KE 2) (KE 28),ws,3,NA (λz=>[Tr.lst z,spT ws,iT 3]) (ahe iT ns _ _),alf ns,ok,d,λs a b hz=>?_};show{rfl,ns,1,rfl,λp=>?_};show{rfl,ws,rfl,ok,λc t=>{bg rfl,?_}};have e:=Turned.two t f g;show{rfl,ws,s,p,rfl,ok,le.1,le.2,a,b,hz,?_};show{rfl,c,s,p,rfl,t.sp ok,e.1,e.2,Y8 t ok d a,b,hz,?_};show{rfl,ws,s,p,rfl,ok,le.1,le.2,a,b,hz,?_};show q
end PB.N21
namespace VL
open PySem L2
section
variable {K:aF}{mg:Str->AX}{h:MR}
structure At (K:aF)(f:MQ)(x q:Str)(st:MT):Prop where
 ex:∃fd,Fun K x q st f fd
def at_mk {f:MQ}{x q:Str}{st:MT}{a:aK}{b d:Option MQ}{e:Array AX}{kV g i cd ct:aK}(l:K.lookup f=KE {a,b,.func (fV x q (jj st) (ij st) (bt st) .none kV g i d cd ct),e})(c:mY K cd q=MO)(k:fK K (.ref f)=MO):At K f x q st:={_,aiu l c k}
structure Af (K:aF)(f:MQ)(x:Str)(st:MT):Prop where
 ns:cF K bJ x=KE (KE (.ref f))
 at_:At K f x x st
def af_mk {f:MQ}{x:Str}{st:MT}{b:aK}{d e:Option MQ}{g:Array AX}{kV i j cd ct:aK}(a:cF K bJ x=KE (KE (.ref f)))(l:K.lookup f=KE {b,d,.func (fV x x (jj st) (ij st) (bt st) .none kV i j e cd ct),g})(c:mY K cd x=MO)(k:fK K (.ref f)=MO):Af K f x st:={a,at_mk l c k}
def yo (x q:Str)(st:MT)(ps:AQ):Nat->Prop
 |1=>∀kV f g i j ct a,pO (fV x q (jj st) (ij st) (bt st) .none kV f g i j ct) {[a],[]}=pure (ps.zip [a])
 |2=>∀kV f g i j ct a b,pO (fV x q (jj st) (ij st) (bt st) .none kV f g i j ct) {[a,b],[]}=pure (ps.zip [a,b])
 |3=>∀kV f g i j ct a b c,pO (fV x q (jj st) (ij st) (bt st) .none kV f g i j ct) {[a,b,c],[]}=pure (ps.zip [a,b,c])
 |4=>∀kV f g i j ct a b c d,pO (fV x q (jj st) (ij st) (bt st) .none kV f g i j ct) {[a,b,c,d],[]}=pure (ps.zip [a,b,c,d])
 |5=>∀kV f g i j ct a b c d e,pO (fV x q (jj st) (ij st) (bt st) .none kV f g i j ct) {[a,b,c,d,e],[]}=pure (ps.zip [a,b,c,d,e])
 |_=>False
def yp (F:Fun K x q st f fd)(b:yo x q st ps ps.length):Binds K fd ps []:=F.binds λkV i j l cd ct us m=>by
 rw[<-m]at b
 match us,b with
 | [a],b=>show b kV i j l cd ct a
 | [a,c],b=>show b kV i j l cd ct a c
 | [a,c,d],b=>show b kV i j l cd ct a c d
 | [a,c,d,e],b=>show b kV i j l cd ct a c d e
 | [a,c,d,e,g],b=>show b kV i j l cd ct a c d e g
theorem Af.fd (F:Af K f x st)(X:K.In h)(G:h.Ns bJ mg)(b:autoParam (yo x x st ps ps.length) JK._auto_1):∃fd,Fd K mg x st ps f fd:=by
 obtain⟨fd,e⟩:=F.at_.ex;show{fd,e,kR X G F.ns,yp e b}
def At.md (F:At K f x q st)(c:Cls K C)(a:cW K (.ref C) x=KE (KE (.ref f)))(i:gJ K (.ref f)=MO)(b:autoParam (yo x q st ps ps.length) JK._auto_1):∃fd,Md K C x q st ps f fd:=by
 obtain⟨fd,e⟩:=F.ex;show{fd,e,c,#v[a,i,e.kp],yp e b}
def At.cd (F:At K f x q st)(X:K.In h)(G:h.Ns bJ mg)(n:cF K bJ y=KE (KE (.ref C)))(ga:nM K (.ref C) "__getattribute__"=KE (KE (.builtin "type.__getattribute__")))(rd:rX K C (.type "type")=MO)
  (fc:rY K (.ref C) (.type "type") x=KE (.val (.ref f))) (b:autoParam (yo x q st ps ps.length) JK._auto_1):∃fd,Cd K mg y x q st ps C f fd:=by
 obtain⟨fd,e⟩:=F.ex;show{fd,e,#v[ga,rd,fc,e.kp],kR X G n,yp e b}
def At.kd (F:At K f "__init__" q st)(X:K.In h)(G:h.Ns bJ mg)(n:cF K bJ y=KE (KE (.ref C)))(mk:oU K C=MO)(a:cW K (.ref C) "__init__"=KE (KE (.ref f)))(i:gJ K (.ref f)=MO)(kp:fK K (.ref C)=MO)
  (b:autoParam (yo "__init__" q st ps ps.length) JK._auto_1):∃fd,Kd K mg y q st ps C f fd:=by
 obtain⟨fd,e⟩:=F.ex;show{fd,e,#v[mk,a,i,kp],kR X G n,yp e b}
def Ej {its:AW}{ss:AQ}(X:K.In h)(G:h.Ns bJ mg)(e:cF K bJ x=KE (KE (.ref a)))(l:K.lookup a=KE {.type "tuple",c,.seq its n,d})(z:its.size<=1000)(r:Vals (ss.map V.str) its.toList) :
  Gc #v[P,w,K] mg x (.tup (ss.map λs=>.v (.str s))):=by
 show{.ref a,.ref a,kR X G e,rfl,λF=>.tup (aev l rfl rfl (aX z #v[]) r) ?_};clear r
 induction ss with
 |nil=>show .nil
 |cons s ss b=>show .cons (.v rfl) b
def bl_mk (X:K.In h)(G:h.Ns bJ mg)(b:∀x∈(ZY:AQ),cF K bJ x=KE MN):Bl mg:=by
 have n:∀x∈(ZY:AQ),mg x=MN:=λx o=>PySem.W.mg_none_of X G (b x o);simp only[List.forall_mem_cons,dU,false_implies,implies_true,and_true]at n;obtain⟨p,q,r,s,u,w,y,z,A,a,c,d,e,f,g,i,j,l,m⟩:=n;show#v[p,q,r,s,u,w,y,z,A,a,c,d,e,f,g,i,j,l,m]
end
section
variable {P:aQ}{w:bB}{K:aF}{mg:Str->AX}{base:MR}
def Fd.go (F:Fd K mg x st ps f fd)(k a:Nat)(N:AQ)(g:GS)(b:Pm g N.length a ps.length c)(d:N.Nodup->Rdx P w K mg base N x st f k g)(S:autoParam (fj N ps (bt st)) JX._auto_1):Fo P w K mg base (k+1) x ps (spP #v[P,w,K] ps.length c):=vf F S (d S.nd) b
def Fd.goL (F:Fd K mg x st ps f fd)(k a:Nat)(N:AQ)(g:GS)(b:Pm g N.length a ps.length c)(d:N.Nodup->Rdx P w K mg base N x st f k g)(S:autoParam (fj N ps (bt st)) JX._auto_1):ir P w K mg base CX0 (k+1) f fd ps (spP #v[P,w,K] ps.length c):=fn_g F.fn S (d S.nd) b
def Fd.goR (F:Fd K mg x st ps f fd)(p k a:Nat)(N:AQ)(g:GS)(b:Pr p g N.length a ps.length c)(d:N.Nodup->Rdx P w K mg base N x st f k g)(S:autoParam (fj N ps (bt st)) JX._auto_1):Fo P w K mg base (k+1) x ps (spR #v[P,w,K] ps.length p c):=vfr F S (d S.nd) b
def Md.go (F:Md K C x q st ps f fd)(k a:Nat)(N:AQ)(g:GS)(b:Pm g N.length a ps.length c)(d:N.Nodup->Rdx P w K mg base N q st f k g)(S:autoParam (fj N ps (bt st)) JX._auto_1):Mo P w K mg base (k+1) C x ps (spP #v[P,w,K] ps.length c):=vfm F S (d S.nd) b
def Cd.go (F:Cd K mg y x q st ps C f fd)(p k a:Nat)(N:AQ)(g:GS)(b:Pr p g N.length a ps.length c)(d:N.Nodup->Rdx P w K mg base N q st f k g)(S:autoParam (fj N ps (bt st)) JX._auto_1):Co P w K mg base (k+1) y x ps (spR #v[P,w,K] ps.length p c):=vfc F S (d S.nd) b
def Kd.go (F:Kd K mg x q st ps C f fd)(p k a:Nat)(N:AQ)(g:GS)(b:Pr p g N.length a ps.length c)(d:N.Nodup->Rdx P w K mg base N q st f k g)(S:autoParam (fj N ps (bt st)) JX._auto_1):Ko P w K mg base (k+1) x C ps (spR #v[P,w,K] ps.length p c):=vfk F S (d S.nd) b
end
theorem Th:∀ns:LQ,Rps b F (ns.map V.int) (ns.map λi=>Tr.v (.int i))
 | []=>.nil
 |_::ns=>.cons (.v rfl) (Th ns)
def Za {ns:LQ}(f:∀R:Ev->Prop,R (.val (.v (.bl MO)))->g [.scr (ns.map λi=>Tr.v (.int i))] R)(l:SqL b.K H a (ns.map V.int)):spP b 1 g [.ref a] H (λv _=>v=.bl MO) λ_ _ _=>False:=
 {rfl,{H,H,λ_=>MN},[.scr (ns.map λi=>Tr.v (.int i))],λc=>c=.val (.v (.bl MO)),rfl,{λ_ _ e=>e,λj d e=>by simp at e,λ_ _ e=>(nomatch e),λ_ _ _ e=>(nomatch e)},.cons (.scr l (Th ns)) .nil,f _ rfl,λc m x e _ _ _ r=>by subst e;show(Rp.vI r).1}
def law_walk {l:nV}{n k:Nat}{e:AQ}{j:(Str->AX)->MR->Prop}{c:bB->MR->Prop}{d:DefRec}{K:Params->aF}(m:l.most=KE n)(o:d.params.defaults=[])(p:∀(w:bB)(h:MR),c w h->(K w.params).In h)(hz:n<=1000)(r:Room k pQ)
  (y:∀ns:LQ,ns.length<=n->∀R:Ev->Prop,R (.val (.v (.bl MO)))->g [.scr (ns.map λi=>Tr.v (.int i))] R)
  (F:∀(w:bB)(mg:Str->AX) (fa:MQ) (h:MR),(K w.params).In h->h.Ns bJ mg->mg d.name=KE (.ref fa)->∃fd:gY,(∀(s:aG)(u:aK),rA s fd {[u],[]} [(x,u)])/\∀base:MR,(K w.params).In base->base.Ns bJ mg->ir l.prog w (K w.params) mg base CX0 k fa fd [x] (spP {l.prog,w,K w.params} 1 g)) :
  PySem.W.WalkO q e j c l.row.toRowW d [] (λf vs=>vG f vs):=
 L2.walk_of (n:=n) (k:=k) (x:=x) (CX:=λ_=>CX0) (sp:=λw=>spP {l.prog,w,K w.params} 1 g) m (aX hz #v[]) o r p F (λw _ a ns A _ C=>Za (b:={l.prog,w,K w.params}) (y ns A) C) λ_ _ _ _ _ z=>z
def Af.law (F:Af K f x st)(X:K.In h)(G:h.Ns bJ mg)(a:mg x=KE (.ref fa))(b:autoParam (yo x x st [p] 1) JK._auto_1):∃fd,Fd K mg x st [p] fa fd/\∀s v,rA s fd {[v],[]} [(p,v)]:=by
 have e:=a.symm.trans (kR X G F.ns);cases e;obtain⟨fd,e⟩:=F.at_.ex;show{fd,{e,kR X G F.ns,yp e b},λs v=>?_};obtain⟨j,l,kV,c,d,g,i,ct,m,rfl,lk,n⟩:=e.ex;show .of_eq (b kV c d g i ct v)
end VL
namespace PB.N21
open PySem L2 VL Bits PB PySem.Deep
def top (i:Nat):MT:=PySem.Challenge.pw_switchsay_k21_trails.main.body.getD i (.Pass {0,0,0,0})
def Gp (ds:DQ)(R:Ev->Prop):¬kf 0 ds R:=λ⟨ws,s,_,_,_,_,_,h,_⟩=>by have:=s.size_pos;lia
section
variable {P:aQ}{w:bB}{K:aF}{y:Str->AX}{b:MR}
section
variable (P:aQ)(w:bB)(K:aF)(y:Str->AX)(b:MR)(C:MQ)
abbrev Fp (k:Nat)(x:Str)(s:AQ)(n:Nat)(g:GP):Prop:=Fo P w K y b k x s (spP #v[P,w,K] n g)
abbrev Qa:=Fp P w K y b 1 "nothing" ZE 1 pb
abbrev Qb:=Fp P w K y b 1 "the_same" ZE 1 mv
abbrev Qc:=Fp P w K y b 1 "either_of" ZH 2 ni
abbrev Qd:=Fp P w K y b 1 "where_nothing" ZD 1 qd
abbrev Qe:=Fp P w K y b 1 "letters_in" YS 2 u7
abbrev Qf:=Fp P w K y b 1 "reached_from" YT 2 qw
abbrev Qg:=Fp P w K y b 2 "one_then_other" ZR 2 iz
abbrev Qh:=Fp P w K y b 2 "again_and_again" ZD 1 m9
abbrev Qi:=Fp P w K y b 2 "filling" YH 1 wq
abbrev Qj:=Fp P w K y b 2 "note_ways" ZE 1 xl
abbrev Qk:=Fp P w K y b 3 "behind" ZR 2 zi
abbrev Ql:=Fp P w K y b 4 "either_ways" ZH 2 tj
abbrev Qm:=Fp P w K y b 4 "then_ways" ZR 2 xm
abbrev Qn:=Fp P w K y b 1 "must_value" YN 2 u9
abbrev Qo:=Fp P w K y b 2 "place_of" YV 3 ud
abbrev Qp:=Fp P w K y b 1 "is_relation" ZU 3 tm
abbrev Qq:=Fp P w K y b 1 "put_relation" ZU 3 qx
abbrev Qr:=Fp P w K y b 1 "held_in" ZP 1 su
abbrev Qs:=Fp P w K y b 2 "parts_of" ZP 1 qh
abbrev Qt:=Fp P w K y b 3 "is_test" ZP 1 Ba
abbrev Qu:=Fp P w K y b 4 "must_test" ZP 1 rq
abbrev Qv:=Fp P w K y b 5 "must_part" YM 2 xn
abbrev Qw:=Fp P w K y b 6 "must_saying" YK 2 tu
abbrev Qx:=Fp P w K y b 3 "plain_relation" YX 3 oq
abbrev Qy:=Fp P w K y b 3 "again_row" YL 3 xo
abbrev Qz:=Fp P w K y b 4 "again_ways" YH 1 vb
abbrev QA:=Fp P w K y b 5 "ways_of_part" ZL 4 mw
abbrev QB:=Fp P w K y b 6 "ways_of" Z' 3 Bb
abbrev QC:=Fp P w K y b 1 "each_longer" YJ 2 tw
abbrev QD:=Fp P w K y b 2 "letters_of" ["speech"] 1 vg
abbrev QE:=Co P w K y b 1 "Runs" "__init__" ZG (spR #v[P,w,K] 3 0 (xp C))
abbrev QF:=Mo P w K y b 1 C "rooms" ["self"] (spP #v[P,w,K] 1 (vw C))
abbrev QG:=Mo P w K y b 1 C "masks_from" ZW (spP #v[P,w,K] 3 (ji C))
abbrev QH:=Mo P w K y b 2 C "ends_from" ZW (spP #v[P,w,K] 3 (j4 C))
abbrev QI:=Mo P w K y b 3 C "ends" ZS (spP #v[P,w,K] 3 (xq C))
abbrev QJ:=Mo P w K y b 2 C "goes_from" ZW (spP #v[P,w,K] 3 (j6 C))
abbrev QK:=Mo P w K y b 3 C "goes" ZS (spP #v[P,w,K] 3 (xt C))
abbrev QL:=Ko P w K y b 7 "Machine" C YU (spR #v[P,w,K] 3 0 (qz C))
abbrev QM:=Fp P w K y b 3 "ended" YR 2 (Ik C)
abbrev QN:=Fp P w K y b 3 "gone_on" ZF 3 (Bj C)
abbrev QO:=Fp P w K y b 4 "one_note_ahead" YW 3 (ou C)
abbrev QP:=Fp P w K y b 5 "that_can_end" YI 2 (rj C)
abbrev QQ:=Fp P w K y b 6 "runs_from" YZ 3 (xv C)
abbrev QR:=Fp P w K y b 9 "trails" ZN 4 z6
abbrev QS:=Fp P w K y b 1 "_law_cell" ZC 2 nj
abbrev QT:=Fp P w K y b 1 "_law_purse" ZI 1 ly
abbrev QU:=Fo P w K y b 1 "_law_take" ZA (spR #v[P,w,K] 2 0 c6)
abbrev QV:=Fp P w K y b 1 "_law_letters" ZJ 1 mz
abbrev QW:=Fo P w K y b 2 "_law_lone" ZO (spR #v[P,w,K] 3 1 xr)
abbrev QX:=Fp P w K y b 1 "_law_joined" YQ 2 nv
abbrev QY:=Fp P w K y b 3 "_law_grown" ZT 4 vk
abbrev QZ:=Fp P w K y b 4 "_law_saying" ZK 3 ny
abbrev Q0:=Fp P w K y b 101 "_law_spans" ZX 4 g__law_spans
abbrev Q1:=Fp P w K y b 102 "_law_makes" ZV 3 vo
abbrev Q2:=Fp P w K y b 2 "_law_speech" ZI 1 j9
abbrev Q3:=Fp P w K y b 1 "_law_power" YO 2 vv
abbrev Q4:=Fp P w K y b 1 "_law_all" ZM 3 zu
abbrev Q5:=Fp P w K y b 1 "_law_turned" ZJ 1 oa
abbrev Q6:=Fp P w K y b 103 "_law_good" ZQ 3 nq
end
def Vq (z:Bl y)(F:Fd K y "nothing" (top 12) ZE f fd):Qa P w K y b:=F.go 0 1 ZE _ Yd λa c A outer s H E d=>(aj (ar (ao nh (ax (ag ah ae)) (v_ 0))))
def Ry (z:Bl y)(F:Fd K y "the_same" (top 13) ZE f fd):Qb P w K y b:=F.go 0 1 ZE _ Uy λa c A outer s H E d=>(aj (ar (cp (ns:=["place"]) (ys:=[]) (fr:=[]) (cl:=[]) (csN [(".0",.local),("place",.local)]) rfl (iw rfl z.range (ag (v_ 0) ae)) (λ_ _ _ _=>gv) (λ_ _ _ _=>cw) (λ_ _ _ _=>(ao A1 ah (v_ 0))) (by show bZ))))
def O8 (z:Bl y)(F:Fd K y "either_of" (top 14) ZH f fd):Qc P w K y b:=F.go 0 1 ZH _ P0 λa c A outer s H E d=>(aj (ar (cp (ns:=["mask","another"]) (ys:=[]) (fr:=[]) (cl:=[]) (csN [(".0",.local),("mask",.local),("another",.local)]) rfl (Hh rfl z.zip (ag (v_ 0) (ag (v_ 1) ae))) (λ_ _ _ _=>(xj rfl)) (λ_ _ _ _=>cw) (λ_ _ _ _=>(ao Uk (v_ 0) (v_ 1))) xk)))
def Ek (z:Bl y)(F:Fd K y "where_nothing" (top 18) ZD f fd):Qd P w K y b:=F.go 0 1 ZD _ Fx λa c A outer s H E d=>(aj (ar (cp (ns:=["place","mask"]) (ys:=[]) (fr:=[]) (cl:=[]) (csN [(".0",.local),("place",.local),("mask",.local)]) rfl (y6 rfl z.enumerate (ag (v_ 0) ae)) (λ_ _ _ _=>(xj rfl)) (λ_ _ _ _=>cw) (λ_ _ _ _=>(Lk (ib (v_ 1)) ah (ao A1 ah (v_ 0)))) xk)))
def K5 (z:Bl y)(F:Fd K y "letters_in" (top 19) YS f fd):Qe P w K y b:=F.go 0 1 YS _ Nm λa c A outer s H E d=>(aj (ar (cp (ns:=["place","letter"]) (ys:=["mask"]) (fr:=[1]) (cl:=[("mask",‹s›+1)]) (csN [(".0",.local),("place",.local),("letter",.local),("mask",.cell)]) rfl (y6 rfl z.enumerate (ag (v_ 0) ae)) (λ_ _ _ _=>(xj rfl)) (λ_ _ _ _=>(ki (ib (ao Fi (ao Xp (v_ 2) (v_ 0)) ah)))) (λ_ _ _ _=>(v_ 1)) xk)))
def Gq (z:Bl y)(F:Fd K y "reached_from" (top 16) YT f fd):Qf P w K y b:=F.go 0 1 ["mask","relation","reached","lowest"] _ Hn λa c A outer s H E d=>(ai (aw (i:=2) a rfl (aU rfl) ah) (ai (ux (L:=[3]) bO (ib (v_ 0)) (ai (aw (i:=3) a rfl (aU rfl) (ao Fi (v_ 0) (jm (v_ 0)))) (ai (Py (i:=2) a rfl (aU rfl) (aq (v_ 1) (ao A0 (ajv PySem.F.plainAttrs_int PySem.F.slot_int_bit_length PySem.F.type_int_bit_length afp (v_ 3)) ah))) (aj (M8 (i:=0) a rfl (aU rfl) (v_ 3)))))) (aj (ar (v_ 2)))))
def Cm (z:Bl y)(d:Qf P w K y b)(F:Fd K y "one_then_other" (top 15) ZR f fd):Qg P w K y b:=F.go 1 2 ["first","second","known","mask"] _ Dy λc e A outer s H E a=>(ai (fk (i:=2) (j:=0) c rfl (dZ rfl) agd) (ai (dq (L:=[3]) bO rfl (cj (v_ 0)) (d8 (i:=3) c rfl (aU rfl)) (aj (de (bj (X4 a.units) (v_ 3) (v_ 2)) (aj (Na (i:=2) rfl (dZ (aU rfl)) a.units (vc d a (ag (v_ 3) (ag (v_ 1) ae))) (v_ 3))) cg))) (aj (ar (cp (ns:=["mask"]) (ys:=["known"]) (fr:=[2]) (cl:=[("known",‹s›+1)]) (csN [(".0",.local),("mask",.local),("known",.cell)]) rfl (cj (v_ 0)) (λ_ _ _ _=>gv) (λ_ _ _ _=>cw) (λ_ _ _ _=>(Ft a.units (v_ 1) (v_ 0))) (by show bZ))))))
def Bo (z:Bl y)(d:Qc P w K y b)(e:Qb P w K y b)(F:Fd K y "again_and_again" (top 17) ZD f fd):Qh P w K y b:=F.go 1 1 ["relation","rows","middle","through"] _ Ci λa g A outer s H E c=>(ai (aw (i:=1) a rfl (aU rfl) (vc d c (ag (vc e c (ag (bx d9 rfl z.len ⋯ (b9 (v_ 0) ae)) ae)) (ag (v_ 0) ae)))) (ai (dq (L:=[2,3]) bO rfl (iw rfl z.range (ag (bx d9 rfl z.len ⋯ (b9 (v_ 1) ae)) ae)) (d8 (i:=2) a rfl (dZ rfl)) (ai (aw (i:=3) a rfl (dZ rfl) (aq (v_ 1) (v_ 2))) (aj (jx (i0:=1) a rfl rfl (ns:=["row"]) (ys:=["middle","through"]) (fr:=[2,3]) (cl:=[("through",‹s›+2),("middle",‹s›+1)]) (csN [(".0",.local),("row",.local),("middle",.cell),("through",.cell)]) rfl (cj (v_ 1)) (λ_ _ _ _=>gv) (λ_ _ _ _=>cw) (λ_ _ _ _=>(Lk (ib (ao Fi (ao Xp (v_ 0) (v_ 1)) ah)) (ao Uk (v_ 0) (v_ 2)) (v_ 0))) (by show bZ))))) (aj (ar (v_ 1)))))
def Vr (z:Bl y)(a:Qa P w K y b)(F:Fd K y "filling" (top 42) YH f fd):Qi P w K y b:=F.go 1 1 YH _ Yf λd e A outer s H E c=>(aj (ar (ao nh (ax (ag (vc a c (ag (bx d9 rfl z.len ⋯ (b9 (aq (aq (v_ 0) ah) ah) ae)) ae)) ae)) (ao A0 (bx d9 rfl z.len ⋯ (b9 (v_ 0) ae)) ah))))
def O9 (z:Bl y)(c:Qa P w K y b)(d:Qb P w K y b)(F:Fd K y "note_ways" (top 38) ZE f fd):Qj P w K y b:=F.go 1 1 ZE _ P2 λe g A outer s H E a=>(aj (ar (ax (ag (ax (ag (vc c a (ag (v_ 0) ae)) (ag (vc d a (ag (v_ 0) ae)) ae))) (ag (ax (ag (vc d a (ag (v_ 0) ae)) (ag (vc c a (ag (v_ 0) ae)) ae))) ae)))))
def Zb (z:Bl y)(a:Qi P w K y b)(F:Fd K y "behind" (top 41) ZR f fd):Qk P w K y b:=F.go 2 1 ["first","second","fill"] _ abt λc e A outer s H E d=>(ai (aw (i:=2) c rfl (dZ rfl) (vc a d (ag (v_ 0) ae))) (aj (ar (cp (ns:=["row"]) (ys:=["fill"]) (fr:=[2]) (cl:=[("fill",‹s›+1)]) (csN [(".0",.local),("row",.local),("fill",.cell)]) rfl (cj (gj (v_ 1) (dj ah) dz)) (λ_ _ _ _=>gv) (λ_ _ _ _=>cw) (λ_ _ _ _=>(ao bp (ao bp (gj (v_ 0) dz (dj ah)) (v_ 1)) (gj (v_ 0) (dj ah) dz))) (by show bZ)))))
def Io (z:Bl y)(d:Qc P w K y b)(e:Qi P w K y b)(g:Qk P w K y b)(F:Fd K y "either_ways" (top 39) ZH f fd):Ql P w K y b:=F.go 3 1 ["one","other","start","fill"] _ Ka λc j A outer s H E a=>(ai (aw (i:=2) c rfl (aU rfl) (ao bp (ao bp (ax (ag (vc d a (ag (aq (aq (v_ 0) ah) ah) (ag (aq (aq (v_ 1) ah) ah) ae))) ae)) (gj (aq (v_ 0) ah) (dj ah) dz)) (gj (aq (v_ 1) ah) (dj ah) dz))) (ai (aw (i:=3) c rfl (dZ rfl) (vc e a (ag (v_ 1) ae))) (aj (ar (ao bp (ao bp (ax (ag (v_ 2) ae)) (cp (ns:=["row"]) (ys:=["fill"]) (fr:=[3]) (cl:=[("fill",‹s›+1)]) (csN [(".0",.local),("row",.local),("fill",.cell)]) rfl (cj (gj (v_ 0) (dj ah) dz)) (λ_ _ _ _=>gv) (λ_ _ _ _=>cw) (λ_ _ _ _=>(ao bp (v_ 0) (v_ 1))) (by show bZ))) (vc g a (ag (v_ 0) (ag (v_ 1) ae))))))))
def Pa (z:Bl y)(d:Qg P w K y b)(e:Qk P w K y b)(F:Fd K y "then_ways" (top 40) ZR f fd):Qm P w K y b:=F.go 3 2 ["first","second","rows","row","begun"] _ P4 λa g A outer s H E c=>(ai (fk (i:=2) (j:=0) a rfl (aU rfl) (ax ae)) (ai (dq (L:=[3,4]) bO rfl (cj (v_ 0)) (d8 (i:=3) a rfl (dZ rfl)) (ai (jx (i0:=4) a rfl rfl (ns:=ZD) (ys:=["row"]) (fr:=[3]) (cl:=[("row",‹s›+1)]) (csN [(".0",.local),("relation",.local),("one_then_other",.globalImplicit),("row",.cell)]) rfl (cj (aq (v_ 1) ah)) (λ_ _ _ _=>gv) (λ_ _ _ _=>cw) (λ_ _ _ _=>(vc d c (ag (aq (v_ 1) ah) (ag (v_ 0) ae)))) (by show bZ)) (aj (eh (yi (i:=2) rfl (aU rfl) (ao bp (ao bp (gj (v_ 4) dz (dj ah)) (gj (v_ 3) (dj ah) dz)) (gj (v_ 4) (dj ah) dz))))))) (aj (ar (ao bp (v_ 2) (vc e c (ag (v_ 0) (ag (v_ 1) ae))))))))
def K6 (z:Bl y)(F:Fd K y "must_value" (top 10) YN f fd):Qn P w K y b:=F.go 0 1 YN _ Nr λa c A outer s H E d=>(aj (de (yz (Lj (bj B0 (v_ 1) ah) (p9 (bj og_ge (v_ 1) (v_ 0))))) (aj y3) cg))
def Rz (z:Bl y)(c:Qn P w K y b)(F:Fd K y "place_of" (top 9) YV f fd):Qo P w K y b:=F.go 1 1 ["speech","field","value","place","pair"] _ U1 λd e A outer s H E a=>(ai (dq (L:=[3,4]) bO rfl (afy rfl z.enumerate (ag (v_ 0) ae)) (vg2 (i:=3) (j:=4) rfl d rfl rfl (aU rfl) (aU rfl)) (aj (de (bj (dw a.units) (aq (v_ 4) ah) (v_ 1)) (ai (eh (vc c a (ag (aq (v_ 4) ah) (ag (v_ 2) ae)))) (aj (ar (v_ 3)))) cg))) (aj y3))
def Ip (z:Bl y)(F:Fd K y "is_relation" (top 36) ZU f fd):Qp P w K y b:=F.go 0 1 ZU _ Kc λc d A outer s H E a=>(aj (ar (cp (ns:=["at","letter"]) (ys:=["place","value"]) (fr:=[1,2]) (cl:=[("value",‹s›+2),("place",‹s›+1)]) (csN [(".0",.local),("at",.local),("letter",.local),("place",.cell),("value",.cell)]) rfl (y6 rfl z.enumerate (ag (v_ 0) ae)) (λ_ _ _ _=>(xj rfl)) (λ_ _ _ _=>cw) (λ_ _ _ _=>(Lk (bj (dw a.units) (aq (v_ 1) (v_ 2)) (v_ 3)) (ao A1 ah (v_ 0)) ah)) xk)))
def Gr (z:Bl y)(F:Fd K y "put_relation" (top 37) ZU f fd):Qq P w K y b:=F.go 0 1 ["letters","place","value","put"] _ Hr λa d A outer s H E c=>(ai (jx (i0:=3) a rfl rfl (ns:=["letter"]) (ys:=["place","value"]) (fr:=[1,2]) (cl:=[("value",‹s›+3),("place",‹s›+2)]) (csN [(".0",.local),("letter",.local),("place",.cell),("value",.cell)]) rfl (cj (v_ 0)) (λ_ _ _ _=>gv) (λ_ _ _ _=>cw) (λ_ _ _ _=>(ao bp (ao bp (gj (v_ 0) dz (dj (v_ 1))) (bw (ag (v_ 2) ae))) (gj (v_ 0) (dj (ao bp (v_ 1) ah)) dz))) (by show bZ)) (aj (ar (cp (ns:=["letter"]) (ys:=["letters"]) (fr:=[0]) (cl:=[("letters",‹s›+1)]) (csN [(".0",.local),("letter",.local),("letters",.cell)]) rfl (cj (v_ 3)) (λ_ _ _ _=>gv) (λ_ _ _ _=>cw) (λ_ _ _ _=>(ao A1 ah (Um cQ jA nK (Ds c.units) (v_ 1) (b9 (v_ 0) ae)))) (by show bZ)))))
def Vs (z:Bl y)(a:Gc #v[P,w,K] y "HOLDING_SORTS" qg)(F:Fd K y "held_in" (top 25) ZP f fd):Qr P w K y b:=F.go 0 1 ZP _ Yi λd e A outer s H E c=>(ai (de (bj (Fj c.units) (aq (v_ 0) ah) (vgl a)) (aj (ar (gj (v_ 0) (dj ah) dz))) cg) (aj (ar (bw ae))))
def R0 (z:Bl y)(c:Qr P w K y b)(F:Fd K y "parts_of" (top 24) ZP f fd):Qs P w K y b:=F.go 1 3 ["saying","parts","waiting","part"] _ U3 λa e A outer s H E d=>(ai (fk (i:=1) (j:=1) a rfl (aU rfl) (ax ae)) (ai (fk (i:=2) (j:=0) a rfl (aU rfl) (ax (ag (v_ 0) ae))) (ai (ux (L:=[3]) bO (ib (v_ 2)) (ai (aw (i:=3) a rfl (aU rfl) (Fk (i:=2) cQ oQ oR Mv rfl (aU rfl))) (ai (eh (yi (i:=1) rfl (aU rfl) (v_ 3))) (aj (eh (B5 (i:=2) cQ gP gQ o8 rfl (aU rfl) (b9 (X1 (vc c d (ag (v_ 3) ae)) (jm ah)) ae))))))) (aj (ar (v_ 1))))))
def Vt (z:Bl y)(c:Gc #v[P,w,K] y "TEST_SORTS" va)(d:Qs P w K y b)(F:Fd K y "is_test" (top 28) ZP f fd):Qt P w K y b:=F.go 2 1 ZP _ Yk λe g A outer s H E a=>(aj (ar (bx (ajs rfl) rfl z.all ⋯ (b9 (cp (ns:=["part"]) (ys:=[]) (fr:=[]) (cl:=[]) (csN [(".0",.local),("part",.local),("TEST_SORTS",.globalImplicit)]) rfl (cj (vc d a (ag (v_ 0) ae))) (λ_ _ _ _=>gv) (λ_ _ _ _=>cw) (λ_ _ _ _=>(yd (Fj a.units) (aq (v_ 0) ah) (vgl c))) (by show bZ)) ae))))
def Pb (z:Bl y)(a:Qt P w K y b)(F:Fd K y "must_test" (top 29) ZP f fd):Qu P w K y b:=F.go 3 1 ZP _ P6 λd e A outer s H E c=>(aj (de (Mr (ib (vc a c (ag (v_ 0) ae)))) (aj y3) cg))
def Pc (z:Bl y)(c:Gc #v[P,w,K] y "FIELD_SORTS" tq)(d:Qo P w K y b)(e:Qu P w K y b)(F:Fd K y "must_part" (top 27) YM f fd):Qv P w K y b:=F.go 4 1 YM _ P8 λg i A outer s H E a=>(ai (de (bj (Fj a.units) (aq (v_ 1) ah) (vgl c)) (aj (eh (vc d a (ag (v_ 0) (ag (aq (v_ 1) ah) (ag (aq (v_ 1) ah) ae)))))) cg) (aj (de (bj (dw a.units) (aq (v_ 1) ah) cu) (aj (eh (vc e a (ag (aq (v_ 1) ah) ae)))) cg)))
def Iq (z:Bl y)(c:Qs P w K y b)(d:Qv P w K y b)(F:Fd K y "must_saying" (top 26) YK f fd):Qw P w K y b:=F.go 5 1 ["speech","saying","part"] _ Kf λe g A outer s H E a=>(aj (dq (L:=[2]) bO rfl (cj (vc c a (ag (v_ 1) ae))) (d8 (i:=2) e rfl (aU rfl)) (aj (eh (vc d a (ag (v_ 0) (ag (v_ 2) ae)))))))
def Cp (z:Bl y)(c:Qa P w K y b)(d:Qb P w K y b)(e:Qo P w K y b)(g:Qp P w K y b)(j:Qq P w K y b)(F:Fd K y "plain_relation" (top 35) YX f fd):Qx P w K y b:=F.go 2 1 ["speech","letters","part","place"] _ D4 λl m A outer s H E a=>(ai (de (bj (dw a.units) (aq (v_ 2) ah) cu) (aj (ar (vc c a (ag (bx d9 rfl z.len ⋯ (b9 (v_ 1) ae)) ae)))) cg) (ai (de (bj (dw a.units) (aq (v_ 2) ah) cu) (aj (ar (vc d a (ag (bx d9 rfl z.len ⋯ (b9 (v_ 1) ae)) ae)))) cg) (ai (aw (i:=3) l rfl (aU rfl) (vc e a (ag (v_ 0) (ag (aq (v_ 2) ah) (ag (aq (v_ 2) ah) ae))))) (ai (de (bj (dw a.units) (aq (v_ 2) ah) cu) (aj (ar (vc g a (ag (v_ 1) (ag (v_ 3) (ag (aq (v_ 2) ah) ae)))))) cg) (aj (ar (vc j a (ag (v_ 1) (ag (v_ 3) (ag (aq (v_ 2) ah) ae))))))))))
def Pd (z:Bl y)(c:Qg P w K y b)(e:Qc P w K y b)(F:Fd K y "again_row" (top 44) YL f fd):Qy P w K y b:=F.go 2 1 ["row","anew","start","ended","later"] _ Q8 λd g A outer s H E a=>(ai (aw (i:=3) d rfl (dZ rfl) (vc c a (ag (aq (v_ 0) ah) (ag (v_ 1) ae)))) (ai (jx (i0:=4) d rfl rfl (ns:=["old","begun"]) (ys:=["ended"]) (fr:=[3]) (cl:=[("ended",‹s›+1)]) (csN [(".0",.local),("old",.local),("begun",.local),("either_of",.globalImplicit),("one_then_other",.globalImplicit),("ended",.cell)]) rfl (Hh rfl z.zip (ag (gj (v_ 0) (dj ah) dz) (ag (gj (v_ 2) (dj ah) dz) ae))) (λ_ _ _ _=>(xj rfl)) (λ_ _ _ _=>cw) (λ_ _ _ _=>(vc e a (ag (v_ 0) (ag (vc c a (ag (v_ 2) (ag (v_ 1) ae))) ae)))) xk) (aj (ar (ao bp (ax (ag (v_ 3) ae)) (v_ 4))))))
def K7 (z:Bl y)(d:Qh P w K y b)(e:Qy P w K y b)(F:Fd K y "again_ways" (top 43) YH f fd):Qz P w K y b:=F.go 3 1 ["ways","anew","rows"] _ Nx λa g A outer s H E c=>(ai (aw (i:=1) a rfl (dZ rfl) (vc d c (ag (aq (aq (v_ 0) ah) ah) ae))) (abv (i0:=2) (iv:=1) (ns:=["row"]) (ys:=["anew","ways"]) (fr:=[1,0]) (cl:=[("ways",‹s›+1),("anew",‹s›+2)]) a rfl rfl (csN [(".0",.local),("row",.local),("again_row",.globalImplicit),("anew",.cell),("ways",.cell)]) rfl (cj (v_ 0)) (λ_ _ _ _=>gv) (λ_ _ _ _=>(vc e c (ag (v_ 0) (ag (v_ 1) (ag (aq (v_ 2) ah) ae))))) (by show bZ) #v[] (Lv (pv 1) (V0 (T3 G5 (pv 2) Ls (λ_ _=>rfl)) Ls L4)) (aj (ar (v_ 2)))))
def Gs (z:Bl y)(c:Ql P w K y b)(d:Qm P w K y b)(e:Qz P w K y b)(g:Qd P w K y b)(i:Qj P w K y b)(j:Qx P w K y b)(F:Fd K y "ways_of_part" (top 34) ZL f fd):QA P w K y b:=F.go 4 1 ZL _ Hw λl m A outer s H E a=>(ai (de (bj (dw a.units) (aq (v_ 2) ah) cu) (aj (ar (vc c a (ag (aq (v_ 3) ah) (ag (aq (v_ 3) ah) ae))))) cg) (ai (de (bj (dw a.units) (aq (v_ 2) ah) cu) (aj (ar (vc d a (ag (aq (v_ 3) ah) (ag (aq (v_ 3) ah) ae))))) cg) (ai (de (bj (dw a.units) (aq (v_ 2) ah) cu) (aj (ar (vc e a (ag (aq (v_ 3) ah) ae)))) cg) (ai (de (bj (dw a.units) (aq (v_ 2) ah) cu) (aj (ar (ax (ag (ax (ag (vc g a (ag (aq (aq (aq (v_ 3) ah) ah) ah) ae)) ae)) ae)))) cg) (ai (de (bj (dw a.units) (aq (v_ 2) ah) cu) (aj (ar (vc i a (ag (bx d9 rfl z.len ⋯ (b9 (v_ 1) ae)) ae)))) cg) (aj (ar (ax (ag (ax (ag (vc j a (ag (v_ 0) (ag (v_ 1) (ag (v_ 2) ae)))) ae)) ae)))))))))
def Vu (z:Bl y)(d:Qs P w K y b)(e:Qr P w K y b)(g:QA P w K y b)(F:Fd K y "ways_of" (top 33) Z' f fd):QB P w K y b:=F.go 5 2 ["speech","letters","saying","waiting","part","inner"] _ Yo λa l A outer s H E c=>(ai (fk (i:=3) (j:=0) a rfl (dZ rfl) (ax ae)) (ai (dq (L:=[4,5]) bO rfl (akd rfl z.reversed (ag (vc d c (ag (v_ 2) ae)) ae)) (d8 (i:=4) a rfl (aU rfl)) (ai (jx (i0:=5) a rfl rfl (ns:=["held"]) (ys:=["waiting"]) (fr:=[3]) (cl:=[("waiting",‹s›+1)]) (csN [(".0",.local),("held",.local),("waiting",.cell)]) rfl (uw (vc e c (ag (v_ 4) ae))) (λ_ _ _ _=>gv) (λ_ _ _ _=>cw) (λ_ _ _ _=>(Fk (i:=1) cQ oQ oR Mv rfl (dZ (aU rfl)))) (by show bZ)) (aj (eh (yi (i:=3) rfl (dZ (aU rfl)) (vc g c (ag (v_ 0) (ag (v_ 1) (ag (v_ 4) (ag (v_ 5) ae)))))))))) (aj (ar (Fk (i:=3) cQ oQ oR Mv rfl (dZ (aU rfl)))))))
def Ir (z:Bl y)(F:Fd K y "each_longer" (top 8) YJ f fd):QC P w K y b:=F.go 0 2 ["letters","count","longer","letter"] _ Kh λa c A outer s H E d=>(ai (fk (i:=2) (j:=0) a rfl (aU rfl) (ax ae)) (ai (dq (L:=[3]) bO rfl (cj (v_ 0)) (d8 (i:=3) a rfl (dZ rfl)) (aj (eh (B5 (i:=2) cQ gP gQ o8 rfl (aU rfl) (b9 (cp (ns:=["value"]) (ys:=["letter"]) (fr:=[3]) (cl:=[("letter",‹s›+1)]) (csN [(".0",.local),("value",.local),("letter",.cell)]) rfl (iw rfl z.range (ag (v_ 1) ae)) (λ_ _ _ _=>gv) (λ_ _ _ _=>cw) (λ_ _ _ _=>(ao bp (v_ 1) (bw (ag (v_ 0) ae)))) (by show bZ)) ae))))) (aj (ar (v_ 2)))))
def K8 (z:Bl y)(c:QC P w K y b)(F:Fd K y "letters_of" (top 7) ["speech"] f fd):QD P w K y b:=F.go 1 1 ["speech","letters","pair"] _ Nz λa e A outer s H E d=>(ai (aw (i:=1) a rfl (aU rfl) (ax (ag (bw ae) ae))) (ai (dq (L:=[2]) bO rfl (uw (v_ 0)) (d8 (i:=2) a rfl (aU rfl)) (aj (aw (i:=1) a rfl (aU rfl) (vc c d (ag (v_ 1) (ag (aq (v_ 2) ah) ae)))))) (aj (ar (v_ 1)))))
def Pe (z:Bl y)(a:Cls K C)(c:NoAttr K C "letters")(d:NoAttr K C "ways")(F:Cd K y "Runs" "__init__" "Runs.__init__" (gc (top 31) 0) ZG e f fd):QE P w K y b C:=F.go 0 0 0 ZG _ Ra λg j A outer s H E l=>(ai (X5 (i:=0) a c rfl (aU rfl) (v_ 1)) (aj (X5 (i:=0) a d rfl (aU rfl) (v_ 2))))
def K9 (z:Bl y)(a:Cls K C)(c:NoAttr K C "ways")(F:Md K C "rooms" "Runs.rooms" (gc (top 31) 1) ["self"] f fd):QF P w K y b C:=F.go 0 1 ["self"] _ Oz λd e A outer s H E g=>(aj (ar (bx d9 rfl z.len ⋯ (b9 (uz a c (v_ 0)) ae))))
def Bp (z:Bl y)(c:Cls K C)(e:NoAttr K C "letters")(d:NoAttr K C "ways")(F:Md K C "masks_from" "Runs.masks_from" (gc (top 31) 6) ZW f fd):QG P w K y b C:=F.go 0 1 ["self","rooms","letter","place","masks","room"] _ Ck λa j A outer s H E g=>(ai (aw (i:=3) a rfl (dZ rfl) (Um cQ jA nK (Ds g.units) (uz c e (v_ 0)) (b9 (v_ 2) ae))) (ai (aw (i:=4) a rfl (aU rfl) (ao nh (ax (ag ah ae)) (bx d9 rfl z.len ⋯ (b9 (uz c d (v_ 0)) ae)))) (ai (dq (L:=[5]) bO rfl (uw (v_ 1)) (d8 (i:=5) a rfl (aU rfl)) (aj (jx (i0:=4) a rfl rfl (ns:=YT) (ys:=["place"]) (fr:=[3]) (cl:=[("place",‹s›+1)]) (csN [(".0",.local),("mask",.local),("relation",.local),("place",.cell)]) rfl (Hh rfl z.zip (ag (v_ 4) (ag (aq (uz c d (v_ 0)) (v_ 5)) ae))) (λ_ _ _ _=>(xj rfl)) (λ_ _ _ _=>cw) (λ_ _ _ _=>(ao Uk (v_ 0) (aq (v_ 1) (v_ 2)))) xk))) (aj (ar (v_ 4))))))
def Cq (z:Bl y)(c:Cls K C)(d:NoAttr K C "letters")(e:Qe P w K y b)(g:QG P w K y b C)(F:Md K C "ends_from" "Runs.ends_from" (gc (top 31) 4) ZW f fd):QH P w K y b C:=F.go 1 1 ZW _ D6 λi j A outer s H E a=>(aj (ar (vc e a (ag (uz c d (v_ 0)) (ag (aq (o9 g a (v_ 0) (ag (v_ 1) (ag (v_ 2) ae))) ah) ae)))))
def Pf (z:Bl y)(a:QH P w K y b C)(F:Md K C "ends" "Runs.ends" (gc (top 31) 2) ZS f fd):QI P w K y b C:=F.go 2 1 ZS _ Re λd e A outer s H E c=>(aj (ar (o9 a c (v_ 0) (ag (bw (ag (v_ 1) ae)) (ag (v_ 2) ae)))))
def Cr (z:Bl y)(c:Cls K C)(d:NoAttr K C "letters")(e:QG P w K y b C)(F:Md K C "goes_from" "Runs.goes_from" (gc (top 31) 5) ZW f fd):QJ P w K y b C:=F.go 1 2 ["self","rooms","letter","masks","told","place","noted","bit","later"] _ Ee λa l A outer s H E g=>(ai (aw (i:=3) a rfl (dZ rfl) (o9 e g (v_ 0) (ag (v_ 1) (ag (v_ 2) ae)))) (ai (fk (i:=4) (j:=0) a rfl (aU rfl) (ax ae)) (ai (dq (L:=[5,6,7,8]) bO rfl (y6 rfl z.enumerate (ag (uz c d (v_ 0)) ae)) (vg2 (i:=5) (j:=6) rfl a rfl rfl (aU rfl) (aU rfl)) (ai (aw (i:=7) a rfl (dZ rfl) (ao A1 ah (v_ 5))) (ai (aw (i:=8) a rfl (aU rfl) (lr Dr rfl z.tuple ⋯ (b9 (cp (ns:=["room"]) (ys:=["bit","masks"]) (fr:=[7,3]) (cl:=[("masks",‹s›+1),("bit",‹s›+2)]) (csN [(".0",.local),("room",.local),("bit",.cell),("masks",.cell)]) rfl (Xw rfl z.range (ag ah (ag (bx d9 rfl z.len ⋯ (b9 (v_ 3) ae)) ae))) (λ_ _ _ _=>gv) (λ_ _ _ _=>(ki (ib (ao Fi (aq (v_ 2) (v_ 0)) (v_ 1))))) (λ_ _ _ _=>(v_ 0)) (by show bZ)) ae))) (aj (de (ib (v_ 8)) (aj (eh (yi (i:=4) rfl (aU rfl) (bw (ag (v_ 6) (ag (v_ 8) ae)))))) cg))))) (aj (ar (v_ 4))))))
def Pg (z:Bl y)(c:QJ P w K y b C)(F:Md K C "goes" "Runs.goes" (gc (top 31) 3) ZS f fd):QK P w K y b C:=F.go 2 2 ["self","room","letter","told","noted","rooms"] _ Rr λa e A outer s H E d=>(ai (fk (i:=3) (j:=0) a rfl (aU rfl) (ax ae)) (ai (dq (L:=[4,5]) bO rfl (cj (o9 c d (v_ 0) (ag (bw (ag (v_ 1) ae)) (ag (v_ 2) ae)))) (vg2 (i:=4) (j:=5) rfl a rfl rfl (dZ rfl) (aU rfl)) (aj (eh (B5 (i:=3) cQ gP gQ o8 rfl (aU rfl) (b9 (cp (ns:=["other"]) (ys:=["noted"]) (fr:=[4]) (cl:=[("noted",‹s›+1)]) (csN [(".0",.local),("other",.local),("noted",.cell)]) rfl (uw (v_ 5)) (λ_ _ _ _=>gv) (λ_ _ _ _=>cw) (λ_ _ _ _=>(bw (ag (v_ 1) (ag (v_ 0) ae)))) (by show bZ)) ae))))) (aj (ar (v_ 3)))))
def Gu (z:Bl y)(c:Qw P w K y b)(d:QD P w K y b)(e:QE P w K y b C)(g:QB P w K y b)(F:Kd K y "Machine" "Machine.__init__" (gc (top 32) 0) YU C f fd):QL P w K y b C:=F.go 0 6 0 ["self","speech","saying","letters"] _ Hy λj l A outer s H E a=>(ai (eh (vc c a (ag (v_ 1) (ag (v_ 2) ae)))) (ai (aw (i:=3) j rfl (aU rfl) (vc d a (ag (v_ 1) ae))) (aj (eh (vcm e a (b9 (v_ 0) (ag (v_ 3) (ag (vc g a (ag (v_ 1) (ag (v_ 3) (ag (v_ 2) ae)))) ae))))))))
def acn (z:Bl y)(c:QH P w K y b C)(F:Fd K y "ended" (top 49) YR f fd):QM P w K y b C:=F.go 2 2 ["machine","beginnings","told","begun","rooms"] _ agy λa e A outer s H E d=>(ai (fk (i:=2) (j:=0) a rfl (aU rfl) (ax ae)) (ai (dq (L:=[3,4]) bO rfl (cj (v_ 1)) (vg2 (i:=3) (j:=4) rfl a rfl rfl (dZ rfl) (aU rfl)) (aj (eh (B5 (i:=2) cQ gP gQ o8 rfl (aU rfl) (b9 (cp (ns:=["end"]) (ys:=["begun"]) (fr:=[3]) (cl:=[("begun",‹s›+1)]) (csN [(".0",.local),("end",.local),("begun",.cell)]) rfl (cj (o9 c d (v_ 0) (ag (v_ 4) (ag (aq (v_ 3) (jm ah)) ae)))) (λ_ _ _ _=>gv) (λ_ _ _ _=>cw) (λ_ _ _ _=>(ao bp (v_ 1) (bw (ag (v_ 0) ae)))) (by show bZ)) ae))))) (aj (ar (v_ 2)))))
def Vv (z:Bl y)(d:QJ P w K y b C)(F:Fd K y "gone_on" (top 50) ZF f fd):QN P w K y b C:=F.go 2 2 ["machine","beginnings","ending","longer","begun","rooms","letter","later","kept"] _ Y6 λa e A outer s H E c=>(ai (fk (i:=3) (j:=0) a rfl (aU rfl) (ax ae)) (ai (dq (L:=[4,5,6,7,8]) bO rfl (cj (v_ 1)) (vg2 (i:=4) (j:=5) rfl a rfl rfl (aU rfl) (aU rfl)) (aj (dq (L:=[6,7,8]) bO rfl (cj (o9 d c (v_ 0) (ag (v_ 5) (ag (Ft c.units (v_ 4) (jm ah)) ae)))) (vg2 (i:=6) (j:=7) rfl a rfl rfl (dZ rfl) (aU rfl)) (ai (aw (i:=8) a rfl (aU rfl) (lr Dr rfl z.tuple ⋯ (b9 (cp (ns:=["room"]) (ys:=["ending","letter"]) (fr:=[2,6]) (cl:=[("letter",‹s›+2),("ending",‹s›+1)]) (csN [(".0",.local),("room",.local),("ending",.cell),("letter",.cell)]) rfl (uw (v_ 7)) (λ_ _ _ _=>gv) (λ_ _ _ _=>(ki (bj (X3 c.units) (bw (ag (v_ 0) (ag (v_ 2) ae))) (v_ 1)))) (λ_ _ _ _=>(v_ 0)) (by show bZ)) ae))) (aj (de (ib (v_ 8)) (aj (eh (yi (i:=3) rfl (aU rfl) (bw (ag (ao bp (v_ 4) (bw (ag (v_ 6) ae))) (ag (v_ 8) ae)))))) cg)))))) (aj (ar (v_ 3)))))
def Cs (z:Bl y)(d:QK P w K y b C)(F:Fd K y "one_note_ahead" (top 52) YW f fd):QO P w K y b C:=F.go 3 2 ["machine","pairs","layer","ahead","pair"] _ Eh λc e A outer s H E a=>(ai (fk (i:=3) (j:=0) c rfl (aU rfl) (lr (S4 rfl a.units) rfl z.dict ⋯ (b9 (v_ 2) ae))) (ai (dq (L:=[4]) bO rfl (cj (v_ 1)) (d8 (i:=4) c rfl (aU rfl)) (aj (de (ib (bx (ajt rfl) rfl z.any ⋯ (b9 (cp (ns:=["letter","room"]) (ys:=["layer"]) (fr:=[2]) (cl:=[("layer",‹s›+1)]) (csN [(".0",.local),("letter",.local),("room",.local),("layer",.cell)]) rfl (cj (o9 d a (v_ 0) (ag (Ft a.units (v_ 4) ah) (ag (Ft a.units (v_ 4) ah) ae)))) (λ_ _ _ _=>(xj rfl)) (λ_ _ _ _=>cw) (λ_ _ _ _=>(yd (X3 a.units) (bw (ag (v_ 1) (ag (v_ 0) ae))) (v_ 2))) xk) ae))) (aj (Na (i:=3) rfl (aU rfl) a.units ua (v_ 4))) cg))) (aj (ar (v_ 3)))))
def Gv (z:Bl y)(d:Cls K C)(e:NoAttr K C "letters")(g:QF P w K y b C)(l:QI P w K y b C)(m:QO P w K y b C)(F:Fd K y "that_can_end" (top 51) YI f fd):QP P w K y b C:=F.go 4 3 ["machine","count","pairs","room","layer","layers","left"] _ Im λa n A outer s H E c=>(ai (fk (i:=2) (j:=0) a rfl (aU rfl) (ax ae)) (ai (dq (L:=[3]) bO rfl (iw rfl z.range (ag (abl g c (v_ 0)) ae)) (d8 (i:=3) a rfl (dZ rfl)) (aj (eh (B5 (i:=2) cQ gP gQ o8 rfl (aU rfl) (b9 (cp (ns:=["letter"]) (ys:=["room"]) (fr:=[3]) (cl:=[("room",‹s›+2)]) (csN [(".0",.local),("letter",.local),("room",.cell)]) rfl (cj (uz d e (v_ 0))) (λ_ _ _ _=>gv) (λ_ _ _ _=>cw) (λ_ _ _ _=>(bw (ag (v_ 1) (ag (v_ 0) ae)))) (by show bZ)) ae))))) (ai (aw (i:=4) a rfl (aU rfl) (lr (S4 rfl c.units) rfl z.dict ⋯ (b9 (cp (ns:=["pair"]) (ys:=["machine"]) (fr:=[0]) (cl:=[("machine",‹s›+1)]) (csN [(".0",.local),("pair",.local),("machine",.cell)]) rfl (cj (v_ 2)) (λ_ _ _ _=>gv) (λ_ _ _ _=>(ki (ib (o9 l c (v_ 1) (ag (aq (v_ 0) ah) (ag (aq (v_ 0) ah) ae)))))) (λ_ _ _ _=>(bw (ag (v_ 0) (ag ua ae)))) (by show bZ)) ae))) (ai (fk (i:=5) (j:=1) a rfl (aU rfl) (ax ae)) (ai (dq (L:=[6]) bO rfl (iw rfl z.range (ag (v_ 1) ae)) (d8 (i:=6) a rfl (aU rfl)) (ai (eh (yi (i:=5) rfl (aU rfl) (v_ 4))) (aj (aw (i:=4) a rfl (aU rfl) (vc m c (ag (v_ 0) (ag (v_ 2) (ag (v_ 4) ae)))))))) (aj (ar (v_ 5))))))))
def Ph (z:Bl y)(d:Gc #v[P,w,K] y "MOST_TRAILS" t5)(e:QP P w K y b C)(g:QM P w K y b C)(l:QN P w K y b C)(F:Fd K y "runs_from" (top 48) YZ f fd):QQ P w K y b C:=F.go 5 2 ["machine","letter","count","ending","told","beginnings","left"] _ Ru λa m A outer s H E c=>(ai (aw (i:=3) a rfl (aU rfl) (vc e c (ag (v_ 0) (ag (v_ 2) ae)))) (ai (fk (i:=4) (j:=0) a rfl (aU rfl) (ax ae)) (ai (aw (i:=5) a rfl (aU rfl) (ax (ag (bw (ag (bw (ag (v_ 1) ae)) (ag (bw (ag ah ae)) ae))) ae))) (ai (dq (L:=[6]) bO rfl (aga rfl z.range (ag (v_ 2) (ag (jm ah) (ag (jm ah) ae)))) (d8 (i:=6) a rfl (aU rfl)) (ai (eh (B5 (i:=4) cQ gP gQ o8 rfl (aU rfl) (b9 (vc g c (ag (v_ 0) (ag (v_ 5) ae))) ae))) (ai (aw (i:=5) a rfl (aU rfl) (Lk (ib (v_ 6)) (vc l c (ag (v_ 0) (ag (v_ 5) (ag (aq (v_ 3) (ao A0 (v_ 6) ah)) ae)))) (ax ae))) (aj (de (bj B1 (ao bp (bx d9 rfl z.len ⋯ (b9 (v_ 4) ae)) (bx d9 rfl z.len ⋯ (b9 (v_ 5) ae))) (vgl d)) (aj y3) cg))))) (aj (ar (v_ 4)))))))
def Zc (z:Bl y)(c:QQ P w K y b C)(d:QL P w K y b C)(F:Fd K y "trails" (top 47) ZN f fd):QR P w K y b:=F.go 8 1 ZN _ ack λe g A outer s H E a=>(aj (ar (vc c a (ag (age d a (ag (v_ 0) (ag (v_ 1) ae))) (ag (v_ 2) (ag (v_ 3) ae))))))
def Pi (z:Bl y)(F:Fd K y "_law_cell" (top 54) ZC f fd):QS P w K y b:=F.go 0 1 ZC _ Rg λa c A outer s H E d=>(ai (de (bj B0 (v_ 1) (bx d9 rfl z.len ⋯ (b9 (v_ 0) ae))) (aj (ar (aq (v_ 0) (v_ 1)))) cg) (aj (ar ah)))
def La (z:Bl y)(F:Fd K y "_law_purse" (top 55) ZI f fd):QT P w K y b:=F.go 0 1 ["_law_cell_here","_law_number","_law_found","_law_k"] _ N8 λa d A outer s H E c=>(ai (aw (i:=1) a rfl (aU rfl) (ao lq (v_ 0) ah)) (ai (aw (i:=2) a rfl (aU rfl) ah) (ai (dq (L:=[3]) bO rfl (iw rfl z.range (ag ah ae)) (d8 (i:=3) a rfl (aU rfl)) (ai (aw (i:=1) a rfl (aU rfl) (ao lq (ao bp (ao bp (ao bp (ao nh (v_ 1) (v_ 1)) (ao nh (ao nh ah (v_ 3)) (v_ 3))) (v_ 3)) ah) ah)) (aj (aw (i:=2) a rfl (aU rfl) (ao bp (ao nh (v_ 2) ah) (ao lq (ao nh (v_ 1) (v_ 1)) ah)))))) (ai (de (bj (dw c.units) (ao lq (v_ 0) ah) ah) (aj (ar (ax (ag (ao Ha (bx ajn rfl z.abs ⋯ (b9 (v_ 0) ae)) ah) (ag (v_ 2) ae))))) cg) (aj (ar (ax (ag ah (ag (v_ 2) ae)))))))))
def Pj (z:Bl y)(F:Fd K y "_law_take" (top 56) ZA f fd):QU P w K y b:=F.goR 0 0 0 ["_law_purse_here","_law_many","_law_at","_law_found"] _ Ri λa d A outer s H E c=>(ai (aw (i:=2) a rfl (aU rfl) (lr ajo rfl z.int ⋯ (b9 (yd (dw c.units) (aq (v_ 0) ah) ah) ae))) (ai (aw (i:=3) a rfl (aU rfl) (ao lq (aq (v_ 0) (v_ 2)) (v_ 1))) (ai (Na (i:=0) rfl (aU rfl) c.units (ao Ha (aq (v_ 0) (v_ 2)) (v_ 1)) (v_ 2)) (aj (ar (v_ 3))))))
def Gw (z:Bl y)(F:Fd K y "_law_letters" (top 57) ZJ f fd):QV P w K y b:=F.go 0 1 ["_law_speech_here","_law_found","_law_field","_law_count","_law_longer","_law_letter"] _ Ib λa c A outer s H E d=>(ai (aw (i:=1) a rfl (aU rfl) (ax (ag (bw ae) ae))) (ai (dq (L:=[2,3,4,5]) bO rfl (uw (v_ 0)) (vg2 (i:=2) (j:=3) rfl a rfl rfl (aU rfl) (aU rfl)) (ai (aw (i:=4) a rfl (aU rfl) (ax ae)) (ai (dq (L:=[5]) bO rfl (cj (v_ 1)) (d8 (i:=5) a rfl (dZ rfl)) (aj (aw (i:=4) a rfl (aU rfl) (ao bp (v_ 4) (cp (ns:=["_law_value"]) (ys:=["_law_letter"]) (fr:=[5]) (cl:=[("_law_letter",‹s›+1)]) (csN [(".0",.local),("_law_value",.local),("_law_letter",.cell)]) rfl (iw rfl z.range (ag (v_ 3) ae)) (λ_ _ _ _=>gv) (λ_ _ _ _=>cw) (λ_ _ _ _=>(ao bp (v_ 1) (bw (ag (v_ 0) ae)))) (by show bZ)))))) (aj (aw (i:=1) a rfl (aU rfl) (v_ 4)))))) (aj (ar (v_ 1)))))
def Pk (z:Bl y)(a:QU P w K y b)(F:Fd K y "_law_lone" (top 58) ZO f fd):QW P w K y b:=F.goR 1 1 0 ["_law_sort","_law_purse_here","_law_speech_here","_law_field","_law_count"] _ Rk λd e A outer s H E c=>(ai (M0 (aq (v_ 2) (vcr a c (b9 (v_ 1) (ag (bx d9 rfl z.len ⋯ (b9 (v_ 2) ae)) ae)))) (vg2 (i:=3) (j:=4) rfl d rfl rfl (aU rfl) (aU rfl))) (aj (ar (aq (ax (ag (bw (ag cu (ag (v_ 3) (ag (vcr a c (b9 (v_ 1) (ag (v_ 4) ae))) ae)))) (ag (bw (ag cu (ag (v_ 3) (ag (vcr a c (b9 (v_ 1) (ag (v_ 4) ae))) ae)))) (ag (bw (ag cu ae)) (ag (bw (ag cu ae)) ae))))) (v_ 0)))))
def Iu (z:Bl y)(F:Fd K y "_law_joined" (top 60) YQ f fd):QX P w K y b:=F.go 0 1 ["_law_row","_law_word","_law_one","_law_other","_law_made"] _ Kj λa c A outer s H E d=>(ai (M0 (gj (v_ 0) (dj (jm ah)) dz) (vg2l (i:=2) (j:=3) rfl a rfl rfl (aU rfl) (aU rfl))) (ai (aw (i:=4) a rfl (aU rfl) (bw (ag (v_ 1) (ag (aq (v_ 2) ah) (ag (aq (v_ 3) ah) ae))))) (aj (ar (ao bp (gj (v_ 0) dz (dj (jm ah))) (ax (ag (ax (ag (v_ 4) (ag (ajm (aq (v_ 2) ah) (ajl (aq (v_ 3) ah))) (ag (ao bp (aq (v_ 2) ah) (aq (v_ 3) ah)) (ag (bx (ajp rfl) rfl z.max ⋯ (b9 (aq (v_ 2) ah) (b9 (aq (v_ 3) ah) ae))) ae))))) ae)))))))
def Lb (z:Bl y)(d:QT P w K y b)(e:QU P w K y b)(g:QX P w K y b)(l:QW P w K y b)(F:Fd K y "_law_grown" (top 59) ZT f fd):QY P w K y b:=F.go 2 2 ["_law_row","_law_cell_here","_law_speech_here","_law_most","_law_purse_here","_law_sort","_law_last"] _ Ob λc m A outer s H E a=>(ai (fk (i:=4) (j:=0) c rfl (aU rfl) (vc d a (ag (v_ 1) ae))) (ai (aw (i:=5) c rfl (aU rfl) (vcr e a (b9 (v_ 4) (ag ah ae)))) (ai (aw (i:=6) c rfl (aU rfl) (aq (v_ 0) (jm ah))) (ai (de (yz (ye (bj (dw a.units) (v_ 5) ah) (p9 (bj B0 (bx (ajr rfl) rfl z.sum ⋯ (b9 (cp (ns:=["_law_one"]) (ys:=[]) (fr:=[]) (cl:=[]) (csN [(".0",.local),("_law_one",.local)]) rfl (cj (v_ 0)) (λ_ _ _ _=>gv) (λ_ _ _ _=>cw) (λ_ _ _ _=>(aq (v_ 0) ah)) (by show bZ)) ae)) (v_ 3))))) (aj (ar (ao bp (v_ 0) (ax (ag (ax (ag (bw (ag cu ae)) (ag ua (ag ah (ag ah ae))))) ae))))) cg) (ai (de (yz (ye (bj (dw a.units) (v_ 5) ah) (p9 (ib (aq (v_ 6) ah))))) (aj (ar (ao bp (gj (v_ 0) dz (dj (jm ah))) (ax (ag (ax (ag (bw (ag cu (ag (aq (v_ 6) ah) ae))) (ag ua (ag ah (ag ah ae))))) ae))))) cg) (ai (de (yz (ye (bj (dw a.units) (v_ 5) ah) (p9 (bj B0 (aq (v_ 6) ah) ah)))) (aj (ar (ao bp (gj (v_ 0) dz (dj (jm ah))) (ax (ag (ax (ag (bw (ag cu (ag (aq (v_ 6) ah) ae))) (ag ua (ag (aq (v_ 6) ah) (ag (ao bp (aq (v_ 6) ah) ah) ae))))) ae))))) cg) (ai (de (yz (ye (bj B1 (v_ 5) ah) (ye (bj B0 (v_ 5) ah) (p9 (bj B1 (bx d9 rfl z.len ⋯ (b9 (v_ 0) ae)) ah))))) (aj (ar (vc g a (ag (v_ 0) (ag (aq (ax (ag cu (ag cu ae))) (ao lq (v_ 5) ah)) ae))))) cg) (ai (aw (i:=5) c rfl (aU rfl) (aq (ax (ag ah (ag ah (ag ah (ag ah (ag ah (ag ah (ag ah (ag ah (ag ah (ag ah (ag ah (ag ah (ag ah (ag ah ae))))))))))))))) (v_ 5))) (aj (ar (ao bp (v_ 0) (ax (ag (ax (ag (vcr l a (ag (v_ 5) (b9 (v_ 4) (ag (v_ 2) ae)))) (ag (yd (Ul a.units) (v_ 5) ah) (ag ah (ag ah ae))))) ae)))))))))))))
def Iv (z:Bl y)(d:QY P w K y b)(e:QX P w K y b)(F:Fd K y "_law_saying" (top 61) ZK f fd):QZ P w K y b:=F.go 3 1 ["_law_cells","_law_speech_here","_law_most","_law_row","_law_cell_here"] _ Kq λa g A outer s H E c=>(ai (aw (i:=3) a rfl (aU rfl) (ax (ag (ax (ag (bw (ag cu ae)) (ag ua (ag ah (ag ah ae))))) ae))) (ai (dq (L:=[4]) bO rfl (cj (v_ 0)) (d8 (i:=4) a rfl (aU rfl)) (aj (aw (i:=3) a rfl (aU rfl) (vc d c (ag (v_ 3) (ag (v_ 4) (ag (v_ 1) (ag (v_ 2) ae)))))))) (ai (ux (L:=[]) bO (bj B1 (bx d9 rfl z.len ⋯ (b9 (v_ 3) ae)) ah) (aj (aw (i:=3) a rfl (aU rfl) (vc e c (ag (v_ 3) (ag (aq (ax (ag cu (ag cu ae))) (ao lq (ao lq (bx d9 rfl z.len ⋯ (b9 (v_ 3) ae)) ah) ah)) ae)))))) (aj (ar (aq (aq (v_ 3) ah) ah))))))
theorem Ai (z:Bl y)(F:Fd K y "_law_spans" (top 62) ZX f fd):∀n,Fo P w K y b (n+1) "_law_spans" ZX (spP #v[P,w,K] 4 (kf n))
 |0=>Fo.void F Gp
 |n+1=>(λd=>F.go (n+1) 1 ["_law_speech_here","_law_saying_here","_law_trail","_law_spots","_law_sort","_law_at","_law_found","_law_new"] _ (Os n) λc e A outer s H E a=>(ai (aw (i:=4) c rfl (dZ rfl) (aq (v_ 1) ah)) (ai (de (yz (Lj (bj (dw a.units) (v_ 4) cu) (p9 (bj (dw a.units) (v_ 4) cu)))) (aj (ar (cp (ns:=YG) (ys:=["_law_sort"]) (fr:=[4]) (cl:=[("_law_sort",‹s›+4)]) (csN [(".0",.local),("_law_spot",.local),("_law_sort",.cell)]) rfl (cj (v_ 3)) (λ_ _ _ _=>gv) (λ_ _ _ _=>(ki (bj (dw a.units) (v_ 1) cu))) (λ_ _ _ _=>(v_ 0)) (by show bZ)))) cg) (ai (de (bj (dw a.units) (v_ 4) cu) (aj (ar (cp (ns:=["_law_k","_law_one"]) (ys:=["_law_trail"]) (fr:=[2]) (cl:=[("_law_trail",‹s›+3)]) (csN [(".0",.local),("_law_k",.local),("_law_one",.local),("len",.globalImplicit),("_law_trail",.cell)]) rfl (cj (v_ 3)) (λ_ _ _ _=>(xj rfl)) (λ_ _ _ _=>(ki (yz (ye (bj B0 (ao bp (v_ 0) ah) (bx d9 rfl z.len ⋯ (b9 (v_ 2) ae))) (p9 (bj (dw a.units) (aq (v_ 2) (ao bp (v_ 0) ah)) (v_ 1))))))) (λ_ _ _ _=>(bw (ag (ao bp (v_ 0) ah) (ag (v_ 1) ae)))) xk))) cg) (ai (de (yz (Lj (bj (dw a.units) (v_ 4) cu) (p9 (bj (dw a.units) (v_ 4) cu)))) (ai (aw (i:=5) c rfl (dZ rfl) (Um cQ jA nK (Ds a.units) (cp (ns:=["_law_field","_law_count"]) (ys:=[]) (fr:=[]) (cl:=[]) (csN [(".0",.local),("_law_field",.local),("_law_count",.local)]) rfl (uw (v_ 0)) (λ_ _ _ _=>(xj rfl)) (λ_ _ _ _=>cw) (λ_ _ _ _=>(v_ 0)) xk) (b9 (aq (v_ 1) ah) ae))) (ai (de (bj (dw a.units) (v_ 4) cu) (aj (ar (cp (ns:=YG) (ys:=["_law_at","_law_saying_here"]) (fr:=[5,1]) (cl:=[("_law_saying_here",‹s›+2),("_law_at",‹s›+5)]) (csN [(".0",.local),("_law_spot",.local),("_law_at",.cell),("_law_saying_here",.cell)]) rfl (cj (v_ 3)) (λ_ _ _ _=>gv) (λ_ _ _ _=>(ki (bj (dw a.units) (aq (aq (v_ 0) ah) (v_ 1)) (aq (v_ 2) ah)))) (λ_ _ _ _=>(v_ 0)) (by show bZ)))) cg) (aj (ar (Om rfl a.units rfl z.sorted ⋯ rfl z.set ⋯ (cp (ns:=["_law_k","_law_one"]) (ys:=["_law_at","_law_saying_here"]) (fr:=[5,1]) (cl:=[("_law_saying_here",‹s›+2),("_law_at",‹s›+5)]) (csN [(".0",.local),("_law_k",.local),("_law_one",.local),("_law_at",.cell),("_law_saying_here",.cell)]) rfl (cj (v_ 3)) (λ_ _ _ _=>(xj rfl)) (λ_ _ _ _=>cw) (λ_ _ _ _=>(bw (ag (v_ 0) (ag (ao bp (ao bp (gj (v_ 1) dz (dj (v_ 2))) (bw (ag (aq (v_ 3) ah) ae))) (gj (v_ 1) (dj (ao bp (v_ 2) ah)) dz)) ae)))) xk)))))) cg) (ai (de (bj (dw a.units) (v_ 4) cu) (aj (ar (cp (ns:=YG) (ys:=["_law_saying_here","_law_speech_here","_law_trail"]) (fr:=[1,0,2]) (cl:=[("_law_trail",‹s›+3),("_law_speech_here",‹s›+1),("_law_saying_here",‹s›+2)]) (csN [(".0",.local),("_law_spot",.local),("_law_spans",.globalImplicit),("_law_saying_here",.cell),("_law_speech_here",.cell),("_law_trail",.cell)]) rfl (cj (v_ 3)) (λ_ _ _ _=>gv) (λ_ _ _ _=>(ki (bj (dw a.units) (vc d a (ag (v_ 2) (ag (aq (v_ 1) ah) (ag (v_ 3) (ag (ax (ag (v_ 0) ae)) ae)))) (hk:=by lia)) (ax ae)))) (λ_ _ _ _=>(v_ 0)) (by show bZ)))) cg) (ai (de (bj (dw a.units) (v_ 4) cu) (aj (ar (vc d a (ag (v_ 0) (ag (aq (v_ 1) ah) (ag (v_ 2) (ag (vc d a (ag (v_ 0) (ag (aq (v_ 1) ah) (ag (v_ 2) (ag (v_ 3) ae)))) (hk:=by lia)) ae)))) (hk:=by lia)))) cg) (ai (de (bj (dw a.units) (v_ 4) cu) (ai (aw (i:=6) c rfl (dZ rfl) (vc d a (ag (v_ 0) (ag (aq (v_ 1) ah) (ag (v_ 2) (ag (v_ 3) ae)))) (hk:=by lia))) (aj (ar (Om rfl a.units rfl z.sorted ⋯ rfl z.set ⋯ (ao bp (v_ 6) (vc d a (ag (v_ 0) (ag (aq (v_ 1) ah) (ag (v_ 2) (ag (v_ 3) ae)))) (hk:=by lia))))))) cg) (ai (aw (i:=6) c rfl (dZ rfl) (lr afo rfl z.list ⋯ (b9 (v_ 3) ae))) (ai (aw (i:=7) c rfl (aU rfl) (v_ 3)) (ai (ux (L:=[]) bO (bj (Ul a.units) (v_ 7) (ax ae)) (ai (jx (i0:=7) c rfl rfl (ns:=YG) (ys:=["_law_found"]) (fr:=[6]) (cl:=[("_law_found",‹s›+6)]) (csN [(".0",.local),("_law_spot",.local),("_law_found",.cell)]) rfl (cj (vc d a (ag (v_ 0) (ag (aq (v_ 1) ah) (ag (v_ 2) (ag (v_ 7) ae)))) (hk:=by lia))) (λ_ _ _ _=>gv) (λ_ _ _ _=>(ki (bj (Ms a.units) (v_ 0) (v_ 1)))) (λ_ _ _ _=>(v_ 0)) (by show bZ)) (aj (aw (i:=6) c rfl (dZ rfl) (ao bp (v_ 6) (v_ 7)))))) (aj (ar (ace a.units rfl z.sorted ⋯ (v_ 6))))))))))))))) (Ai z F n)
def Lc (z:Bl y)(c:Q0 P w K y b)(F:Fd K y "_law_makes" (top 63) ZV f fd):Q1 P w K y b:=F.go 101 1 ZV _ Ow λd e A outer s H E a=>(aj (ar (yd (Fj a.units) (bw (ag (ao A0 (bx d9 rfl z.len ⋯ (b9 (v_ 2) ae)) ah) (ag (aq (v_ 2) (jm ah)) ae))) (vc c a (ag (v_ 0) (ag (v_ 1) (ag (v_ 2) (ag (ax (ag (bw (ag ah (ag (aq (v_ 2) ah) ae))) ae)) ae))))))))
def Iw (z:Bl y)(e:QT P w K y b)(d:QU P w K y b)(F:Fd K y "_law_speech" (top 64) ZI f fd):Q2 P w K y b:=F.go 1 2 ["_law_cell_here","_law_purse_here","_law_first","_law_letters_here","_law_tail","_law_counts"] _ K4 λa g A outer s H E c=>(ai (fk (i:=1) (j:=0) a rfl (aU rfl) (vc e c (ag (v_ 0) ae))) (ai (aw (i:=2) a rfl (dZ rfl) (vcr d c (b9 (v_ 1) (ag ah ae)))) (ai (aw (i:=3) a rfl (dZ rfl) cu) (ai (aw (i:=4) a rfl (dZ rfl) (gj cu dz (dj (vcr d c (b9 (v_ 1) (ag ah ae)))))) (ai (aw (i:=5) a rfl (dZ rfl) (aq (ax (ag (ax (ag ah ae)) (ag (ax (ag ah ae)) (ag (ax (ag ah (ag ah ae))) (ag (ax (ag ah ae)) (ag (ax (ag ah (ag ah ae))) (ag (ax (ag ah (ag ah (ag ah ae)))) (ag (ax (ag ah (ag ah ae))) (ag (ax (ag ah (ag ah ae))) ae))))))))) (vcr d c (b9 (v_ 1) (ag ah ae))))) (aj (ar (lr Dr rfl z.tuple ⋯ (b9 (cp (ns:=["_law_k"]) (ys:=["_law_counts","_law_first","_law_letters_here","_law_tail"]) (fr:=[5,2,3,4]) (cl:=[("_law_tail",‹s›+3),("_law_letters_here",‹s›+2),("_law_first",‹s›+1),("_law_counts",‹s›+4)]) (csN [(".0",.local),("_law_k",.local),("_law_counts",.cell),("_law_first",.cell),("_law_letters_here",.cell),("_law_tail",.cell)]) rfl (iw rfl z.range (ag (bx d9 rfl z.len ⋯ (b9 (v_ 5) ae)) ae)) (λ_ _ _ _=>gv) (λ_ _ _ _=>cw) (λ_ _ _ _=>(bw (ag (ao bp (aq (v_ 3) (ao lq (ao bp (v_ 2) (ao nh ah (v_ 0))) ah)) (v_ 4)) (ag (aq (v_ 1) (v_ 0)) ae)))) (by show bZ)) ae)))))))))
def Ld (z:Bl y)(F:Fd K y "_law_power" (top 65) YO f fd):Q3 P w K y b:=F.go 0 1 ["_law_one","_law_many","_law_found","_law_k"] _ Ox λa c A outer s H E d=>(ai (aw (i:=2) a rfl (aU rfl) ah) (ai (dq (L:=[3]) bO rfl (iw rfl z.range (ag (v_ 1) ae)) (d8 (i:=3) a rfl (aU rfl)) (aj (aw (i:=2) a rfl (aU rfl) (ao nh (v_ 2) (v_ 0))))) (aj (ar (v_ 2)))))
def R1 (z:Bl y)(F:Fd K y "_law_all" (top 66) ZM f fd):Q4 P w K y b:=F.go 0 1 ["_law_letters_here","_law_letter","_law_many","_law_found","_law_k","_law_longer","_law_one"] _ Vm λa c A outer s H E d=>(ai (aw (i:=3) a rfl (aU rfl) (ax (ag (bw (ag (v_ 1) ae)) ae))) (ai (dq (L:=[4,5,6]) bO rfl (iw rfl z.range (ag (ao bp (v_ 2) ah) ae)) (d8 (i:=4) a rfl (aU rfl)) (ai (aw (i:=5) a rfl (aU rfl) (ax ae)) (ai (dq (L:=[6]) bO rfl (cj (v_ 3)) (d8 (i:=6) a rfl (dZ rfl)) (aj (aw (i:=5) a rfl (aU rfl) (ao bp (v_ 5) (cp (ns:=["_law_last"]) (ys:=["_law_one"]) (fr:=[6]) (cl:=[("_law_one",‹s›+1)]) (csN [(".0",.local),("_law_last",.local),("_law_one",.cell)]) rfl (cj (v_ 0)) (λ_ _ _ _=>gv) (λ_ _ _ _=>cw) (λ_ _ _ _=>(ao bp (v_ 1) (bw (ag (v_ 0) ae)))) (by show bZ)))))) (aj (aw (i:=3) a rfl (aU rfl) (v_ 5)))))) (aj (ar (v_ 3)))))
def Iy (z:Bl y)(F:Fd K y "_law_turned" (top 67) ZJ f fd):Q5 P w K y b:=F.go 0 1 ["_law_speech_here","_law_field","_law_count"] _ K3 λa c A outer s H E d=>(ai (de (bj B1 (bx d9 rfl z.len ⋯ (b9 (v_ 0) ae)) ah) (aj (ar (X1 (v_ 0) (jm ah)))) cg) (ai (M0 (aq (v_ 0) ah) (vg2 (i:=1) (j:=2) rfl a rfl rfl (aU rfl) (aU rfl))) (aj (ar (bw (ag (bw (ag (v_ 1) (ag (bx (ajq rfl) rfl z.min ⋯ (b9 (ao bp (v_ 2) ah) (b9 ah ae))) ae))) ae))))))
def Pl (z:Bl y)(e:Kit K "list")(g:QV P w K y b)(l:Q3 P w K y b)(m:Q4 P w K y b)(n:Q1 P w K y b)(d:QR P w K y b)(F:Fd K y "_law_good" (top 68) ZQ f fd):Q6 P w K y b:=F.go 102 2 ["_law_speech_here","_law_saying_here","_law_pick","_law_letters_here","_law_letter","_law_count","_law_due","_law_many","_law_found"] _ Rx λa o A outer s H E c=>(ai (aw (i:=3) a rfl (aU rfl) (vc g c (ag (v_ 0) ae))) (ai (aw (i:=4) a rfl (aU rfl) (aq (v_ 3) (ao lq (v_ 2) (bx d9 rfl z.len ⋯ (b9 (v_ 3) ae))))) (ai (aw (i:=5) a rfl (aU rfl) (ao lq (ao Ha (v_ 2) ah) ah)) (ai (ux (L:=[]) bO (bj B1 (vc l c (ag (bx d9 rfl z.len ⋯ (b9 (v_ 3) ae)) (ag (ao bp (v_ 5) ah) ae))) ah) (aj (aw (i:=5) a rfl (aU rfl) (ao A0 (v_ 5) ah)))) (ai (aw (i:=6) a rfl (aU rfl) (ax ae)) (ai (dq (L:=[7]) bO rfl (iw rfl z.range (ag (ao bp (v_ 5) ah) ae)) (d8 (i:=7) a rfl (aU rfl)) (aj (aw (i:=6) a rfl (aU rfl) (ao bp (v_ 6) (cp (ns:=["_law_one"]) (ys:=["_law_saying_here","_law_speech_here"]) (fr:=[1,0]) (cl:=[("_law_speech_here",‹s›+1),("_law_saying_here",‹s›+2)]) (csN [(".0",.local),("_law_one",.local),("_law_makes",.globalImplicit),("_law_saying_here",.cell),("_law_speech_here",.cell)]) rfl (cj (vc m c (ag (v_ 3) (ag (v_ 4) (ag (v_ 7) ae))))) (λ_ _ _ _=>gv) (λ_ _ _ _=>(ki (ib (vc n c (ag (v_ 2) (ag (v_ 1) (ag (v_ 0) ae))))))) (λ_ _ _ _=>(v_ 0)) (by show bZ)))))) (ai (fk (i:=8) (j:=0) a rfl (aU rfl) (vc d c (ag (v_ 0) (ag (v_ 1) (ag (v_ 4) (ag (v_ 5) ae)))))) (ai (de (yz (Lj (Mr (ib (aju e rfl z.isinstance ⋯ rfl z.list ⋯ (v_ 8)))) (p9 (bj (Ul c.units) (v_ 8) (v_ 6))))) (aj (ar ua)) cg) (ai (eh (Fk (i:=8) cQ PySem.F.slot_list_clear PySem.F.type_list_clear aax rfl (aU rfl))) (aj (ar (yd (dw c.units) (vc d c (ag (v_ 0) (ag (v_ 1) (ag (v_ 4) (ag (v_ 5) ae))))) (v_ 6)))))))))))))
def alg (z:Bl y)(e:Q2 P w K y b)(d:QS P w K y b)(g:QZ P w K y b)(j:Q5 P w K y b)(l:Q6 P w K y b)(F:Fd K y "law" (top 69) ["_law_script"] f fd):ir P w K y b CX0 104 f fd ["_law_script"] (spP #v[P,w,K] 1 g_law):=F.goL 103 1 ["_law_script","_law_speech_here","_law_saying_here","_law_pick","_law_one"] _ f_law λc m A outer s H E a=>(ai (aw (i:=1) c rfl (aU rfl) (vc e a (ag (vc d a (ag (v_ 0) (ag ah ae))) ae))) (ai (aw (i:=2) c rfl (aU rfl) (vc g a (ag (gj (v_ 0) (dj ah) (dj ah)) (ag (v_ 1) (ag ah ae))))) (ai (aw (i:=3) c rfl (aU rfl) (vc d a (ag (v_ 0) (ag ah ae)))) (ai (dq (L:=[4]) bO rfl (cj (ax (ag (v_ 1) (ag (vc j a (ag (v_ 1) ae)) (ag (v_ 1) ae))))) (d8 (i:=4) c rfl (aU rfl)) (aj (de (Mr (ib (vc l a (ag (v_ 4) (ag (v_ 2) (ag (v_ 3) ae)))))) (aj (ar ua)) cg))) (aj (ar ua))))))
end
def law_told (ns:LQ)(_:ns.length<=63)(R:Ev->Prop)(h:R (.val (.v (.bl MO)))):g_law [.scr (ns.map λi=>Tr.v (.int i))] R:=#v[ns,rfl,h]
def all_mk {l:nV}{K:aF}(X:K.In h)(G:h.Ns bJ mg)(KI:mg "law"=KE (.ref fa))
  (zrange:cF K bJ "range"=KE MN)
  (zabs:cF K bJ "abs"=KE MN)
  (zint:cF K bJ "int"=KE MN)
  (zmax:cF K bJ "max"=KE MN)
  (zmin:cF K bJ "min"=KE MN)
  (ztuple:cF K bJ "tuple"=KE MN)
  (zlist:cF K bJ "list"=KE MN)
  (zlen:cF K bJ "len"=KE MN)
  (zisinstance:cF K bJ "isinstance"=KE MN)
  (zenumerate:cF K bJ "enumerate"=KE MN)
  (zsum:cF K bJ "sum"=KE MN)
  (zall:cF K bJ "all"=KE MN)
  (zany:cF K bJ "any"=KE MN)
  (zzip:cF K bJ "zip"=KE MN)
  (zreversed:cF K bJ "reversed"=KE MN)
  (zset:cF K bJ "set"=KE MN)
  (zsorted:cF K bJ "sorted"=KE MN)
  (zdict:cF K bJ "dict"=KE MN)
  (zbool:cF K bJ "bool"=KE MN)
  (mC:cF K bJ "Machine"=KE (KE (.ref f)))
  (pgC:lK K f Str.empty=MO)
  (hdC:nL K f=MO)
  (poC:qP K f=MO)
  (saC:cW K (.ref f) "__setattr__"=KE (KE (.builtin "object.__setattr__")))
  (mkC:oU K f=MO)
  (kpC:fK K (.ref f)=MO)
  (vU:cW K (.ref f) "letters"=KE MN)
  (wW:cW K (.ref f) "ways"=KE MN)
  (klistnon:eF K (.type "NoneType") (.type "list")=KE MP)
  (klistbl:eF K (.type "bool") (.type "list")=KE MP)
  (klistint:eF K (.type "int") (.type "list")=KE MP)
  (kliststr:eF K (.type "str") (.type "list")=KE MP)
  (klisttup:eF K (.type "tuple") (.type "list")=KE MP)
  (klistlst:eF K (.type "list") (.type "list")=KE MO)
  (aaHOLDING_SORTS:cF K bJ "HOLDING_SORTS"=KE (KE (.ref c)))
  (llHOLDING_SORTS:K.lookup c=KE {.type "tuple",g,.seq #[.str "not" i,.str "either" j,.str "then" m,.str "again" n] q,o})
  (aaTEST_SORTS:cF K bJ "TEST_SORTS"=KE (KE (.ref e)))
  (llTEST_SORTS:K.lookup e=KE {.type "tuple",H,.seq #[.str "none" I,.str "all" J,.str "is" L,.str "not" N,.str "either" O,.str "then" T] nTEST_SORTS,U})
  (aaFIELD_SORTS:cF K bJ "FIELD_SORTS"=KE (KE (.ref d)))
  (llFIELD_SORTS:K.lookup d=KE {.type "tuple",u,.seq #[.str "is" A,.str "put" D] Y,E})
  (aaMOST_TRAILS:cF K bJ "MOST_TRAILS"=KE (KE (.int 400 tMOST_TRAILS)))
  (l1:Af K f1 "nothing" (top 12))
  (l2:Af K f2 "the_same" (top 13))
  (l3:Af K f3 "either_of" (top 14))
  (l4:Af K f4 "where_nothing" (top 18))
  (l5:Af K f5 "letters_in" (top 19))
  (l6:Af K f6 "reached_from" (top 16))
  (l7:Af K f7 "one_then_other" (top 15))
  (l8:Af K f8 "again_and_again" (top 17))
  (l9:Af K f9 "filling" (top 42))
  (EE:Af K f10 "note_ways" (top 38))
  (l11:Af K f11 "behind" (top 41))
  (l12:Af K f12 "either_ways" (top 39))
  (l13:Af K f13 "then_ways" (top 40))
  (l14:Af K f14 "must_value" (top 10))
  (l15:Af K f15 "place_of" (top 9))
  (l16:Af K f16 "is_relation" (top 36))
  (l17:Af K f17 "put_relation" (top 37))
  (l18:Af K f18 "held_in" (top 25))
  (l19:Af K f19 "parts_of" (top 24))
  (l20:Af K f20 "is_test" (top 28))
  (l21:Af K f21 "must_test" (top 29))
  (l22:Af K f22 "must_part" (top 27))
  (l23:Af K f23 "must_saying" (top 26))
  (l24:Af K f24 "plain_relation" (top 35))
  (DM:Af K f25 "again_row" (top 44))
  (HI:Af K f26 "again_ways" (top 43))
  (BU:Af K f27 "ways_of_part" (top 34))
  (l28:Af K f28 "ways_of" (top 33))
  (l29:Af K f29 "each_longer" (top 8))
  (HQ:Af K f30 "letters_of" (top 7))
  (l31:At K f31 "__init__" "Runs.__init__" (gc (top 31) 0))
  (m31:cF K bJ "Runs"=KE (KE (.ref c31)))
  (g31:nM K (.ref c31) "__getattribute__"=KE (KE (.builtin "type.__getattribute__")))
  (r31:rX K c31 (.type "type")=MO)
  (b31:rY K (.ref c31) (.type "type") "__init__"=KE (.val (.ref f31)))
  (l32:At K f32 "rooms" "Runs.rooms" (gc (top 31) 1))
  (b32:cW K (.ref f) "rooms"=KE (KE (.ref f32)))
  (i32:gJ K (.ref f32)=MO)
  (l33:At K f33 "masks_from" "Runs.masks_from" (gc (top 31) 6))
  (b33:cW K (.ref f) "masks_from"=KE (KE (.ref f33)))
  (i33:gJ K (.ref f33)=MO)
  (l34:At K f34 "ends_from" "Runs.ends_from" (gc (top 31) 4))
  (b34:cW K (.ref f) "ends_from"=KE (KE (.ref f34)))
  (i34:gJ K (.ref f34)=MO)
  (l35:At K f35 "ends" "Runs.ends" (gc (top 31) 2))
  (b35:cW K (.ref f) "ends"=KE (KE (.ref f35)))
  (i35:gJ K (.ref f35)=MO)
  (l36:At K f36 "goes_from" "Runs.goes_from" (gc (top 31) 5))
  (b36:cW K (.ref f) "goes_from"=KE (KE (.ref f36)))
  (i36:gJ K (.ref f36)=MO)
  (l37:At K f37 "goes" "Runs.goes" (gc (top 31) 3))
  (b37:cW K (.ref f) "goes"=KE (KE (.ref f37)))
  (i37:gJ K (.ref f37)=MO)
  (l38:At K f38 "__init__" "Machine.__init__" (gc (top 32) 0))
  (b38:cW K (.ref f) "__init__"=KE (KE (.ref f38)))
  (i38:gJ K (.ref f38)=MO)
  (l39:Af K f39 "ended" (top 49))
  (l40:Af K f40 "gone_on" (top 50))
  (l41:Af K f41 "one_note_ahead" (top 52))
  (l42:Af K f42 "that_can_end" (top 51))
  (l43:Af K f43 "runs_from" (top 48))
  (l44:Af K f44 "trails" (top 47))
  (l45:Af K f45 "_law_cell" (top 54))
  (l46:Af K f46 "_law_purse" (top 55))
  (l47:Af K f47 "_law_take" (top 56))
  (l48:Af K f48 "_law_letters" (top 57))
  (l49:Af K f49 "_law_lone" (top 58))
  (l50:Af K f50 "_law_joined" (top 60))
  (l51:Af K f51 "_law_grown" (top 59))
  (l52:Af K f52 "_law_saying" (top 61))
  (l53:Af K f53 "_law_spans" (top 62))
  (l54:Af K f54 "_law_makes" (top 63))
  (l55:Af K f55 "_law_speech" (top 64))
  (l56:Af K f56 "_law_power" (top 65))
  (l57:Af K f57 "_law_all" (top 66))
  (l58:Af K f58 "_law_turned" (top 67))
  (l59:Af K f59 "_law_good" (top 68))
  (l60:Af K f60 "law" (top 69)) :
  ∃fd:gY,(∀(s:aG)(v:aK),rA s fd {[v],[]} [("_law_script",v)])/\∀base:MR,K.In base->base.Ns bJ mg->ir l.prog w K mg base CX0 104 fa fd ["_law_script"] (spP #v[l.prog,w,K] 1 g_law):=by
 have z:=bl_mk X G (by simp only[List.forall_mem_cons,dU,false_implies,implies_true,and_true];show#v[zrange,zabs,zint,zmax,zmin,ztuple,zlist,zlen,zisinstance,zenumerate,zsum,zall,zany,zzip,zreversed,zset,zsorted,zdict,zbool]);have r:Cls K f:=#v[pgC,hdC,poC,saC];have AF:Kit K "list":=#v[klistnon,klistbl,klistint,kliststr,klisttup,klistlst];obtain⟨_,F1⟩:_:=l1.fd (ps:=ZE) X G;obtain⟨_,F2⟩:_:=l2.fd (ps:=ZE) X G;obtain⟨_,F3⟩:_:=l3.fd (ps:=ZH) X G;obtain⟨_,F4⟩:_:=l4.fd (ps:=ZD) X G;obtain⟨_,F5⟩:_:=l5.fd (ps:=YS) X G;obtain⟨_,F6⟩:_:=l6.fd (ps:=YT) X G;obtain⟨_,F7⟩:_:=l7.fd (ps:=ZR) X G;obtain⟨_,F8⟩:_:=l8.fd (ps:=ZD) X G;obtain⟨_,F9⟩:_:=l9.fd (ps:=YH) X G;obtain⟨_,F10⟩:_:=EE.fd (ps:=ZE) X G;obtain⟨_,F11⟩:_:=l11.fd (ps:=ZR) X G;obtain⟨_,F12⟩:_:=l12.fd (ps:=ZH) X G;obtain⟨_,F13⟩:_:=l13.fd (ps:=ZR) X G;obtain⟨_,F14⟩:_:=l14.fd (ps:=YN) X G;obtain⟨_,F15⟩:_:=l15.fd (ps:=YV) X G;obtain⟨_,F16⟩:_:=l16.fd (ps:=ZU) X G;obtain⟨_,F17⟩:_:=l17.fd (ps:=ZU) X G;obtain⟨_,F18⟩:_:=l18.fd (ps:=ZP) X G;obtain⟨_,F19⟩:_:=l19.fd (ps:=ZP) X G;obtain⟨_,F20⟩:_:=l20.fd (ps:=ZP) X G;obtain⟨_,F21⟩:_:=l21.fd (ps:=ZP) X G;obtain⟨_,F22⟩:_:=l22.fd (ps:=YM) X G;obtain⟨_,F23⟩:_:=l23.fd (ps:=YK) X G;obtain⟨_,F24⟩:_:=l24.fd (ps:=YX) X G;obtain⟨_,F25⟩:_:=DM.fd (ps:=YL) X G;obtain⟨_,F26⟩:_:=HI.fd (ps:=YH) X G;obtain⟨_,F27⟩:_:=BU.fd (ps:=ZL) X G;obtain⟨_,F28⟩:_:=l28.fd (ps:=Z') X G;obtain⟨_,F29⟩:_:=l29.fd (ps:=YJ) X G;obtain⟨_,F30⟩:_:=HQ.fd (ps:=["speech"]) X G;obtain⟨_,F31⟩:_:=l31.cd (ps:=ZG) X G m31 g31 r31 b31;obtain⟨_,F32⟩:_:=l32.md (ps:=["self"]) r b32 i32;obtain⟨_,F33⟩:_:=l33.md (ps:=ZW) r b33 i33;obtain⟨_,F34⟩:_:=l34.md (ps:=ZW) r b34 i34;obtain⟨_,F35⟩:_:=l35.md (ps:=ZS) r b35 i35;obtain⟨_,F36⟩:_:=l36.md (ps:=ZW) r b36 i36;obtain⟨_,F37⟩:_:=l37.md (ps:=ZS) r b37 i37;obtain⟨_,F38⟩:_:=l38.kd (ps:=YU) X G mC mkC b38 i38 kpC;obtain⟨_,F39⟩:_:=l39.fd (ps:=YR) X G;obtain⟨_,F40⟩:_:=l40.fd (ps:=ZF) X G;obtain⟨_,F41⟩:_:=l41.fd (ps:=YW) X G;obtain⟨_,F42⟩:_:=l42.fd (ps:=YI) X G;obtain⟨_,F43⟩:_:=l43.fd (ps:=YZ) X G;obtain⟨_,F44⟩:_:=l44.fd (ps:=ZN) X G;obtain⟨_,F45⟩:_:=l45.fd (ps:=ZC) X G;obtain⟨_,F46⟩:_:=l46.fd (ps:=ZI) X G;obtain⟨_,F47⟩:_:=l47.fd (ps:=ZA) X G;obtain⟨_,F48⟩:_:=l48.fd (ps:=ZJ) X G;obtain⟨_,F49⟩:_:=l49.fd (ps:=ZO) X G;obtain⟨_,F50⟩:_:=l50.fd (ps:=YQ) X G;obtain⟨_,F51⟩:_:=l51.fd (ps:=ZT) X G;obtain⟨_,F52⟩:_:=l52.fd (ps:=ZK) X G;obtain⟨_,F53⟩:_:=l53.fd (ps:=ZX) X G;obtain⟨_,F54⟩:_:=l54.fd (ps:=ZV) X G;obtain⟨_,F55⟩:_:=l55.fd (ps:=ZI) X G;obtain⟨_,F56⟩:_:=l56.fd (ps:=YO) X G;obtain⟨_,F57⟩:_:=l57.fd (ps:=ZM) X G;obtain⟨_,F58⟩:_:=l58.fd (ps:=ZJ) X G;obtain⟨_,F59⟩:_:=l59.fd (ps:=ZQ) X G;obtain⟨fd,F60,bl⟩:_:=l60.law (p:="_law_script") X G KI;show{fd,bl,λbase _ _=>?_};have a:∀{k:Nat}{x:Str}{ps:AQ}{sp:Sp},Fo l.prog w K mg base k x ps sp->Fo l.prog w K mg base k x ps sp:=id;have FY:∀{k:Nat}{C:MQ}{x:Str}{ps:AQ}{sp:Sp},Mo l.prog w K mg base k C x ps sp->Mo l.prog w K mg base k C x ps sp:=id;have SKo:∀{k:Nat}{x:Str}{C:MQ}{ps:AQ}{sp:Sp},Ko l.prog w K mg base k x C ps sp->Ko l.prog w K mg base k x C ps sp:=id;have SCo:∀{k:Nat}{y x:Str}{ps:AQ}{sp:Sp},Co l.prog w K mg base k y x ps sp->Co l.prog w K mg base k y x ps sp:=id;have wZ:Gc ⟨l.prog,w,K⟩ mg "HOLDING_SORTS" qg:=Ej (ss:=["not","either","then","again"]) X G aaHOLDING_SORTS llHOLDING_SORTS (by change 4<=1000;decide) (.cons {_,rfl} (.cons {_,rfl} (.cons {_,rfl} (.cons {_,rfl} .nil))));have yC:Gc ⟨l.prog,w,K⟩ mg "TEST_SORTS" va:=Ej (ss:=YY) X G aaTEST_SORTS llTEST_SORTS (by change 6<=1000;decide) (.cons {_,rfl} (.cons {_,rfl} (.cons {_,rfl} (.cons {_,rfl} (.cons {_,rfl} (.cons {_,rfl} .nil))))));have xO:Gc ⟨l.prog,w,K⟩ mg "FIELD_SORTS" tq:=Ej (ss:=["is","put"]) X G aaFIELD_SORTS llFIELD_SORTS (by change 2<=1000;decide) (.cons {_,rfl} (.cons {_,rfl} .nil));have xT:Gc ⟨l.prog,w,K⟩ mg "MOST_TRAILS" t5:={.int 400,.int 400 _,kR X G aaMOST_TRAILS,{_,rfl},λF=>.v rfl};have wJ:=a (Vq z F1);have wG:=a (Ry z F2);have wF:=a (O8 z F3);have xA:=a (Ek z F4);have yE:=a (K5 z F5);have xE:=a (Gq z F6);have vW:=a (Cm z xE F7);have wQ:=a (Bo z wF wG F8);have xC:=a (Vr z wJ F9);have yP:=a (O9 z wJ wG F10);have xZ:=a (Zb z xC F11);have xQ:=a (Io z wF xC xZ F12);have yO:=a (Pa z vW xZ F13);have yB:=a (K6 z F14);have wR:=a (Rz z yB F15);have xP:=a (Ip z F16);have xF:=a (Gr z F17);have xD:=a (Vs z wZ F18);have wH:=a (R0 z xD F19);have zJ:=a (Vt z yC wH F20);have yL:=a (Pb z zJ F21);have yM:=a (Pc z xO wR yL F22);have xS:=a (Iq z wH yM F23);have wU:=a (Cp z wJ wG wR xP xF F24);have yN:=a (Pd z vW wF F25);have yD:=a (K7 z wQ yN F26);have xG:=a (Gs z xQ yO yD xA yP wU F27);have zK:=a (Vu z wH xD xG F28);have xR:=a (Ir z F29);have yF:=a (K8 z xR F30);have BC:=SCo (Pe z r vU wW F31);have yG:=FY (K9 z r wW F32);have vZ:=FY (Bp z r vU wW F33);have wC:=FY (Cq z r vU yE vZ F34);have yR:=FY (Pf z wC F35);have wD:=FY (Cr z r vU vZ F36);have yQ:=FY (Pg z wD F37);have zM:=SKo (Gu z xS yF BC zK F38);have AE:=a (acn z wC F39);have zL:=a (Vv z wD F40);have wV:=a (Cs z yQ F41);have xH:=a (Gv z r vU yG yR wV F42);have yS:=a (Ph z xT xH AE zL F43);have zD:=a (Zc z yS zM F44);have xM:=a (Pi z F45);have wN:=a (La z F46);have vV:=a (Pj z F47);have xI:=a (Gw z F48);have yT:=a (Pk z vV F49);have wK:=a (Iu z F50);have yH:=a (Lb z wN vV wK yT F51);have xV:=a (Iv z yH wK F52);have vY:=Ai (P:=l.prog) (w:=w) (b:=base) z F53 100;have yJ:=a (Lc z vY F54);have xU:=a (Iw z wN vV F55);have yI:=a (Ld z F56);have yY:=a (R1 z F57);have xW:=a (Iy z F58);have yU:=a (Pl z AF xI yI yY yJ zD F59);show alg z xU xM xV xW yU F60
end PB.N21
namespace PySem.W.Fast
def tw14099353784612167266:=0
def tw6809876004263394088:=0
def tw11339764561209287071:=0
def tw4142497067918601817:=0
def tw7523244639083936685:=0
def tw6218613968751014716:=0
def tw2900248198974405309:=0
def tw9219225075705136740:=0
def tw6698180087038285760:=0
def tw15135967153322012061:=0
def tw4999947165199180186:=0
def tw16474464022424787016:=0
def tw306919715610079742:=0
def tw11158835004078292303:=0
def tw12271669432898512228:=0
def tw11152642947589382928:=0
def tw2871361324774960646:=0
def tw831599965615412682:=0
def tw2303256590467152292:=0
def tw3462616786150490425:=0
def tw14358864157532385751:=0
def tw1220510662603755406:=0
def tw17537529708975844084:=0
def tw6964833196303690245:=0
def tw4103759736296522523:=0
def tw11808274307399260008:=0
def tw3999070822723517526:=0
def tw5418945611713341704:=0
def tw3833564099873200885:=0
def tw4893814105393733092:=0
def tw11287702658389076360:=0
def tw1256814469811888477:=0
def tw11532574395970482435:=0
def tw14669238043775008687:=0
def tw2452439549147843513:=0
def tw14961023911532412554:=0
def tw10015997634252437059:=0
def tw849775808949850723:=0
def tw17415652459196240428:=0
def tw9592561596428460146:=0
def tw13220362591487300078:=0
def tw278731610614480353:=0
def tw17100899366031923178:=0
def tw802523060672365103:=0
def tw7891276271823902094:=0
def tw811851645049360016:=0
def tw804160195441595548:=0
def tw13065154830814590015:=0
def tw14393882876635690566:=0
def tw14093478121195740934:=0
def tw8035852704548896798:=0
def tw11724437917359182274:=0
def tw17871210539269805044:=0
def tw14697978953329818171:=0
def tw1131430036519057125:=0
def tw9987165920852217797:=0
def tw7292663946089209226:=0
def tw14759093651230720139:=0
def tw8164120609049861860:=0
def tw2193512468328989833:=0
def tw8665759512853995743:=0
def tw16536699050816634341:=0
def tw9896144761889294405:=0
def tw3177226342807396019:=0
def tw14390015448257609645:=0
def tw4267767738876432465:=0
def tw11213294715592733552:=0
def tw11954434111982167581:=0
def tw2546877770759414993:=0
def tw2936644621679697483:=0
def tw18141074909231932659:=0
def tw494688007414794696:=0
def tw6407013503400211281:=0
def tw12120406907095311017:=0
def tw18356498854037931798:=0
def tw542826871806943694:=0
def tw13308836092310986007:=0
def tw6150297352143081208:=0
def tw14440969063097465533:=0
def tw4251718479364967106:=0
def tw7852711575108415861:=0
def tw11793885183761125302:=0
def tw1211758614486578315:=0
def tw6526910784040786716:=0
def tw12745948135201020149:=0
def tw7120111285426061489:=0
def tw7940261577025481626:=0
def tw7397678354167426149:=0
def tw12497074323095923635:=0
def tw436912193576711525:=0
def tw2727400995690923255:=0
def tw16118407533648099476:=0
def tw1283522091173657498:=0
def tw15235881937650570973:=0
def tw17947550524336100079:=0
def tw13150692659250115204:=0
def tw13881492964401096151:=0
def tw16317261431323311033:=0
def tw11166772192500365664:=0
def tw11617747859486248906:=0
def tw10531336741794106786:=0
def tw11243447039664749116:=0
def tw14368982742826402182:=0
def tw14578613232669465376:=0
def tw4217711428556324128:=0
def tw14663350356600554466:=0
def tw11305937058183683803:=0
def tw17545942171189477067:=0
def tw13009489021056144605:=0
def tw14949451948981114144:=0
def tw12132821692617040103:=0
def tw5731618359507452605:=0
def tw1325511581362732875:=0
def tw17971119976681168371:=0
def tw5997646299669871208:=0
def tw1027749055588514498:=0
def tw10154998708658504813:=0
def tw15120880853373001902:=0
def tw7328104890137510452:=0
def tw15354760732428598516:=0
def tw15836006653744429390:=0
def tw16540688313159423176:=0
def tw9180899656528109900:=0
def tw683533415175100657:=0
def tw18239801661165363210:=0
def tw13512309384002379375:=0
def tw9639640994169383185:=0
def tw13732801845818433641:=0
def tw12841998173895259221:=0
def tw11274877491528609453:=0
def tw7041426239359118996:=0
def tw13186543985343942078:=0
def tw5622954221400974636:=0
def tw17615156173891643154:=0
def tw6181013159754101861:=0
def tw9446370767176242381:=0
def tw13478357169757074289:=0
def tw980983576868536410:=0
def tw4159768415147381478:=0
def tw16523922257743604440:=0
def tw17191855765252751990:=0
def tw6177539742441278869:=0
def tw25667811495559570:=0
def tw10328458047330733785:=0
def tw13381778783980784296:=0
def tw4965564445022369733:=0
def tw10904103807601616538:=0
def tw7232871195961479293:=0
def tw5422772385414226768:=0
def tw5383054450340646552:=0
def tw11205534094872246540:=0
def tw6200268507539876452:=0
def tw10581593054619839067:=0
def tw7192624544468233221:=0
def tw12582496953339004931:=0
def tw5423801854674356002:=0
def tw6103272878845366951:=0
def tw4137929120380009114:=0
def tw11863011527024737965:=0
def tw14410834078516596345:=0
def tw2232185815330270984:=0
def tw17185019373007033993:=0
def tw12599794990924368875:=0
def tw16528380312872245724:=0
def tw13462292380642916238:=0
def tw16973261803329367064:=0
def tw1614622241851687316:=0
def tw2650093460104126332:=0
def tw3721758698222516433:=0
def tw14382444949567858133:=0
def tw14170062356922628604:=0
def tw11219296099141080076:=0
def tw11558201010773821403:=0
def tw6514592374013501643:=0
def tw12447865629142284442:=0
def tw7502799253991946276:=0
def tw649497386098412094:=0
def tw4721684816052633149:=0
def tw3718623116386421896:=0
def tw3852560593288184447:=0
def tw6664999817967509010:=0
def tw8433900303593909112:=0
def tw12288049771444260452:=0
def tw8032259496104491261:=0
def tw13452646049897852429:=0
def tw11063587448087654011:=0
def tw9803154995002664848:=0
def tw2572559680594554891:=0
def tw16414593269226801750:=0
def tw2594271490165519957:=0
def tw11132774935715573070:=0
def tw61659383797651074:=0
def tw6731696778077724615:=0
def tw12784508783649891153:=0
def tw4739301244807372270:=0
def tw9340521933811332113:=0
def tw1962903173431488203:=0
def tw9165326932817754395:=0
def tw4890343664025210813:=0
def tw13120580882159511358:=0
def tw8065272589218068632:=0
def tw16577277205849359213:=0
def tw3797542191538559542:=0
def tw4424168057522867869:=0
def tw2966758056635955652:=0
def tw5792849951056376976:=0
def tw2277749252887767318:=0
def tw3848671541337367451:=0
def tw10330290873536464523:=0
def tw12387483340003646042:=0
def tw14780533642106344152:=0
def tw18003225951576273350:=0
def tw16490522964095417272:=0
def tw6956534438985569740:=0
def tw15135096336600981401:=0
def tw1592899499432888206:=0
def tw75055942237238163:=0
def tw955020222060105153:=0
def tw13996401010742520681:=0
def tw9684245636083118797:=0
def tw17323737161053254823:=0
def tw12221339113600673137:=0
def tw10407233252278922427:=0
def tw15241011743341454143:=0
def tw8156826386003835700:=0
def tw3627954698009989281:=0
def tw5630343116137194341:=0
def tw16605830523345871835:=0
def tw8652852988381025290:=0
def tw6324053189494863692:=0
def tw7302093158323596584:=0
def tw6893047087662861552:=0
def tw9959091310744556484:=0
def tw10070785651241825437:=0
def tw888299935277539641:=0
def tw15953544644603932246:=0
def tw7110746313970638757:=0
def tw5637776222925117709:=0
def tw13888351057564110028:=0
def tw4150524828109238985:=0
def tw3250511371601117228:=0
def tw3919346671017140534:=0
def tw6030025267583938135:=0
def tw5793064307509517475:=0
def tw6954277494860445030:=0
def tw12762518999334291635:=0
def tw566367041736316250:=0
def tw2560391234798713967:=0
def tw17590465472511103684:=0
def tw18007304562006500469:=0
def tw12450359587770302346:=0
def tw1055989598536915268:=0
def tw13821991540486535333:=0
def tw7433279013703827183:=0
def tw17656898803613315126:=0
def tw11937779386392932367:=0
def tw12578135478229678856:=0
def tw11913413673263149031:=0
def tw16694307773589072922:=0
def tw3914560485233765050:=0
def tw17311193745280842037:=0
def tw407911820384006932:=0
def tw10434390429737271639:=0
def tw7205015761912271752:=0
def tw12180213097605147823:=0
def tw17632401253958767590:=0
def tw11535644541957089211:=0
def tw8914104266481800818:=0
def tw17756760615043683425:=0
def tw7569963326654478560:=0
def tw5516575732491343800:=0
def tw5702787507434160339:=0
def tw3148029568331851921:=0
def tw3663100794096269850:=0
def tw12168165708748358289:=0
def tw12782521541209260207:=0
def tw7102259659411185311:=0
def tw16728025009179734236:=0
def tw12492632471565927663:=0
def tw5206241975626986705:=0
def tw16234825018372863637:=0
def tw4063664025530882719:=0
def tw5738456569185928223:=0
def tw18101117736875323064:=0
def tw139679095783502572:=0
def tw11571330392322364863:=0
def tw3123602274032443882:=0
def tw13466968509698338176:=0
def tw14233089353703355732:=0
def tw11120192812477156688:=0
def tw5675044028260694685:=0
def tw7533821156687637264:=0
def tw9409747950944507341:=0
def tw1391175975506360075:=0
def tw6735066634859532121:=0
def tw3778234115177938525:=0
def tw16983651335795762213:=0
def tw8317356888273557898:=0
def tw13022759515584791530:=0
def tw7609976751174641547:=0
def tw16579362017539879518:=0
def tw7221725673986734996:=0
def tw7282037383564716528:=0
def tw16362640915109740259:=0
def tw9483436373559734012:=0
def tw11959532094935224558:=0
def tw16601163528174507100:=0
def tw14626109118044129000:=0
def tw507705553459794695:=0
end PySem.W.Fast
open PySem PySem.W PyProof.Rows
set_option maxRecDepth 100000 in
set_option maxHeartbeats 0 in
theorem PySem.Challenge.cw_switchsay_k21_trails_holds : PySem.Challenge.rw_switchsay_k21_trails.Holds := by
  w_on;o_law;k_head;(case hw=>w_witness2)
  k_fill
  refine VL.law_walk (l:=PySem.Challenge.rw_switchsay_k21_trails) (n:=63) (k:=104) (g:=PB.N21.g_law) (x:="_law_script") rfl rfl (fun w h Y=>PySem.W.kIn_of Y) (by decide) ⟨rfl,by decide,by decide⟩ PB.N21.law_told ?F
  case F=>
    intro w mg fa h KX G hmg;refine' PB.N21.all_mk KX G hmg ?zrange ?zabs ?zint ?zmax ?zmin ?ztuple ?zlist ?zlen ?zisinstance ?zenumerate ?zsum ?zall ?zany ?zzip ?zreversed ?zset ?zsorted ?zdict ?zbool ?mC ?pgC ?hdC ?poC ?saC ?mkC ?kpC ?na_letters ?na_ways ?klistnon ?klistbl ?klistint ?kliststr ?klisttup ?klistlst ?aaHOLDING_SORTS ?llHOLDING_SORTS ?aaTEST_SORTS ?llTEST_SORTS ?aaFIELD_SORTS ?llFIELD_SORTS ?aaMOST_TRAILS ?l1 ?l2 ?l3 ?l4 ?l5 ?l6 ?l7 ?l8 ?l9 ?l10 ?l11 ?l12 ?l13 ?l14 ?l15 ?l16 ?l17 ?l18 ?l19 ?l20 ?l21 ?l22 ?l23 ?l24 ?l25 ?l26 ?l27 ?l28 ?l29 ?l30 ?l31 ?m31 ?g31 ?r31 ?b31 ?l32 ?b32 ?i32 ?l33 ?b33 ?i33 ?l34 ?b34 ?i34 ?l35 ?b35 ?i35 ?l36 ?b36 ?i36 ?l37 ?b37 ?i37 ?l38 ?b38 ?i38 ?l39 ?l40 ?l41 ?l42 ?l43 ?l44 ?l45 ?l46 ?l47 ?l48 ?l49 ?l50 ?l51 ?l52 ?l53 ?l54 ?l55 ?l56 ?l57 ?l58 ?l59 ?l60
    case zrange|zabs|zint|zmax|zmin|ztuple|zlist|zlen|zisinstance|zenumerate|zsum|zall|zany|zzip|zreversed|zset|zsorted|zdict|zbool|mC|pgC|hdC|poC|saC|mkC|kpC|na_letters|na_ways|aaHOLDING_SORTS|llHOLDING_SORTS|aaTEST_SORTS|llTEST_SORTS|aaFIELD_SORTS|llFIELD_SORTS|aaMOST_TRAILS|m31|g31|r31|b31|b32|i32|b33|i33|b34|i34|b35|i35|b36|i36|b37|i37|b38|i38=>k_is
    case klistnon|klistbl|klistint|kliststr|klisttup|klistlst=>kit_is
    case l1|l2|l3|l4|l5|l6|l7|l8|l9|l10|l11|l12|l13|l14|l15|l16|l17|l18|l19|l20|l21|l22|l23|l24|l25|l26|l27|l28|l29|l30|l39|l40|l41|l42|l43|l44|l45|l46|l47|l48|l49|l50|l51|l52|l53|l54|l55|l56|l57|l58|l59|l60=>refine' VL.af_mk ?a ?l ?c ?k;(case a=>k_is);(case l=>k_is);(case c=>k_is);(case k=>k_is)
    case l31|l32|l33|l34|l35|l36|l37|l38=>refine' VL.at_mk ?l ?c ?k;(case l=>k_is);(case c=>k_is);(case k=>k_is)
