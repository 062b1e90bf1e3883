import PyProof.Rows.All
import Wide.All
import OpenK.AllK
import Wide.FinOn
import PySem.Challenge.RW_switchsay_k63_tables_refused
set_option hygiene false in
local macro_rules
 | `(‹$n:num›)=>`(FnOk P w K mg base CX0 $n)
set_option hygiene false in
local macro_rules
 | `(tactic|exists $F,$c)=>`(tactic|refine ($F).ok $c (fun vs H Q E h=>?_) (fun AF A outer s H vs Q E hr h=>?_))
abbrev zzz:List PySem.Str:=["saying"]
abbrev zzy:List PySem.Str:=["table","wanted"]
abbrev zzx:List PySem.Str:=["_law_row","_law_cell_here","_law_speech_here","_law_most"]
abbrev zzw:List PySem.Str:=["_law_speech_here","_law_saying_here","_law_cell_here"]
abbrev zzv:List PySem.Str:=["_law_purse_here","_law_many"]
abbrev zzu:List PySem.Str:=["letters","place","value"]
abbrev zzt:List PySem.Str:=["first","second"]
abbrev zzs:List PySem.Str:=["_law_sort","_law_purse_here","_law_speech_here"]
abbrev zzr:List PySem.Str:=["speech","saying"]
abbrev zzq:List PySem.Str:=["_law_cells","_law_speech_here","_law_most"]
abbrev zzp:List PySem.Str:=["self","rooms","letter"]
abbrev zzo:List PySem.Str:=["self","saying"]
abbrev zzn:List PySem.Str:=["_law_speech_here","_law_saying_here"]
abbrev zzm:List PySem.Str:=["one","other"]
abbrev zzl:List PySem.Str:=["speech","letters","part","inner"]
abbrev zzk:List PySem.Str:=["_law_row","_law_word"]
abbrev zzj:List PySem.Str:=["size"]
abbrev zzi:List PySem.Str:=["speech","field","value"]
abbrev zzh:List PySem.Str:=["_law_cell_here","_law_least"]
abbrev zzg:List PySem.Str:=["letter","ends"]
abbrev zzf:List PySem.Str:=["letter","values"]
abbrev zze:List PySem.Str:=["self","letters","ways"]
abbrev zzd:List PySem.Str:=["_law_script","_law_k"]
abbrev zzc:List PySem.Str:=["mask","relation"]
abbrev zzb:List PySem.Str:=["relation"]
abbrev zza:List PySem.Str:=["self","speech","saying"]
abbrev zz0:List PySem.Str:=["_law_cell_here"]
abbrev zz1:List PySem.Str:=["letter"]
abbrev zz2:List PySem.Str:=["self","room","letter"]
abbrev zz3:List PySem.Str:=["speech","letters","saying"]
abbrev zz4:List PySem.Str:=["values","letter"]
abbrev zz5:List PySem.Str:=["speech","letters","part"]
abbrev zz6:List PySem.Str:=["speech","letters","saying","waiting","part","inner"]
abbrev zz7:List PySem.Str:=["_law_e","_law_due"]
abbrev zz8:List PySem.Str:=["count","value"]
abbrev zz9:List PySem.Str:=["speech","part"]
abbrev zyz:List PySem.Str:=["letters","place","value","put"]
abbrev zyy:List PySem.Str:=["self","field"]
abbrev zyx:List PySem.Str:=["self","value"]
abbrev zyw:List PySem.Str:=["self","rooms","letter","place","masks","room"]
abbrev zyv:List PySem.Str:=["letter","end"]
abbrev zyu:List PySem.Str:=["letters","count"]
abbrev zyt:List PySem.Str:=["letters","mask"]
abbrev zys:List PySem.Str:=["table","letter"]
abbrev zyr:List PySem.Str:=["row","field"]
abbrev zyq:List PySem.Str:=["row","anew","start"]
abbrev zyp:List PySem.Str:=["ways"]
abbrev zyo:List PySem.Str:=["first","second","rows","row","begun"]
abbrev zyn:List PySem.Str:=["row","anew","start","ended","later"]
abbrev zym:List PySem.Str:=["letters","count","longer","letter"]
abbrev zyl:List PySem.Str:=["row"]
abbrev zyk:List PySem.Str:=["place","value"]
abbrev zyj:List PySem.Str:=["_law_e","_law_due","_law_found"]
abbrev zyi:List PySem.Str:=["speech"]
abbrev zyh:List PySem.Str:=["_law_script"]
local macro_rules
  | `(tactic| obtain $p:rcasesPatMed := $t) => `(tactic| (refine Classical.byContradiction fun hG_ => ?_; obtain $p:rcasesPatMed : _ := $t; all_goals refine hG_ ?_))
set_option Elab.async false
set_option compiler.extract_closed false
set_option linter.all false
set_option maxRecDepth 100000
open PySem renaming wpAny_bind->aA,Value->aC,Shared->aG,wpAny->aL,model->aS,Program->aU,World->aZ,FuncData->bQ,Around->cC,starEach->cJ,mainGlobals->cW,wpAny_field->cY,wpAny_setField_rec->eJ,SetTable->eO,wpAny_loadPart_at->eQ,wpAny_callSpecial?_slot->eZ,IsTupleKey->fZ,wpAny_mono->gB,intKind->gE,wpAny_call_entry->gM,Scope->gQ,wpAny_newObj_type->gR,boot_len->gT,excClassObj->gX,wpAny_holding->hZ,wpAny_seqItems->iC,Builtin->iI,sizeLine_eq->iN,wpAny_pyIter_list->iR,rawInt->iU,checkBuiltinCall->iX,cLine->jH,typeLookup->jI,bootBuiltins->jK,pyNext->jL,IsPair->jM,wpAny_setState_of->jS,wpAny_isSubtype_exc->jT,backTo->jU,compareOp->jX,binaryOp->jY,wpAny_Call_Name_kw->jZ,IsEnum->lJ,wpAny_onRaise->lK,wpAny_attempt->lM,wpAny_pyIter_tuple->lO,codeAny_mono->lU,wpAny_updateSeq_pair->lV,codeAny_call_builtin->lY,mem_of_lookup->mQ,wpAny_setField->mZ,IsZip->nA,wpAny_passesOwn->nG,relabel->nJ,codeAny_builtin->nL,wpAny_standAt->nN,attributeBase->nP,wpAny_truthy_bool->nR,sysModules->nV,codeAny->oA,wpAny_isInstance->oE,wpAny_getItem_str_slice->oM,behindInMarks->oO,strLen_append->oQ,wpAny_letGo->pG,wpAny_nextOf_list_item->pH,GenState->pO,assignEach->pP,bindArgs->pR,ZipApart->pS,wpAny_askSetting->qC,sliceBounds->qH,wpAny_execs_nil->qK,swapsWith->qU,ExcBaseFacts->qX,reprText->qY,IsEnumOut->qZ,holding->rE,wpAny_call->rG,getItem->rH,call_meets->rJ,wpAny_rule->rL,wpAny_newTuple->rM,isSubtype_stop->rN,wpAny_pyIter_enum->rY,keywordEach->sE,Model->sO,wpAny_pyIter_zip->sU,wpAny_nextOf_list_end->tL,letOwnedTupleGo->tO,wpAny_typeOf->tP,post_val_or_str->tS,wpAny_specialOf->tW,unbindBehindTheSuite->tX,wpAny_setEntries_of->uF,NameKind->uI,firstArgMember->uK,assign->uO,tupleKind_room_in1->uR,wpAny_eqBool_tuple->uS,foldedSetIterable->vB,ofAClassStatement->vJ,typeIs_int->vK,standAt->vL,Keyword->vM,callerA->vN,valueAt->vO,wpAny_lookBehind->vQ,pastItsLine_dict->vR,backToKw->vS,noFill_tuple_add->vU,IsPart->vW,callType_new->vZ,preSum->wA,evalEach->wB,wpAny_forIn_list->wG,tupleKind->wI,getMethod->wK,codeAny_of_tree->wR,atKey->wU,IsRangeIter->wX,subscripted->wY,unsupported->wZ,isTrue->xB,Result->xC,BindsTo->xD,refuseLoop_ref->xE,isSubtype_type->xH,bindL->xK,bindC->xM,PlainAttrs->xN,closureFor->xQ,setField->xR,seq_tuple_add->xS,evalPart_none->xU,wpAny_newList->yA,Within->yB,storeName->yC,inplaceOp->yD,wpAny_nsSet1->yE,concat_meets->yI,argsOk->yO,onTheHeap->yP,pickOrder->yT,putSet_of->yU,getAttr->yZ,seqIndex_of->zC,wpAny_of_eq->zD,hashByValue->zF,newTuple->zI,builtinsNs->zK,Drawn->zL,wpAny_Name->zM,CmpOp->zN,pyIter->zO,typeIs_str->zP,typeOf->zR,call->zT,isInstance->zV,refuseLoop->zW,setsByText->zY,spliced->zZ,setAttr->AA,OsState->AB
open PySem.W renaming Frag->aB,keepIn->aR,findIn->bK,nsIn->dX,kitOne->eP,fnOf->gP,looks_findIn->iL,emptyDict->jQ,codeIn->lB,exmOne->lC,kas_rev->lQ,instObj->lS,callWith_K->nB,isFn->oB,kas_sort->oG,kas_desc->pI,specialIn->pJ,kitAny->pK,kas_place->pL,plainGet->pQ,readsIn->qN,findCls->qO,kas_asc->rR,hasDictIn->rW,OpenLaw->sL,methodCall_KW->sW,kas_descPart->uC,plainGet_of->uE,lookIn->uH,methodObj->vA,plainOver->vC,takerIn->wL,makesIn->wM,kas_bin->xI,kas_rev_size->yV,kas_tail3->yW,kas_count->yX
open PySem.Heap renaming get?_push_of_some->aI,lt_size->aW,get?_push_size->aY,size_push->eY,SameBut->gI,get?_update_self->iH,get?_update_other->jP,get?_none_of_le->pN,ExtBut->uM,IsTuple->yN,IsList->zE
open List renaming length_map->aJ,getElem?_eq_getElem->aK,getElem?_eq_some_iff->aM,size_toArray->aO,length_append->aQ,mem_cons->aX,mem_of_getElem?->bV,length_take->cK,getElem?_map->cQ,map_append->cU,mem_cons_of_mem->cX,range->dG,replicate->dJ,not_mem_nil->dQ,length_cons->eE,mem_cons_self->eF,mem_singleton->eG,getElem?_append_left->eK,take_add_one->eX,mem_append->fK,mem_append_right->fQ,getElem?_append_right->gF,getD_eq_getElem?_getD->gG,length_singleton->gK,take_length->gN,contains_cons->gS,map_cons->gU,length_drop->gZ,length_replicate->iA,length_reverse->iJ,filterMap_cons->iQ,length_range->iS,mem_range->iW,drop_eq_getElem_cons->iY,replicate_succ->iZ,getElem?_of_mem->jJ,mem_map->jN,toArray->jO,flatMap_cons->jR,getElem?_eq_none->jW,findSome?_cons->lE,lookup->lG,take_of_length_le->lH,pairwise_cons->lP,mem_append_left->lT,range_succ->lW,reverse_cons->lZ,getElem?_replicate->mK,append_nil->nI,take_append_drop->nM,flatten_cons->nS,append_assoc->nU,reverse_reverse->nW,set_eq_take_append_cons_drop->nY,map_map->oF,flatMap_append->oH,getElem?_range->oJ,length_eq_zero_iff->oN,length_set->oU,length_nil->oX,find?_cons->oY,set_cons_succ->pC,getElem?_set_self->pF,getElem_mem->pU,drop_length->pW,map_reverse->pX,mem_of_mem_take->pZ,reverse_append->qI,nodup_cons->qM,getElem?_zip_eq_some->qS,idxOf_lt_length_iff->rC,drop_zero->rO,eraseIdx_cons_succ->rT,ext_getElem?->sC,any_cons->sQ,zipIdx_cons->sS,getElem?_reverse->sX,filterMap_append->sY,eq_nil_or_concat->tJ,concat_eq_append->tK,getElem?_set_ne->tM,zipIdx_nil->tU,forIn_cons->tV,sum_append->tY,getElem_toArray->uB,forIn_nil->uL,getElem_idxOf->uT,all_cons->uV,map_drop->uW,foldl_append->vI,all_eq_true->vY,sum_reverse->wD,mem_filter->wJ,of_mem_zip->wN,foldl_cons->wO,map_take->xY,map_nil->yL,all_map->yQ,length->zB,foldl->zS
open Nat renaming le_refl->aN,ne_of_lt->cE,le_trans->cH,lt_of_lt_of_le->eI,ne_of_gt->gJ,zero_le->gO,add_comm->jD,lt_trans->jE,testBit_succ->kQ,lt_irrefl->kZ,le_of_lt->lF,lt_succ_self->mX,lt_of_le_of_lt->nC,testBit_and->oZ,mod_lt->pA,not_lt_zero->pB,eq_of_testBit_eq->pY,le_add_right->qA,pow_succ->rA,lt_succ_of_lt->rZ,le_succ->sF,le_of_not_lt->sR,mul_comm->tQ,two_pow_pos->tZ,pow_le_pow_right->uA,zero_add->wC,sub_zero->wF,mul_assoc->xW,sub_self->yR,min_self->yY
open Bool renaming false_ne_true->bX,false_eq_true->eV,and_eq_true->iB,or_true->lX,eq_iff_iff->qL,or_eq_true->qR,and_false->rK,and_true->uX,not_true->uZ,eq_false_iff->vH,and_self->xX
open PySem.Value renaming ref->bZ,none->iD,builtin->lN,int->oR,isInt->pE,type->pM,str->wH,bool->xJ
open Or renaming inl->cD,inr->oV
open Option.some renaming inj->cZ
open Array renaming getElem?_eq_getElem->dZ,getElem?_toList->eB,getD_eq_getD_getElem?->eU,length_toList->gH,getElem?_eq_some_iff->iK,getElem?_eq_none_iff->qE,replicate->wV
open PySem.Builtin.SmallTypes renaming ownedTupleIsFree->eC,nextOf->fV,ownedTupleHandOut->gC
open PySem.F renaming plainAttrs_list->fG,slot_list_append->jF,type_list_append->jG,args_tuple_add_2->qW,entry_tuple_add->rS,slot_list_index->rV,slot_tuple_add->sJ,slot_list_pop->sZ,type_list_pop->tI
open PySem.PassesOwn renaming never->fX
open Int renaming toNat_natCast->gL,zero_add->rB,natCast_nonneg->uP,one_mul->xA,ediv_one->yJ
open PyProof.Rows renaming callWith_type1->gW,units_in1->iE,seqObj->kX,slot_tuple_getitem->lR,AllBare->qG,envOfC->sI,slicePart_none->uJ,mirror_perm->uN,subscriptTail->uU,listUpdate_at->xZ,IntsAre->zA,seqEpoch_at->zH,IsTup->zJ,bubble->zX
open Option renaming map_eq_some_iff->gY,isSome_iff_exists->oC,map->pV,map_some->qQ
open PySem.Str renaming ofString->hX,empty->yF
open False renaming elim->iG
open PySem.Builtin.Slice renaming slicePlaces->iM,sliceAdjust->jV,sliceApplied->nQ
open PySem.Obj renaming data_mapFields->iO,mapSeq->jB,isFreed_of_fields->nK,mapFields->oP,putSet->qD,cls_mapFields->rX
open PySem.Heap.SameBut renaming update->jA,refl->vG
open PySem.Builtin.Tuple renaming tupleExact->jC
open PySem.Builtin.List renaming listTooLong->kK
open Sum renaming inl->lD,inr->sV
open PyProof.Rows.F renaming plain_set_update_loop->nF
open PySem.Builtin renaming bitOr->nO,bitAnd->nZ,bitXor->uG,bitNot->xG
open Classical renaming byContradiction->nX
open PySem.Builtin.Range renaming rangeSize->oK
open PySem.Data renaming cell->oS,fields->sD,seq->xO
open PySem.Code renaming quiet_builtin->oW,isFrame->yH
open PySem.SetTable renaming sizeAbove->pD,grown->rQ
open PySem.Heap.IsList renaming push->pT
open PySem.Around renaming under_plainId->qB,under->yG
open PySem.Builtin.Int renaming intBits->qJ
open True renaming intro->rF
open List.Perm renaming refl->rP
open PySem.Shared renaming heap->sM
open ForInStep renaming yield->tR
open PySem.Calls renaming spliced_cons->uQ,spliced_nil->vD
open List.cons renaming inj->uY
open List.Pairwise renaming nil->vE
open PySem.Txt renaming slice_le->vX,slice->wQ
open PyProof.Rows.IsTup renaming new->yK
open PySem.SeqAt.EqAt renaming of_refs->yM,same->AE
open PySem.pickOrder renaming go->yS
open PySem.SeqAt renaming EqAt->zQ
open PySem.Walks renaming list->zU
namespace L2
open PySem PySem.Spec PyProof.Rows
abbrev Key:=Sum Int Str
def xj:Key->aC->Bool
 | .inl k,v=>pE k v
 | .inr x,v=>Value.isStrOf x v
def keyH (w:aZ):Key->Int
 | .inl k=>hashInt k
 | .inr x=>hashStr w x
theorem fq:∀{k:Key}{v:aC},xj k v=true->(∃i t,k=lD i/\v=oR i t)\/(∃x t,k=sV x/\v=wH x t)
 | .inl i,v,h=>by
  obtain⟨t,e⟩:=Value.isInt_shape (k:=i) (v:=v) h;exact .inl ⟨i,t,rfl,e⟩
 | .inr x,v,h=>by
  obtain⟨t,e⟩:=Value.isStrOf_shape (x:=x) (v:=v) h;exact .inr ⟨x,t,rfl,e⟩
theorem L4 (i:Int)(t:Tok):xj (.inl i) (.int i t)=true:=by simp[xj,pE]
theorem L5 (x:Str)(t:Tok):xj (.inr x) (.str x t)=true:=by simp[xj,Value.isStrOf]
theorem W3 (a b:Int):decide ((lD a:Key)=lD b)=(a == b):=by
 by_cases e:a=b
 ·subst e;simp
 ·have h:¬(lD a:Key)=lD b:=λq=>e (Sum.inl.inj q);rw[decide_eq_false h];exact(beq_eq_false_iff_ne.mpr e).symm
theorem W4 (a b:Str):decide ((sV a:Key)=sV b)=decide (a=b):=by
 by_cases e:a=b
 ·subst e;simp
 ·have h:¬(sV a:Key)=sV b:=λq=>e (Sum.inr.inj q);rw[decide_eq_false h,decide_eq_false e]
theorem W5 (a:Int)(b:Str):decide ((lD a:Key)=sV b)=false:=decide_eq_false (λq=>nomatch q)
theorem W6 (a:Str)(b:Int):decide ((sV a:Key)=lD b)=false:=decide_eq_false (λq=>nomatch q)
def fv (prog:aU)(w:aZ):PySem.KeyKind prog w Key where
 is:=xj
 hash:=keyH w
 inj:=λv a b ha hb=>by
  rcases fq ha with⟨i,t,rfl,rfl⟩ | ⟨x,t,rfl,rfl⟩
  ·rcases fq hb with⟨j,u,rfl,e⟩ | ⟨y,u,rfl,e⟩
   ·injection e with e1 _;rw[e1]
   ·exact nomatch e
  ·rcases fq hb with⟨j,u,rfl,e⟩ | ⟨y,u,rfl,e⟩
   ·exact nomatch e
   ·injection e with e1 _;rw[e1]
 byValue:=λk v h=>by
  rcases fq h with⟨i,t,rfl,rfl⟩ | ⟨x,t,rfl,rfl⟩<;>rfl
 pyHash:=λhv h=>by
  rcases fq hv with⟨i,t,rfl,rfl⟩ | ⟨x,t,rfl,rfl⟩
  ·exact wpAny_pyHash_int h
  ·exact wpAny_pyHash_str h
 eqBool:=λhu hv h=>by
  rcases fq hu with⟨i,t,rfl,rfl⟩ | ⟨x,t,rfl,rfl⟩
  ·rcases fq hv with⟨j,u,rfl,rfl⟩ | ⟨y,u,rfl,rfl⟩
   ·rw[W3]at h;exact wpAny_eqBool_int h
   ·rw[W5]at h;exact SeqAt.EqAt.int_str i t y u _ _ _ _ h
  ·rcases fq hv with⟨j,u,rfl,rfl⟩ | ⟨y,u,rfl,rfl⟩
   ·rw[W6]at h;exact SeqAt.EqAt.str_int x t j u _ _ _ _ h
   ·rw[W4]at h;exact wpAny_eqBool_str h
 «strs»:=λk x t v h=>by
  rcases fq h with⟨i,u,rfl,e⟩ | ⟨y,u,rfl,e⟩
  ·exact nomatch e
  ·injection e with e1 _;subst e1;cases v<;>rfl
theorem Hf (prog:aU)(w:aZ)(i:Int)(t:Tok):(fv prog w).is (.inl i) (.int i t)=true:=L4 i t
theorem Hg (prog:aU)(w:aZ)(x:Str)(t:Tok):(fv prog w).is (.inr x) (.str x t)=true:=L5 x t
theorem sz0:0<=sizeLine:=by decide
theorem sz1:1<=sizeLine:=by decide
theorem sz2:2<=sizeLine:=by decide
theorem sz3:3<=sizeLine:=by decide
theorem sz4:4<=sizeLine:=by decide
theorem sz5:5<=sizeLine:=by decide
theorem sz6:6<=sizeLine:=by decide
theorem sz8:8<=sizeLine:=by decide
theorem sz14:14<=sizeLine:=by decide
inductive V where
 |non | bl (b:Bool) | int (i:Int) | str (x:Str) | byt (b:Array UInt8) | flt (b:UInt64) | ref (a:Addr) | ty (n:String)
 deriving DecidableEq
def RelV:V->aC->Prop
 | .non,u=>u=iD
 | .bl b,u=>u=xJ b
 | .int i,u=>∃t,u=oR i t
 | .str x,u=>∃t,u=wH x t
 | .byt b,u=>∃t,u=Value.bytes b t
 | .flt b,u=>∃t,u=Value.float b t
 | .ref a,u=>u=bZ a
 | .ty n,u=>u=pM n
abbrev Vals:List V->List aC->Prop:=Paired RelV
theorem Vals.length {xs:List V}{us:List aC}(r:Vals xs us):xs.length=us.length:=Paired.length r
theorem Vals.get:∀{xs:List V}{us:List aC}{i:Nat}{x:V},Vals xs us->xs[i]?=some x->∃u,us[i]?=some u/\RelV x u
 |_,_,_,_,.nil,e=>by simp at e
 |_,_,0,_,.cons r _,e=>by simp at e;subst e;exact⟨_,rfl,r⟩
 |_,_,i+1,x,.cons _ t,e=>by
  obtain⟨u,h1,h2⟩:=Vals.get (i:=i) (x:=x) t (by simpa using e);exact⟨u,by simpa using h1,h2⟩
theorem Vals.set {x:V}{u:aC}(r:RelV x u):∀{xs:List V}{us:List aC}(i:Nat),Vals xs us->Vals (xs.set i x) (us.set i u)
 |_,_,_,.nil=>.nil
 |_,_,0,.cons _ t=>.cons r t
 |_,_,i+1,.cons q t=>.cons q (Vals.set r i t)
theorem Vals.append:∀{xs ys:List V}{us ws:List aC},Vals xs us->Vals ys ws->Vals (xs++ys) (us++ws)
 |_,_,_,_,.nil,s=>s
 |_,_,_,_,.cons r t,s=>.cons r (Vals.append t s)
theorem Vals.take:∀{xs:List V}{us:List aC}(n:Nat),Vals xs us->Vals (xs.take n) (us.take n)
 |_,_,0,_=>.nil
 |_,_,_+1,.nil=>.nil
 |_,_,n+1,.cons r t=>.cons r (Vals.take n t)
theorem Vals.drop:∀{xs:List V}{us:List aC}(n:Nat),Vals xs us->Vals (xs.drop n) (us.drop n)
 |_,_,0,r=>r
 |_,_,_+1,.nil=>.nil
 |_,_,n+1,.cons _ t=>Vals.drop n t
def RelO:Option V->Option aC->Prop
 |some v,some u=>RelV v u
 |none,none=>True
 |_,_=>False
def KV {κ:Type}:List (κ×V)->List (κ×aC)->Prop:=Paired λ(p:κ×V)(q:κ×aC)=>p.1=q.1/\RelV p.2 q.2
def kV:Key->V
 | .inl i=>.int i
 | .inr x=>.str x
inductive HO where
 |lst (xs:List V)
 |tup (xs:List V)
 |dK (kvs:List (Key×V)) | dT (kvs:List (List Key×V))
 |set (S:Int->Bool) (n:Nat)
 |ins (C dx:Addr) (fs:List (Str×V))
 |own (x:Addr)
 |xd (fs:List (Str×V))
 |met (f x:Addr)
 |rng (lo hi:Int)
 |frz (o:Obj) (u:HO)
 |tbl (ps:Array aC)
 |ext (φ:Heap->Prop)
abbrev Hp:=Addr->Option HO
def upd (H:Hp)(a:Addr)(o:HO):Hp:=λb=>if b=a then some o else H b
theorem af {H:Hp}{a:Addr}{o:HO}:upd H a o a=some o:=by unfold upd;rw[if_pos rfl]
theorem ao {H:Hp}{a b:Addr}{o:HO}(h:b≠a):upd H a o b=H b:=by unfold upd;rw[if_neg h]
theorem Uk {H:Hp}{a:Addr}{o u:HO}:upd (upd H a o) a u=upd H a u:=by
 funext b;unfold upd;split<;>rfl
theorem ou {H:Hp}{a b:Addr}{o u:HO}(h:H a=some o)(h':H b=some u)(d:o≠u):a≠b:=by
 intro e;subst e;rw[h]at h';exact d (cZ h')
theorem aq {H:Hp}{a b:Addr}{o:HO}(h:H a=some o)(h':H b=none):a≠b:=by
 intro e;subst e;rw[h]at h';cases h'
section
variable (P:aU)(w:aZ)
def ObjOk (H:Hp)(h:Heap)(a:Addr):HO->Prop
 | .lst xs=>xs.length<=sizeLine/\∃(its:List aC)(n:Nat),Vals xs its/\h.get? a=some { cls:=.type "list",data:=.seq its.toArray n }
 | .tup xs=>xs.length<=sizeLine/\∃its:List aC,Vals xs its/\zJ h a its.toArray
 | .dK kvs=>kvs.length<=sizeLine/\(a == nV)=false/\∃vs,KV kvs vs/\h.DictOf (fv P w) a vs
 | .dT kvs=>kvs.length<=sizeLine/\(a == nV)=false/\∃xs:List (List Key×Addr×aC),
   Paired (λ(p:List Key×V)(q:List Key×Addr×aC)=>p.1=q.1/\H q.2.1=some (.tup (p.1.map kV))/\RelV p.2 q.2.2) kvs xs/\
   ∃o es ep,h.get? a=some o/\o.ExactDict/\o.data=.dict es ep/\es.toList=xs.map (entryOfKey (wI (fv P w)))/\(xs.map (·.1)).Nodup
 | .set S n=>h.SetOf (gE P w) a S n
 | .ins C dx fs=>H dx=some (.own a)/\fs.length<=1000/\dx≠a/\h.get? a=some (lS C dx)/\
   ∃mA,h.Ns1 dx mA/\(∀f,RelO (fs.lookup f) (mA f))/\yB mA (fs.map (·.1))
 | .own _=>∃o,h.get? a=some o
 | .xd fs=>∃mA,h.Ns1 a mA/\∀f,RelO (fs.lookup f) (mA f)
 | .rng lo hi=>∃t u v,h.get? a=some { cls:=.type "range",data:=.fields #[.int lo t,.int hi u,.int 1 v] }
 | .frz o u=>h.get? a=some o/\ObjOk H h a u
 | .tbl ps=>h.get? a=some { cls:=.none,data:=.fields ps }
 | .met f x=>h.get? a=some (vA (.ref f) (.ref x))
 | .ext φ=>φ h/\(∃o,h.get? a=some o)/\∀h1 h2:Heap,φ h1->(∀o,h1.get? a=some o->h2.get? a=some o)->φ h2
def HOk (H:Hp)(h:Heap):Prop:=∀a o,H a=some o->ObjOk P w H h a o
end
section
variable {P:aU}{w:aZ}{H H':Hp}{h h':Heap}{a:Addr}{o:HO}
theorem ObjOk.lt (x:ObjOk P w H h a o):a < h.objs.size:=by
 cases o with
 |lst xs=>obtain⟨_,_,_,_,e⟩:=x;exact aW e
 |tup xs=>obtain⟨_,_,_,p⟩:=x;exact p.lt
 |dK kvs=>obtain⟨_,_,_,_,o,_,_,e,_⟩:=x;exact aW e
 |dT kvs=>obtain⟨_,_,_,_,o,_,_,e,_⟩:=x;exact aW e
 |set S n=>obtain⟨o,_,_,_,e,_⟩:=x;exact aW e
 |ins C dx fs=>obtain⟨_,_,_,e,_⟩:=x;exact aW e
 |own y=>obtain⟨_,e⟩:=x;exact aW e
 |xd fs=>obtain⟨_,⟨_,_,_,e,_⟩,_⟩:=x;exact aW e
 |rng lo hi=>obtain⟨_,_,_,e⟩:=x;exact aW e
 |frz ob u=>obtain⟨e,_⟩:=x;exact aW e
 |tbl ps=>exact aW (show h.get? a=some _ from x)
 |met f y=>exact aW (show h.get? a=some _ from x)
 |ext φ=>obtain⟨_,⟨_,e⟩,_⟩:=x;exact aW e
theorem Paired.mapP {α β:Type}{F G:α->β->Prop}:∀{l₁:List α}{l₂:List β},Paired F l₁ l₂->(∀a b,F a b->G a b)->Paired G l₁ l₂
 |_,_,.nil,_=>.nil
 |_,_,.cons r t,f=>.cons (f _ _ r) (Paired.mapP t f)
theorem ObjOk.stay (x:ObjOk P w H h a o)(k:∀b u,(b=a\/H b=some (.own a))->h.get? b=some u->h'.get? b=some u)
  (ho:∀b,H b=some (.own a)->H' b=some (.own a)) (ht:∀b xs,H b=some (.tup xs)->H' b=some (.tup xs)):ObjOk P w H' h' a o:=by
 induction o with
 |lst xs=>obtain⟨z,its,n,r,e⟩:=x;exact⟨z,its,n,r,k _ _ (.inl rfl) e⟩
 |tup xs=>obtain⟨z,its,r,ob,e,c⟩:=x;exact⟨z,its,r,ob,k _ _ (.inl rfl) e,c⟩
 |dK kvs=>obtain⟨z,y,vs,r,ob,es,ep,e,c⟩:=x;exact⟨z,y,vs,r,ob,es,ep,k _ _ (.inl rfl) e,c⟩
 |dT kvs=>
  obtain⟨z,y,xs,r,ob,es,ep,e,c⟩:=x;exact⟨z,y,xs,Paired.mapP r λp q z=>⟨z.1,ht _ _ z.2.1,z.2.2⟩,ob,es,ep,k _ _ (.inl rfl) e,c⟩
 |set S n=>obtain⟨ob,es,ep,t,e,c⟩:=x;exact⟨ob,es,ep,t,k _ _ (.inl rfl) e,c⟩
 |ins C dx fs=>
  obtain⟨d,z,ne,e,mA,⟨od,es,ep,e2,c⟩,r⟩:=x;exact⟨ho _ d,z,ne,k _ _ (.inl rfl) e,mA,⟨od,es,ep,k _ _ (.inr d) e2,c⟩,r⟩
 |own y=>obtain⟨ob,e⟩:=x;exact⟨ob,k _ _ (.inl rfl) e⟩
 |xd fs=>obtain⟨mA,⟨od,es,ep,e,c⟩,r⟩:=x;exact⟨mA,⟨od,es,ep,k _ _ (.inl rfl) e,c⟩,r⟩
 |rng lo hi=>obtain⟨t,u,v,e⟩:=x;exact⟨t,u,v,k _ _ (.inl rfl) e⟩
 |frz ob u ih=>obtain⟨e,q⟩:=x;exact⟨k _ _ (.inl rfl) e,ih q⟩
 |tbl ps=>
  have e:h.get? a=some { cls:=.none,data:=.fields ps }:=x;show h'.get? a=some { cls:=.none,data:=.fields ps };exact k a _ (.inl rfl) e
 |met f y=>
  have e:h.get? a=some (vA (.ref f) (.ref y)):=x;show h'.get? a=some (vA (.ref f) (.ref y));exact k a _ (.inl rfl) e
 |ext φ=>obtain⟨p,⟨o,e⟩,st⟩:=x;exact⟨st _ _ p λo q=>k _ _ (.inl rfl) q,⟨o,k _ _ (.inl rfl) e⟩,st⟩
theorem HOk.lt (x:HOk P w H h)(e:H a=some o):a < h.objs.size:=(x a o e).lt
theorem HOk.fresh (x:HOk P w H h)(e:h.objs.size<=a):H a=none:=by
 cases q:H a with
 |none=>rfl
 |some u=>exact absurd (eI (x.lt q) e) (kZ _)
theorem HOk.kept (x:HOk P w H h)(k:∀b u,h.get? b=some u->h'.get? b=some u):HOk P w H h':=λa o e=>
 (x a o e).stay (λb u _ q=>k b u q) (λ_ q=>q) λ_ _ q=>q
theorem HOk.laid (x:HOk P w H h)(k:∀b u,h.get? b=some u->h'.get? b=some u)(hp:h.objs.size<=a)(new:ObjOk P w (upd H a o) h' a o):HOk P w (upd H a o) h':=λb u e=>by
 have hn:=x.fresh hp;by_cases hb:b=a
 ·subst hb;rw[af]at e;cases e;exact new
 ·rw[ao hb]at e;exact(x b u e).stay (λc v _ q=>k c v q) (λc q=>by rw[ao (aq q hn)];exact q) λc xs q=>by rw[ao (aq q hn)];exact q
end
def Rd (H:Hp)(a:Addr)(u:HO):Prop:=H a=some u\/∃o,H a=some (.frz o u)
theorem Rd.ok {P:aU}{w:aZ}{H:Hp}{h:Heap}{a:Addr}{u:HO}(r:Rd H a u)(x:HOk P w H h):ObjOk P w H h a u:=by
 rcases r with r | ⟨o,r⟩
 ·exact x a u r
 ·obtain⟨_,q⟩:=x a _ r;exact q
def Mut:Option HO->Prop
 |some (.lst _)=>True
 |some (.dK _)=>True
 |some (.dT _)=>True
 |some (.set _ _)=>True
 |some (.ins _ _ _)=>True
 |some (.ext _)=>True
 |_=>False
section
variable {P:aU}{w:aZ}{H:Hp}{h h':Heap}{x e:Addr}{o':HO}
theorem HOk.write (ok:HOk P w H h)(mu:Mut (H x))(he:e=x\/H e=some (.own x))(k:∀b u,b≠e->h.get? b=some u->h'.get? b=some u)(KQ:∃u,h'.get? e=some u)
  (new:ObjOk P w (upd H x o') h' x o'):HOk P w (upd H x o') h':=λb u q=>by
 have LN:∀c y,H c=some (.own y)->c≠x:=λc y r z=>(by subst z;rw[r]at mu;exact mu);have ntup:∀c xs,H c=some (.tup xs)->c≠x:=λc xs r z=>(by subst z;rw[r]at mu;exact mu);by_cases hb:b=x
 ·subst hb;rw[af]at q;cases q;exact new
 ·rw[ao hb]at q;by_cases BW:b=e
  ·have q':H b=some (.own x):=by
    rcases he with z | z
    ·exact absurd (BW.trans z) hb
    ·rw[BW];exact z
   rw[q]at q';cases q';obtain⟨v,hv⟩:=KQ;exact⟨v,by rw[BW];exact hv⟩
  ·refine(ok b u q).stay (λc v hc r=>k c v ?_ r) (λc r=>by rw[ao (LN c b r)];exact r) λc xs r=>(by rw[ao (ntup c xs r)];exact r);rcases hc with rfl | hc
   ·exact BW
   ·intro AC;subst AC;rcases he with z | z
    ·exact LN c b hc z
    ·rw[hc]at z;cases z;exact hb rfl
end
structure Un (fs ex:List Addr)(H H':Hp)(h h':Heap):Prop where
 keep:∀b o,h.get? b=some o->H b=none->b ∉ fs->b ∉ ex->h'.get? b=some o
 slot:∀b o,h.get? b=some o->H b=none->b∈fs->b ∉ ex->∃sl,h'.get? b=some { o with slots:=sl }
 free:∀b o,h.get? b=some o->H b=none->b ∉ ex->H' b=none
 there:∀b o,h.get? b=some o->b ∉ ex->∃o',h'.get? b=some o'
 tups:∀b xs,H b=some (.tup xs)->H' b=some (.tup xs)
 frzs:∀b o u,H b=some (.frz o u)->H' b=some (.frz o u)
 tbls:∀b ps,H b=some (.tbl ps)->∃more,H' b=some (.tbl (ps++more))
section
variable {fs fs' ex ex':List Addr}{H H1 H2:Hp}{h h1 h2 h':Heap}{a x e:Addr}{o:HO}
theorem Un.any (u:Un fs ex H H1 h h1){b:Addr}{ob:Obj}(q:h.get? b=some ob)(n:H b=none)(hx:b ∉ ex):∃sl,h1.get? b=some { ob with slots:=sl }:=by
 by_cases hb:b∈fs
 ·exact u.slot b ob q n hb hx
 ·exact⟨ob.slots,u.keep b ob q n hb hx⟩
theorem Un.kept (k:∀b u,h.get? b=some u->h'.get? b=some u):Un fs ex H H h h':=
 ⟨λb ob q _ _ _=>k b ob q,λb ob q _ _ _=>⟨ob.slots,k b ob q⟩,λ_ _ _ n _=>n,λb ob q _=>⟨ob,k b ob q⟩,λ_ _ q=>q,λ_ _ _ q=>q,λ_ ps q=>⟨#[],by rw[q];simp⟩⟩
theorem Un.refl:Un fs ex H H h h:=Un.kept λ_ _ q=>q
theorem Un.laid (k:∀b u,h.get? b=some u->h'.get? b=some u)(hp:h.objs.size<=a)(hn:H a=none):Un fs ex H (upd H a o) h h' where
 keep:=λb u q _ _ _=>k b u q
 slot:=λb u q _ _ _=>⟨u.slots,k b u q⟩
 free:=λb u q n _=>by rw[ao (cE (eI (aW q) hp))];exact n
 there:=λb u q _=>⟨u,k b u q⟩
 tups:=λb xs q=>by rw[ao (aq q hn)];exact q
 frzs:=λb u xs q=>by rw[ao (aq q hn)];exact q
 tbls:=λb ps q=>⟨#[],by rw[ao (aq q hn),q];simp⟩
theorem Un.write (mu:Mut (H x))(he:e=x\/H e=some (.own x))(k:∀b u,b≠e->h.get? b=some u->h'.get? b=some u)(KQ:∃u,h'.get? e=some u):Un fs ex H (upd H x o) h h':=by
 have hx:∀b,H b=none->b≠x:=λb n z=>(by subst z;rw[n]at mu;exact mu);have hb:∀b,H b=none->b≠e:=λb n z=>by
  subst z;rcases he with r | r
  ·exact hx b n r
  ·rw[n]at r;cases r
 have hm:∀b u,H b=some u->¬Mut (some u)->b≠x:=λb u q nm z=>(by subst z;rw[q]at mu;exact nm mu);refine⟨λb u q n _ _=>k b u (hb b n) q,λb u q n _ _=>⟨u.slots,k b u (hb b n) q⟩,λb u q n _=>by rw[ao (hx b n)];exact n,λb u q _=>?_,λb xs q=>by rw[ao (hm b _ q λz=>z)];exact q,λb u xs q=>by rw[ao (hm b _ q λz=>z)];exact q,λb ps q=>⟨#[],by rw[ao (hm b _ q λz=>z),q];simp⟩⟩;by_cases BW:b=e
 ·subst BW;exact KQ
 ·exact⟨u,k b u BW q⟩
end
def trk (h:Heap)(H:Hp):List Addr:=(dG h.objs.size).filter λa=>(H a).isSome
def jo (h:Heap)(H:Hp):Heap:=PySem.W.hideAll h (trk h H)
theorem L6 (h:Heap)(H:Hp):(jo h H).objs.size=h.objs.size:=PySem.W.hideAll_size _ _
theorem yj {h:Heap}{H:Hp}{b:Addr}{o:Obj}(e:h.get? b=some o)(n:H b=none):(jo h H).get? b=some o:=
 PySem.W.hideAll_get _ e λhm=>by
  have q:(H b).isSome=true:=(wJ.mp hm).2;rw[n]at q;simp at q
theorem Bi {h:Heap}{H:Hp}{b:Addr}{o:Obj}(e:(jo h H).get? b=some o):h.get? b=some o/\H b=none:=by
 have e':h.get? b=some o:=PySem.W.of_hideAll (trk h H) e;refine⟨e',?_⟩;cases q:H b with
 |none=>rfl
 |some x=>
  have hm:b∈trk h H:=List.mem_filter.mpr ⟨iW.mpr (aW e'),by simp[q]⟩;have z:(jo h H).get? b=none:=PySem.W.hideAll_none (trk h H) hm;rw[z]at e;cases e
def Ul (g h:Heap)(L:Addr):List (Addr×Obj):=(dG h.objs.size).filterMap λa=>if a=L\/(g.get? a).isSome=true then none else (h.get? a).map λo=>(a,o)
def rest (g h:Heap)(L d:Addr):List (Addr×Obj):=(Ul g h L).filter λp=>decide (p.1≠d)
structure Mod (K:aB)(mg:Str->Option aC)(base:Heap):Prop where
 kin:K.In base
 glob:base.Ns cW mg
 blt:∃mb,base.Ns zK mb/\∀x:Str,x≠"__name__"->mb x=jK x
 nolimit:base.NoLimit
structure Cx where
 prog:aU
 w:aZ
 K:aB
 mg:Str->Option aC
 base:Heap
 A:cC
 N:List Str
 s₀:aG
 H₀:Hp
 env:Env
 outer:List Env
 stack:List Env
 ex:List Addr
 fn:Str->Bool
 calm:Bool
 pn:List (Addr×Obj)
 xe:aC->aG->Prop
def frs (l:List Env):List Addr:=l.filterMap (·.frame)
abbrev Cx.fs (X:Cx):List Addr:=frs X.outer
def Vis (sc:gQ)(x:Str):Prop:=sc.names.lookup x=some .local\/sc.names.lookup x=some .cell\/sc.names.lookup x=some .free
def Loc (sc:gQ)(x:Str):Prop:=sc.names.lookup x=some .local\/sc.names.lookup x=some .cell
def W7 (env:Env)(h:Heap)(m:Str->Option aC)(x:Str)(u:aC):Prop:=
 (env.kindOf x=some .local/\m x=some u)\/((env.kindOf x=some .cell\/env.kindOf x=some .free)/\∃c,env.cells.lookup x=some c/\h.IsCell c (some u))
structure Cx.Ok (X:Cx):Prop where
 mod:Mod X.K X.mg X.base
 kind:X.env.scope.kind=.function
 glob:X.env.globals=cW
 blt:X.env.builtins=zK
 above:X.s₀.heap.objs.size<=X.env.locals
 inj:∀x y c,X.env.cells.lookup x=some c->X.env.cells.lookup y=some c->x=y
 has:∀x,(X.env.kindOf x=some .cell\/X.env.kindOf x=some .free)->∃c,X.env.cells.lookup x=some c
 cab:∀x c,X.fn x=true->X.env.cells.lookup x=some c->X.s₀.heap.objs.size<=c
 hd:X.calm=true->X.A.handled=none
 frames:X.A.frames=some X.stack
 stk:X.stack=X.outer\/(X.stack=X.env::X.outer/\X.env.frame=some X.env.locals)
 exf:∀b∈X.ex,b≠X.env.locals/\∀x c,X.env.cells.lookup x=some c->c≠b
 bs:∀b o,X.base.get? b=some o->X.s₀.heap.get? b=some o/\X.H₀ b=none
 bsz:X.base.objs.size<=X.s₀.heap.objs.size
 noex:∀b o,X.base.get? b=some o->b ∉ X.ex
 exfs:∀b∈X.ex,b ∉ X.fs
 funs:X.s₀.heap.FunFrames X.base X.outer
 frf:∀b∈X.fs,X.H₀ b=none
structure Inv (X:Cx)(f':List (Addr×Obj))(σ:List (Option V))(H:Hp)(s:aG):Prop where
 ok:X.Ok
 os:s.os=X.s₀.os
 bare:qG s.gens
 base:Un X.fs X.ex X.H₀ H X.s₀.heap s.heap
 loc:∃m,s.heap.Ns X.env.locals m/\∀(i:Nat)(x:Str) (v:V),X.N[i]?=some x->σ[i]?=some (some v)->Vis X.env.scope x->∃u,RelV v u/\W7 X.env s.heap m x u
 cell:∀x c,X.env.cells.lookup x=some c->∃v,s.heap.IsCell c v
 free:H X.env.locals=none
 freeC:∀x c,X.env.cells.lookup x=some c->H c=none
 pin:∀p∈X.pn++f',s.heap.get? p.1=some p.2/\H p.1=none/\p.1≠X.env.locals/\p.1 ∉ X.fs/\∀v,p.2.data≠.cell v
 hok:HOk X.prog X.w H s.heap
 len:σ.length=X.N.length
section
variable {X:Cx}{f':List (Addr×Obj)}{σ:List (Option V)}{H H':Hp}{s:aG}{h':Heap}
theorem Cx.Ok.nofr (ok:X.Ok){b:Addr}{o:Obj}(e:X.base.get? b=some o):b ∉ X.fs:=λhb=>by
 have:=(ok.funs.mem hb).1;rw[e]at this;cases this
theorem Inv.bs (I:Inv X f' σ H s):∀b o,X.base.get? b=some o->s.heap.get? b=some o/\H b=none:=λb o e=>
 ⟨I.base.keep b o (I.ok.bs b o e).1 (I.ok.bs b o e).2 (I.ok.nofr e) (I.ok.noex b o e),I.base.free b o (I.ok.bs b o e).1 (I.ok.bs b o e).2 (I.ok.noex b o e)⟩
theorem Inv.bk (I:Inv X f' σ H s):∀b o,X.base.get? b=some o->s.heap.get? b=some o:=λb o e=>(I.bs b o e).1
theorem Inv.mod (I:Inv X f' σ H s):Mod X.K X.mg X.base:=I.ok.mod
theorem Inv.kIn (I:Inv X f' σ H s):X.K.In s.heap:=I.ok.mod.kin.keeps I.bk
theorem Inv.lt (I:Inv X f' σ H s):X.env.locals < s.heap.objs.size:=let ⟨_,hn,_⟩:=I.loc;hn.lt
theorem Inv.sz (I:Inv X f' σ H s):X.s₀.heap.objs.size<=s.heap.objs.size:=cH I.ok.above (lF I.lt)
theorem Inv.nofs (I:Inv X f' σ H s){a:Addr}(h:s.heap.objs.size<=a):a ∉ X.fs:=λhb=>by
 obtain⟨_,o,ho,_⟩:=I.ok.funs.mem hb;exact absurd (eI (aW ho) (cH I.sz h)) (kZ _)
theorem Inv.cne (I:Inv X f' σ H s):∀x c,X.env.cells.lookup x=some c->c≠X.env.locals:=λx c e z=>by
 obtain⟨v,o,ho,hd⟩:=I.cell x c e;obtain⟨m,⟨o',es,ep,DY,CD,_⟩,_⟩:=I.loc;rw[z,DY]at ho;cases ho;rw[CD]at hd;cases hd
theorem Inv.funs (I:Inv X f' σ H s):s.heap.FunFrames X.base X.outer:=by
 have all:∀(l:List Env),(∀b∈frs l,b∈X.fs)->X.s₀.heap.FunFrames X.base l->s.heap.FunFrames X.base l:=by
  intro l
  induction l with
  |nil=>intro _ _;trivial
  |cons env r ih=>
   intro hs hl;obtain⟨hk,⟨L,o,hf,hn,ho,hd⟩,hr⟩:=hl;have hL:L∈X.fs:=hs L (by unfold frs;rw[iQ,hf];exact eF);obtain⟨sl,e⟩:=I.base.slot L o ho (I.ok.frf L hL) hL λz=>I.ok.exfs L z hL;exact⟨hk,⟨L,_,hf,hn,e,hd⟩,ih (λb hb=>hs b (by unfold frs;rw[iQ,hf];exact cX _ hb)) hr⟩
 exact all X.outer (λ_ hb=>hb) I.ok.funs
theorem Inv.stack (I:Inv X f' σ H s):s.heap.FunFrames X.base X.stack:=by
 rcases I.ok.stk with e | ⟨e,hf⟩
 ·rw[e];exact I.funs
 ·rw[e];obtain⟨m,hn,_⟩:=I.loc;refine .cons (by rw[I.ok.kind];decide) hf hn ?_ I.funs;exact pN (cH I.ok.bsz I.ok.above)
theorem Inv.stkSub (I:Inv X f' σ H s):∀b∈frs X.stack,b∈X.env.locals::X.fs:=λb hb=>by
 rcases I.ok.stk with e | ⟨e,hf⟩
 ·rw[e]at hb;exact cX _ hb
 ·rw[e]at hb;unfold frs at hb;rw[iQ,hf]at hb;exact hb
theorem Inv.stkFree (I:Inv X f' σ H s):∀b∈frs X.stack,H b=none:=λb hb=>by
 rcases aX.mp (I.stkSub b hb)with e | hb
 ·rw[e];exact I.free
 ·obtain⟨_,o,ho,_⟩:=I.ok.funs.mem hb;exact I.base.free b o ho (I.ok.frf b hb) λz=>I.ok.exfs b z hb
theorem Inv.step {g':Array pO}{t':Nat}{d':zL}{ch:List Addr}(I:Inv X f' σ H s)
  (FR:∀b∈ch,(b∈X.ex\/X.s₀.heap.objs.size<=b)/\b≠X.env.locals/\(∀x c,X.env.cells.lookup x=some c->c≠b)/\∀p∈X.pn++f',p.1≠b)
  (keep:∀b o,b≠X.env.locals->b ∉ X.fs->b ∉ ch->s.heap.get? b=some o->H b=none->h'.get? b=some o)
  (slot:∀b o,b≠X.env.locals->b∈X.fs->b ∉ ch->s.heap.get? b=some o->H b=none->∃sl,h'.get? b=some { o with slots:=sl }) (free:∀b o,b ∉ ch->s.heap.get? b=some o->H b=none->H' b=none)
  (there:∀b o,b ∉ ch->s.heap.get? b=some o->∃o',h'.get? b=some o')
  (tups:∀b xs,H b=some (.tup xs)->H' b=some (.tup xs)) (frzs:∀b o u,H b=some (.frz o u)->H' b=some (.frz o u)) (tbls:∀b ps,H b=some (.tbl ps)->∃more,H' b=some (.tbl (ps++more)))
  (ns:∀m,s.heap.Ns X.env.locals m->h'.Ns X.env.locals m) (hok:HOk X.prog X.w H' h') (hg:qG g') :
  Inv X f' σ H' { s with heap:=h',gens:=g',drawn:=d',toks:=t' }:=by
 have TX:∀b o,X.s₀.heap.get? b=some o->b≠X.env.locals:=λb o e=>cE (eI (aW e) I.ok.above);have OG:∀b o,X.s₀.heap.get? b=some o->b ∉ X.ex->b ∉ ch:=λb o e hx hb=>by
  rcases(FR b hb).1 with z | z
  ·exact hx z
  ·exact absurd (eI (aW e) z) (kZ _)
 have HW:∀x c,X.env.cells.lookup x=some c->∀v,s.heap.IsCell c v->h'.IsCell c v:=λx c e v ⟨o,ho,hd⟩=>by
  have LO:c ∉ ch:=λz=>(FR c z).2.2.1 x c e rfl;by_cases hc:c∈X.fs
  ·obtain⟨sl,q⟩:=slot c o (I.cne x c e) hc LO ho (I.freeC x c e);exact⟨_,q,hd⟩
  ·exact⟨o,keep c o (I.cne x c e) hc LO ho (I.freeC x c e),hd⟩
 refine⟨I.ok,I.os,hg,⟨λb o e n hb hx=>?_,λb o e n hb hx=>?_,λb o e n hx=>?_,λb o e hx=>?_,λb xs e=>tups b xs (I.base.tups b xs e),λb o xs e=>frzs b o xs (I.base.frzs b o xs e),λb ps e=>?_⟩,?_,λx c e=>?_,?_,λx c e=>?_,λp hp=>?_,hok,I.len⟩
 ·exact keep b o (TX b o e) hb (OG b o e hx) (I.base.keep b o e n hb hx) (I.base.free b o e n hx)
 ·obtain⟨sl,e1⟩:=I.base.slot b o e n hb hx;obtain⟨sl',e2⟩:=slot b _ (TX b o e) hb (OG b o e hx) e1 (I.base.free b o e n hx);exact⟨sl',e2⟩
 ·obtain⟨o',e1⟩:=I.base.there b o e hx;exact free b o' (OG b o e hx) e1 (I.base.free b o e n hx)
 ·obtain⟨o',e1⟩:=I.base.there b o e hx;exact there b o' (OG b o e hx) e1
 ·obtain⟨m1,e1⟩:=I.base.tbls b ps e;obtain⟨m2,e2⟩:=tbls b _ e1;exact⟨m1++m2,by rw[e2,Array.append_assoc]⟩
 ·obtain⟨m,hn,hl⟩:=I.loc;refine⟨m,ns m hn,λi x v e1 e2 e3=>?_⟩;obtain⟨u,r,l⟩:=hl i x v e1 e2 e3;refine⟨u,r,?_⟩;rcases l with l | ⟨k,c,e,z⟩
  ·exact .inl l
  ·exact .inr ⟨k,c,e,HW x c e _ z⟩
 ·obtain⟨v,z⟩:=I.cell x c e;exact⟨v,HW x c e v z⟩
 ·obtain⟨m,⟨o,_,_,ho,_⟩,_⟩:=I.loc;exact free _ o (λz=>(FR _ z).2.1 rfl) ho I.free
 ·obtain⟨v,o,ho,hd⟩:=I.cell x c e;exact free c o (λz=>(FR c z).2.2.1 x c e rfl) ho (I.freeC x c e)
 ·obtain⟨e,n,ne,nf,d⟩:=I.pin p hp;have LO:p.1 ∉ ch:=λz=>(FR p.1 z).2.2.2 p hp rfl;exact⟨keep p.1 p.2 ne nf LO e n,free p.1 p.2 LO e n,ne,nf,d⟩
theorem Inv.un {t':Nat}(I:Inv X f' σ H s)(u:Un X.fs [] H H' s.heap h')(hok:HOk X.prog X.w H' h'):Inv X f' σ H' { s with heap:=h',toks:=t' }:=by
 obtain⟨m,⟨o,es,ep,ho,r⟩,_⟩:=id I.loc;obtain⟨sl,hL⟩:=u.any ho I.free (by simp);exact I.step (g':=s.gens) (d':=s.drawn) (ch:=[]) (λ_ z=>nomatch z) (λb o _ hb _ e n=>u.keep b o e n hb (by simp)) (λb o _ hb _ e n=>u.slot b o e n hb (by simp)) (λb o _ e n=>u.free b o e n (by simp)) (λb o _ e=>u.there b o e (by simp)) u.tups u.frzs u.tbls (λm' hm=>by
   obtain⟨o',KR,QD,DY,r'⟩:=hm;rw[ho]at DY;cases DY;exact⟨_,KR,QD,hL,r'⟩) hok I.bare
theorem Inv.call {g':Array pO}{t':Nat}{d':zL}{ch:List Addr}(I:Inv X f' σ H s)(u:Un (frs X.stack) ch H H' s.heap h')(hok:HOk X.prog X.w H' h')(hg:qG g')
  (FR:∀b∈ch,(b∈X.ex\/X.s₀.heap.objs.size<=b)/\b≠X.env.locals/\(∀x c,X.env.cells.lookup x=some c->c≠b)/\∀p∈X.pn++f',p.1≠b) :
  Inv X f' σ H' { s with heap:=h',gens:=g',drawn:=d',toks:=t' }:=by
 obtain⟨m,⟨o,es,ep,ho,r⟩,_⟩:=id I.loc;obtain⟨sl,hL⟩:=u.any ho I.free λz=>(FR _ z).2.1 rfl;exact I.step (ch:=ch) FR (λb o hL hb hc e n=>u.keep b o e n (λz=>(aX.mp (I.stkSub b z)).elim hL hb) hc) (λb o _ _ hc e n=>u.any e n hc) (λb o hc e n=>u.free b o e n hc) (λb o hc e=>u.there b o e hc) u.tups u.frzs u.tbls (λm' hm=>by
   obtain⟨o',KR,QD,DY,r'⟩:=hm;rw[ho]at DY;cases DY;exact⟨_,KR,QD,hL,r'⟩) hok hg
theorem Inv.turned {t':Nat}{it:Addr}(I:Inv X f' σ H s)(k:∀b o,b≠it->s.heap.get? b=some o->h'.get? b=some o)(hn:H it=none)(hL:it≠X.env.locals)
  (h1:it∈X.ex\/X.s₀.heap.objs.size<=it) (h2:∀x c,X.env.cells.lookup x=some c->c≠it) (h3:∀p∈X.pn++f',p.1≠it):Inv X f' σ H { s with heap:=h',toks:=t' }:=by
 have TY:∀b u,H b=some u->b≠it:=λb u e z=>(by rw[z,hn]at e;cases e);refine I.step (g':=s.gens) (d':=s.drawn) (ch:=[it]) (λb hb=>?_) (λb o _ _ hc e _=>k b o (λz=>hc (by simp[z])) e) (λb o _ _ hc e _=>⟨o.slots,k b o (λz=>hc (by simp[z])) e⟩) (λ_ _ _ _ n=>n)
  (λb o hc e=>⟨o,k b o (λz=>hc (by simp[z])) e⟩) (λ_ _ e=>e) (λ_ _ _ e=>e) (λb ps e=>⟨#[],by rw[e];simp⟩) (λm hm=>?_) (λb u e=>?_) I.bare
 ·have e:b=it:=(by simpa using hb);subst e;exact⟨h1,hL,h2,h3⟩
 ·obtain⟨o,es,ep,ho,r⟩:=hm;exact⟨o,es,ep,k _ o (Ne.symm hL) ho,r⟩
 ·refine(I.hok b u e).stay (λc v hc q=>k c v ?_ q) (λ_ q=>q) λ_ _ q=>q;rcases hc with z | z
  ·rw[z];exact TY b u e
  ·exact TY c _ z
theorem Inv.tok (I:Inv X f' σ H s)(t:Nat):Inv X f' σ H { s with toks:=t }:=I.un (h':=s.heap) (t':=t) Un.refl I.hok
theorem Inv.kept {t':Nat}(I:Inv X f' σ H s)(k:∀b u,s.heap.get? b=some u->h'.get? b=some u):Inv X f' σ H { s with heap:=h',toks:=t' }:=I.un (Un.kept k) (I.hok.kept k)
theorem Inv.laid {a:Addr}{o:HO}{t':Nat}(I:Inv X f' σ H s)(k:∀b u,s.heap.get? b=some u->h'.get? b=some u)(hp:s.heap.objs.size<=a)(new:ObjOk X.prog X.w (upd H a o) h' a o) :
  Inv X f' σ (upd H a o) { s with heap:=h',toks:=t' }:=I.un (Un.laid k hp (I.hok.fresh hp)) (I.hok.laid k hp new)
theorem Inv.write {x e:Addr}{o:HO}{t':Nat}(I:Inv X f' σ H s)(mu:Mut (H x))(he:e=x\/H e=some (.own x))(k:∀b u,b≠e->s.heap.get? b=some u->h'.get? b=some u)(KQ:∃u,h'.get? e=some u)
  (new:ObjOk X.prog X.w (upd H x o) h' x o):Inv X f' σ (upd H x o) { s with heap:=h',toks:=t' }:=I.un (Un.write mu he k KQ) (I.hok.write mu he k KQ new)
theorem Inv.weak {σ':List (Option V)}(I:Inv X f' σ H s)(hl:σ'.length=σ.length)(w:∀(i:Nat) v,σ'[i]?=some (some v)->σ[i]?=some (some v)):Inv X f' σ' H s:=
 ⟨I.ok,I.os,I.bare,I.base,let ⟨m,hn,LP⟩:=I.loc;⟨m,hn,λi x v e1 e2 e3=>LP i x v e1 (w i v e2) e3⟩,I.cell,I.free,I.freeC,I.pin,I.hok,hl.trans I.len⟩
theorem Inv.pins_of {HX:List (Addr×Obj)}(I:Inv X f' σ H s)(h:∀p∈HX,s.heap.get? p.1=some p.2/\H p.1=none/\p.1≠X.env.locals/\p.1 ∉ X.fs/\∀v,p.2.data≠.cell v):Inv X HX σ H s:=
 ⟨I.ok,I.os,I.bare,I.base,I.loc,I.cell,I.free,I.freeC,λp hp=>(fK.mp hp).elim (λz=>I.pin p (lT _ z)) (h p),I.hok,I.len⟩
theorem yk {N:List Str}(hN:N.Nodup){i j:Nat}{x:Str}(a:N[i]?=some x)(b:N[j]?=some x):i=j:=by
 obtain⟨h1,e1⟩:=aM.mp a;obtain⟨h2,e2⟩:=aM.mp b;exact(List.getElem_inj hN).mp (e1.trans e2.symm)
theorem Cf {M:sO}{A:cC}{E:aC->aG->Prop}{i:Nat}{x:Str}{v:V}{u:aC}{Q:Unit->aG->Prop}(I:Inv X f' σ H s)(hN:X.N.Nodup)(hi:X.N[i]?=some x)(hx:Loc X.env.scope x)(r:RelV v u)
  (h:∀s',Inv X f' (σ.set i (some v)) H s'->(∃a,gI a s.heap s'.heap/\(a=X.env.locals\/X.env.cells.lookup x=some a))->Q () s') (hf:X.fn x=true\/X.env.scope.names.lookup x=some .local:=by first | exact .inl rfl | exact .inr rfl | assumption):aL M A (yC X.env x u) Q E s:=by
 obtain⟨m,hn,hl⟩:=id I.loc;have JF:(X.env.scope.kind == .class || (X.env.scope.kind == .module && X.env.locals != X.env.globals))=false:=(by rw[I.ok.kind];rfl);have GX:i < σ.length:=(by rw[I.len];exact(aM.mp hi).1);have cne:=I.cne;have DZ:∀{a:Addr}{h':Heap},(∃o,s.heap.get? a=some o/\H a=none)->gI a s.heap h'->HOk X.prog X.w H h':=λ{a h'} ha hs b ob e=>by
  obtain⟨_,_,HY⟩:=ha;refine(I.hok b ob e).stay (λc w' hc q=>(hs.2 c ?_).trans q) (λ_ q=>q) λ_ _ q=>q;intro AC;subst AC;rcases hc with rfl | hc
  ·rw[HY]at e;cases e
  ·rw[HY]at hc;cases hc
 rcases hx with hk | hk
 ·refine wpAny_storeName_local hk hn (λh' GZ hs=>?_) JF;obtain⟨oL,_,_,OH,_⟩:=id hn;refine h _ ⟨I.ok,I.os,I.bare,⟨λb o e n hb hx=>?_,λb o e n hb hx=>?_,I.base.free,λb o e hx=>?_,I.base.tups,I.base.frzs,I.base.tbls⟩,⟨_,GZ,λj y v' e1 e2 e3=>?_⟩,λy c e=>?_,I.free,I.freeC,λp hp=>?_,DZ ⟨oL,OH,I.free⟩ hs,by simpa using I.len⟩ ⟨_,hs,.inl rfl⟩
  ·exact(hs.2 b (cE (eI (aW e) I.ok.above))).trans (I.base.keep b o e n hb hx)
  ·obtain⟨sl,e1⟩:=I.base.slot b o e n hb hx;exact⟨sl,(hs.2 b (cE (eI (aW e) I.ok.above))).trans e1⟩
  ·obtain⟨o',e1⟩:=I.base.there b o e hx;exact⟨o',(hs.2 b (cE (eI (aW e) I.ok.above))).trans e1⟩
  ·by_cases hj:j=i
   ·subst hj;rw[hi]at e1;cases e1;rw[pF GX]at e2;cases e2;exact⟨u,r,.inl ⟨hk,by simp⟩⟩
   ·rw[tM (Ne.symm hj)]at e2;obtain⟨u',r',q⟩:=hl j y v' e1 e2 e3;refine⟨u',r',?_⟩;rcases q with⟨k,e⟩ | ⟨k,c,e,z⟩
    ·refine .inl ⟨k,?_⟩;have:y≠x:=λe=>hj (yk hN e1 (e ▸ hi));simp[this,e]
    ·exact .inr ⟨k,c,e,z.sameBut hs (cne y c e)⟩
  ·obtain⟨w',z⟩:=I.cell y c e;exact⟨w',z.sameBut hs (cne y c e)⟩
  ·obtain⟨e,n,ne,nf,d⟩:=I.pin p hp;exact⟨(hs.2 p.1 ne).trans e,n,ne,nf,d⟩
 ·have QE:X.fn x=true:=by
   rcases hf with z | z
   ·exact z
   ·rw[z]at hk;cases hk
  obtain⟨c,hc⟩:=I.ok.has x (.inl hk);obtain⟨w',z⟩:=I.cell x c hc;refine wpAny_storeName_cell I.ok.kind hk hc z (λh' JG hs=>?_);obtain⟨oc,TZ,hocd⟩:=id z;refine h { s with heap:=h' } ⟨I.ok,I.os,I.bare,⟨λb o e n hb hx=>?_,λb o e n hb hx=>?_,I.base.free,λb o e hx=>?_,I.base.tups,I.base.frzs,I.base.tbls⟩,⟨m,hn.sameBut hs (Ne.symm (cne x c hc)),λj y v' e1 e2 e3=>?_⟩,λy c' e=>?_,I.free,I.freeC,λp hp=>?_,DZ ⟨oc,TZ,I.freeC x c hc⟩ hs,by simpa using I.len⟩ ⟨c,hs,.inr hc⟩
  ·exact(hs.2 b (cE (eI (aW e) (I.ok.cab x c QE hc)))).trans (I.base.keep b o e n hb hx)
  ·obtain⟨sl,e1⟩:=I.base.slot b o e n hb hx;exact⟨sl,(hs.2 b (cE (eI (aW e) (I.ok.cab x c QE hc)))).trans e1⟩
  ·obtain⟨o',e1⟩:=I.base.there b o e hx;exact⟨o',(hs.2 b (cE (eI (aW e) (I.ok.cab x c QE hc)))).trans e1⟩
  ·by_cases hj:j=i
   ·subst hj;rw[hi]at e1;cases e1;rw[pF GX]at e2;cases e2;exact⟨u,r,.inr ⟨.inl hk,c,hc,JG⟩⟩
   ·rw[tM (Ne.symm hj)]at e2;obtain⟨u',r',q⟩:=hl j y v' e1 e2 e3;refine⟨u',r',?_⟩;rcases q with q | ⟨k,c',e,z'⟩
    ·exact .inl q
    ·refine .inr ⟨k,c',e,z'.sameBut hs ?_⟩;intro AC;subst AC;exact hj (yk hN e1 (I.ok.inj _ _ _ e hc ▸ hi))
  ·by_cases UA:c'=c
   ·subst UA;exact⟨_,JG⟩
   ·obtain⟨w2,z2⟩:=I.cell y c' e;exact⟨w2,z2.sameBut hs UA⟩
  ·obtain⟨e,n,ne,nf,d⟩:=I.pin p hp;refine⟨(hs.2 p.1 ?_).trans e,n,ne,nf,d⟩;intro q;rw[q,TZ]at e;have q':oc=p.2:=cZ e;exact d w' (by rw[<-q'];exact hocd)
theorem tm {M:sO}{A:cC}{E:aC->aG->Prop}{i:Nat}{x:Str}{v:V}{u:aC}{Q:Unit->aG->Prop}(I:Inv X f' σ H s)(hN:X.N.Nodup)(hi:X.N[i]?=some x)(hx:Loc X.env.scope x)(r:RelV v u)
  (h:∀s',Inv X f' (σ.set i (some v)) H s'->Q () s') (hf:X.fn x=true\/X.env.scope.names.lookup x=some .local:=by first | exact .inl rfl | exact .inr rfl | assumption):aL M A (yC X.env x u) Q E s:=
 Cf I hN hi hx r (λs' I' _=>h s' I') hf
theorem Inv.call' {s':aG}{ch:List Addr}(I:Inv X f' σ H s)(ho:s'.os=s.os)(u:Un (frs X.stack) ch H H' s.heap s'.heap)(hok:HOk X.prog X.w H' s'.heap)(hg:qG s'.gens)
  (FR:∀b∈ch,(b∈X.ex\/X.s₀.heap.objs.size<=b)/\b≠X.env.locals/\(∀x c,X.env.cells.lookup x=some c->c≠b)/\∀p∈X.pn++f',p.1≠b):Inv X f' σ H' s':=by
 obtain⟨h',g',d',t',o'⟩:=s';have e:o'=s.os:=ho;subst e;exact I.call (g':=g') (t':=t') (d':=d') u hok hg FR
end
abbrev XK:=aC->Option Addr->Hp->Prop
abbrev St:=List (Option V)
abbrev VK:=V->Hp->Prop
abbrev TE:=St->Hp->VK->Prop
abbrev TT:=St->Hp->(Bool->Hp->Prop)->Prop
abbrev TA:=St->Hp->(List V->Hp->Prop)->Prop
structure gg where
 nx:St->Hp->Prop
 rt:VK
 bk:St->Hp->Prop:=λ_ _=>False
 ct:St->Hp->Prop:=λ_ _=>False
abbrev TS:=gg->St->Hp->Prop
def EP (X:Cx)(f':List (Addr×Obj))(σ:St)(Q:VK)(u:aC)(s':aG):Prop:=∃v H',Inv X f' σ H' s'/\RelV v u/\Q v H'
def TP (X:Cx)(f':List (Addr×Obj))(σ:St)(Q:Bool->Hp->Prop)(b:Bool)(s':aG):Prop:=∃H',Inv X f' σ H' s'/\Q b H'
def AP (X:Cx)(f':List (Addr×Obj))(σ:St)(Q:List V->Hp->Prop)(us:List aC)(s':aG):Prop:=∃vs H',Inv X f' σ H' s'/\Vals vs us/\Q vs H'
def SP (X:Cx)(f':List (Addr×Obj))(D:gg)(f:Flow)(s':aG):Prop:=
 match f with
 | .next=>∃σ' H',Inv X f' σ' H' s'/\D.nx σ' H'
 | .brk=>∃σ' H',Inv X f' σ' H' s'/\D.bk σ' H'
 | .cont=>∃σ' H',Inv X f' σ' H' s'/\D.ct σ' H'
 | .ret u=>∃v σ' H',Inv X f' σ' H' s'/\RelV v u/\D.rt v H'
def PE (X:Cx)(e:Expr)(t:TE):Prop:=
 ∀(f':List (Addr×Obj))(s:aG) (σ:St) (H:Hp) (Q:VK),Inv X f' σ H s->t σ H Q->aL (aS X.prog X.w) X.A (eval e X.env) (EP X f' σ Q) X.xe s
def PT (X:Cx)(e:Expr)(t:TT):Prop:=
 ∀(f':List (Addr×Obj))(s:aG) (σ:St) (H:Hp) (Q:Bool->Hp->Prop),Inv X f' σ H s->t σ H Q->aL (aS X.prog X.w) X.A (xB e X.env (eval e X.env)) (TP X f' σ Q) X.xe s
def PW (X:Cx)(e:Expr)(t:TT):Prop:=
 ∀(BF:Sem aC)(f':List (Addr×Obj)) (s:aG) (σ:St) (H:Hp) (Q:Bool->Hp->Prop),Inv X f' σ H s->t σ H Q->aL (aS X.prog X.w) X.A (xB e X.env BF) (TP X f' σ Q) X.xe s
theorem PW.pt {X:Cx}{e:Expr}{t:TT}(h:PW X e t):PT X e t:=h _
def PA (X:Cx)(es:List Expr)(t:TA):Prop:=
 ∀(pos:Pos)(f':List (Addr×Obj)) (s:aG) (σ:St) (H:Hp) (Q:List V->Hp->Prop),Inv X f' σ H s->t σ H Q->aL (aS X.prog X.w) X.A (zZ (jU pos (cJ es X.env))) (AP X f' σ Q) X.xe s
def PS (X:Cx)(st:Stmt)(t:TS):Prop:=
 ∀(f':List (Addr×Obj))(s:aG) (σ:St) (H:Hp) (D:gg),Inv X f' σ H s->t D σ H->aL (aS X.prog X.w) X.A (exec st X.env) (SP X f' D) X.xe s
def PSs (X:Cx)(st:List Stmt)(t:TS):Prop:=
 ∀(f':List (Addr×Obj))(s:aG) (σ:St) (H:Hp) (D:gg),Inv X f' σ H s->t D σ H->aL (aS X.prog X.w) X.A (execs st X.env) (SP X f' D) X.xe s
theorem thn {α:Type}{t:Sem α}{Q Q':α->aG->Prop}{M:sO}{A:cC}{E:aC->aG->Prop}{s:aG}(h:aL M A t Q E s)(hQ:∀a s,Q a s->Q' a s):aL M A t Q' E s:=gB h hQ λ_ _ x=>x
section
variable {X:Cx}
def qq (i:Nat):TE:=λσ H Q=>∃v,σ[i]?=some (some v)/\Q v H
def tC (v:V):TE:=λ_ H Q=>Q v H
theorem L7 {i:Nat}{x:Str}{pos:Pos}(hN:X.N[i]?=some x)(hv:Vis X.env.scope x)(hd:(x == ("__debug__":Str))=false:=by decide)(EL:(x == ("__classdict__":Str))=false:=by decide):PE X (.Name x pos) (qq i):=by
 intro f' s σ H Q I h;obtain⟨v,e,h⟩:=h;obtain⟨m,hn,hl⟩:=I.loc;obtain⟨u,r,l⟩:=hl i x v hN e hv;have AK:EP X f' σ Q u s:=⟨v,H,I,r,h⟩;rcases l with⟨hk,hm⟩ | ⟨hk,c,hc,D'⟩
 ·exact zM (wpAny_loadName_local I.ok.kind hk hn hm AK) hd
 ·rcases hk with hk | hk
  ·exact zM (wpAny_loadName_cell I.ok.kind hk hc D' AK) hd
  ·exact zM (wpAny_loadName_free I.ok.kind hk hc D' AK EL) hd
theorem ah {i j pos}:PE X (.Constant (.int i) j pos) (tC (.int i)):=λ_ _ _ H _ I h=>wpAny_Constant_int ⟨.int i,H,I.tok _,⟨_,rfl⟩,h⟩
theorem m8 {b j pos}:PE X (.Constant (.bool b) j pos) (tC (.bl b)):=λ_ _ _ H _ I h=>Constant_bool ⟨.bl b,H,I,rfl,h⟩
theorem vg {j pos}:PE X (.Constant .none j pos) (tC .non):=λ_ _ _ H _ I h=>Constant_none ⟨.non,H,I,rfl,h⟩
theorem bg {x j pos}:PE X (.Constant (.str x) j pos) (tC (.str x)):=λ_ _ _ H _ I h=>Calls.Constant_str ⟨.str x,H,I.tok _,⟨_,rfl⟩,h⟩
def Gl (X:Cx)(x:Str):Prop:=X.env.kindOf x=some .globalImplicit
theorem j3 {E:aC->aG->Prop}{f':List (Addr×Obj)}{s:aG}{σ:St}{H:Hp}{x:Str}{u:aC}{pos:Pos}{Q:aC->aG->Prop}(I:Inv X f' σ H s)(hg:Gl X x)(hm:X.mg x=some u)(h:Q u s)
  (hd:(x == ("__debug__":Str))=false:=by decide):aL (aS X.prog X.w) X.A (eval (.Name x pos) X.env) Q E s:=
 Calls.Name_function_global I.ok.kind hg (Calls.loadGlobal_global (by rw[I.ok.glob];exact I.mod.glob.keeps I.bk) hm h) hd
theorem iw {E:aC->aG->Prop}{f':List (Addr×Obj)}{s:aG}{σ:St}{H:Hp}{x:Str}{u:aC}{pos:Pos}{Q:aC->aG->Prop}(I:Inv X f' σ H s)(hg:Gl X x)(hm:X.mg x=none)(hv:jK x=some u)(h:Q u s)
  (hn:x≠"__name__":=by decide) (hd:(x == ("__debug__":Str))=false:=by decide):aL (aS X.prog X.w) X.A (eval (.Name x pos) X.env) Q E s:=by
 obtain⟨mb,h1,h2⟩:=I.mod.blt;exact Calls.Name_function_global I.ok.kind hg (Calls.loadGlobal_builtin (by rw[I.ok.glob];exact I.mod.glob.keeps I.bk) hm (by rw[I.ok.blt];exact h1.keeps I.bk) ((h2 x hn).trans hv) h) hd
theorem jd {x:Str}{v:V}{u:aC}{pos:Pos}(hg:Gl X x)(hm:X.mg x=some u)(r:RelV v u)(hd:(x == ("__debug__":Str))=false:=by decide):PE X (.Name x pos) (tC v):=
 λ_ _ _ H _ I h=>j3 I hg hm ⟨v,H,I,r,h⟩ hd
theorem Um {x:Str}{v:V}{u:aC}{pos:Pos}(hg:Gl X x)(hm:X.mg x=none)(hv:jK x=some u)(r:RelV v u)(hn:x≠"__name__":=by decide)(hd:(x == ("__debug__":Str))=false:=by decide):PE X (.Name x pos) (tC v):=
 λ_ _ _ H _ I h=>iw I hg hm hv ⟨v,H,I,r,h⟩ hn hd
variable {a b:Expr}{ta tb:TE}{pos:Pos}
def PC (X:Cx)(op:zN)(a b:Expr)(t:TE):Prop:=
 ∀(f':List (Addr×Obj))(s:aG) (σ:St) (H:Hp) (Q:VK),Inv X f' σ H s->t σ H Q->
  aL (aS X.prog X.w) X.A (eval a X.env) (λv s₁=>aL (aS X.prog X.w) X.A (eval b X.env) (λu s₂=>aL (aS X.prog X.w) X.A (jX op v u) (EP X f' σ Q) X.xe s₂) X.xe s₁) X.xe s
theorem Pl (b:Expr){op:zN}(h:op≠.In)(h2:op≠.NotIn):oO op b=false:=by
 have e1:(op == CmpOp.In)=false:=by cases op<;>first | rfl | exact absurd rfl h
 have e2:(op == CmpOp.NotIn)=false:=by cases op<;>first | rfl | exact absurd rfl h2
 cases b<;>simp[oO,e1,e2]
def tIsN (ta:TE):TE:=λσ H Q=>ta σ H λx H1=>Q (.bl (decide (x=.non))) H1
theorem RelV.none_iff {x:V}{v:aC}(r:RelV x v):(v == iD)=decide (x=.non):=by
 cases x with
 |non=>cases r;rfl
 |bl _=>cases r;rfl
 |int _=>obtain⟨t,rfl⟩:=r;rfl
 |str _=>obtain⟨t,rfl⟩:=r;rfl
 |byt _=>obtain⟨t,rfl⟩:=r;rfl
 |flt _=>obtain⟨t,rfl⟩:=r;rfl
 |ref _=>cases r;rfl
 |ty _=>cases r;rfl
theorem W8 {j BH}(ha:PE X a ta):PC X .Is a (.Constant .none j BH) (tIsN ta):=by
 intro f' s σ H Q I h;refine thn (ha f' s σ H _ I h) λv s1 AD=>?_;obtain⟨x,H1,I1,r1,q1⟩:=AD;exact Constant_none (is_none_gen ⟨.bl _,H1,I1,by rw[r1.none_iff];rfl,q1⟩)
def tB (t:TE):TT:=λσ H Q=>t σ H λx H1=>∃c,x=.bl c/\Q c H1
theorem L8 {op:zN}{t:TE}(h:PC X op a b t)(h1:oO op b=false:=by first | exact Pl _ (by decide) (by decide) | rfl):PT X (.Compare a [op] [b] pos) (tB t):=by
 intro f' s σ H Q I hw;refine wpAny_isTrue_Compare1 (thn (h f' s σ H _ I hw) λv s1 h1=>thn h1 λu s2 h2=>thn h2 λc s3 AD=>?_) h1;obtain⟨x,H1,I1,r1,q1⟩:=AD;obtain⟨d,rfl,q⟩:=q1;cases r1;exact nR ⟨H1,I1,q⟩
theorem nq {e:Expr}{t:TE}(h:PE X e t)(he:∀BF,xB e X.env BF=(do let v <-BF;vL e.pos;rE [v] (truthy v)):=by intro _;rfl):PT X e (tB t):=by
 intro f' s σ H Q I hw;refine isTrue_plain (thn (h f' s σ H _ I hw) λv s1 AD=>?_) (he _);obtain⟨x,H1,I1,r1,q1⟩:=AD;obtain⟨d,rfl,q⟩:=q1;cases r1;exact nR ⟨H1,I1,q⟩
variable {tA OI:TT}{rest:List Expr}
def tAnd (t u:TT):TT:=λσ H Q=>t σ H λc H1=>if c=true then u σ H1 Q else Q false H1
def tOr (t u:TT):TT:=λσ H Q=>t σ H λc H1=>if c=true then Q true H1 else u σ H1 Q
def tNot (t:TT):TT:=λσ H Q=>t σ H λc H1=>Q (!c) H1
theorem xk (ha:PT X a tA):PW X (.BoolOp .And [a] pos) tA:=by
 intro wh f' s σ H Q I h;refine isTrue_and (thn (ha f' s σ H Q I h) λc s1 e=>?_);cases c with
 |true=>exact isTrue_and_nil e
 |false=>exact e
theorem D0 (ha:PT X a tA):PW X (.BoolOp .Or [a] pos) tA:=by
 intro wh f' s σ H Q I h;refine isTrue_or (thn (ha f' s σ H Q I h) λc s1 e=>?_);cases c with
 |false=>exact isTrue_or_nil e
 |true=>exact e
theorem vh (ha:PT X a tA)(hb:PW X (.BoolOp .And (b::rest) pos) OI):PW X (.BoolOp .And (a::b::rest) pos) (tAnd tA OI):=by
 intro wh f' s σ H Q I h;refine isTrue_and (thn (ha f' s σ H _ I h) λc s1 AD=>?_);obtain⟨H1,I1,q1⟩:=AD;cases c with
 |true=>exact hb wh f' s1 σ H1 Q I1 q1
 |false=>exact⟨H1,I1,q1⟩
theorem Jv (ha:PT X a tA)(hb:PW X (.BoolOp .Or (b::rest) pos) OI):PW X (.BoolOp .Or (a::b::rest) pos) (tOr tA OI):=by
 intro wh f' s σ H Q I h;refine isTrue_or (thn (ha f' s σ H _ I h) λc s1 AD=>?_);obtain⟨H1,I1,q1⟩:=AD;cases c with
 |true=>exact⟨H1,I1,q1⟩
 |false=>exact hb wh f' s1 σ H1 Q I1 q1
theorem D1 (ha:PT X a tA):PT X (.UnaryOp .Not a pos) (tNot tA):=by
 intro f' s σ H Q I h;exact isTrue_not (ha f' s σ H (λc H1=>Q (!c) H1) I h)
def Su (ta tb:TE):TE:=λσ H Q=>ta σ H λx H1=>∃c,x=.bl c/\if c=true then tb σ H1 Q else Q (.bl false) H1
theorem L9 {op}{t:TE}(h:PE X a t):PE X (.BoolOp op [a] pos) t:=λf' s σ H Q I hw=>BoolOp_one (h f' s σ H Q I hw)
theorem Ma (ha:PE X a ta)(hb:PE X (.BoolOp .And (b::rest) pos) tb):PE X (.BoolOp .And (a::b::rest) pos) (Su ta tb):=by
 intro f' s σ H Q I h;refine BoolOp_and (thn (ha f' s σ H _ I h) λv s1 AD=>?_);obtain⟨x,H1,I1,r1,q1⟩:=AD;obtain⟨c,rfl,q1⟩:=q1;cases r1;refine nR ?_;cases c with
 |true=>exact hb f' s1 σ H1 Q I1 q1
 |false=>exact⟨.bl false,H1,I1,rfl,q1⟩
def tIf (t:TT)(ta tb:TE):TE:=λσ H Q=>t σ H λc H1=>if c=true then ta σ H1 Q else tb σ H1 Q
theorem pf {c:Expr}(hc:PT X c tA)(ha:PE X a ta)(hb:PE X b tb):PE X (.IfExp c a b pos) (tIf tA ta tb):=by
 intro f' s σ H Q I h;refine wpAny_IfExp (thn (hc f' s σ H _ I h) λd s1 AD=>?_);obtain⟨H1,I1,q1⟩:=AD;cases d with
 |true=>exact ha f' s1 σ H1 Q I1 q1
 |false=>exact hb f' s1 σ H1 Q I1 q1
end
def SqL (K:aB)(H:Hp)(a:Addr)(xs:List V):Prop:=
 Rd H a (.lst xs)\/
  ∃(o:Obj)(its:Array aC) (n:Nat),K.lookup a=some o/\o.cls=.type "list"/\o.dict=none/\o.data=.seq its n/\its.size<=sizeLine/\Vals xs its.toList
def SqT (K:aB)(H:Hp)(a:Addr)(xs:List V):Prop:=
 Rd H a (.tup xs)\/
  ∃(o:Obj)(its:Array aC) (n:Nat),K.lookup a=some o/\o.cls=.type "tuple"/\o.data=.seq its n/\its.size<=sizeLine/\Vals xs its.toList
def absV:aC->Option V
 | .none=>some .non
 | .bool b=>some (.bl b)
 | .int i _=>some (.int i)
 | .str x _=>some (.str x)
 | .bytes b _=>some (.byt b)
 | .float b _=>some (.flt b)
 | .ref a=>some (.ref a)
 | .type n=>some (.ty n)
 |_=>none
theorem RelV.abs {x:V}{u:aC}(r:RelV x u):absV u=some x:=by
 cases x with
 |non=>cases r;rfl
 |bl _=>cases r;rfl
 |int _=>obtain⟨t,rfl⟩:=r;rfl
 |str _=>obtain⟨t,rfl⟩:=r;rfl
 |byt _=>obtain⟨t,rfl⟩:=r;rfl
 |flt _=>obtain⟨t,rfl⟩:=r;rfl
 |ref _=>cases r;rfl
 |ty _=>cases r;rfl
theorem RelV.inj {x y:V}{u:aC}(r:RelV x u)(q:RelV y u):x=y:=cZ (r.abs.symm.trans q.abs)
theorem Vals.inj:∀{xs ys:List V}{us:List aC},Vals xs us->Vals ys us->xs=ys
 |_,_,_,.nil,.nil=>rfl
 |_,_,_,.cons r t,.cons r' t'=>by rw[r.inj r',Vals.inj t t']
section
variable {X:Cx}{f':List (Addr×Obj)}{σ:St}{H:Hp}{s:aG}{a:Addr}{xs ys:List V}
theorem SqL.of {K:aB}(h:H a=some (.lst xs)):SqL K H a xs:=.inl (.inl h)
theorem SqT.of {K:aB}(h:H a=some (.tup xs)):SqT K H a xs:=.inl (.inl h)
theorem Inv.list (I:Inv X f' σ H s)(h:SqL X.K H a xs):∃its:List aC,Vals xs its/\PlainL s.heap a its.toArray/\xs.length<=sizeLine:=by
 rcases h with h | ⟨o,its,n,hk,hc,hd,hs,hz,r⟩
 ·obtain⟨z,its,n,r,e⟩:=h.ok I.hok;exact⟨its,r,⟨_,n,e,rfl,rfl,rfl⟩,z⟩
 ·refine⟨its.toList,r,⟨o,n,I.kIn a o hk,hc,hd,by simpa using hs⟩,?_⟩;have e:=r.length;simp only[gH]at e;lia
theorem Inv.tuple (I:Inv X f' σ H s)(h:SqT X.K H a xs):∃its:List aC,Vals xs its/\zJ s.heap a its.toArray/\xs.length<=sizeLine:=by
 rcases h with h | ⟨o,its,n,hk,hc,hs,hz,r⟩
 ·obtain⟨z,its,r,p⟩:=h.ok I.hok;exact⟨its,r,p,z⟩
 ·refine⟨its.toList,r,⟨o,I.kIn a o hk,hc,n,by simpa using hs⟩,?_⟩;have e:=r.length;simp only[gH]at e;lia
theorem Inv.list_inj (I:Inv X f' σ H s)(h:SqL X.K H a xs)(h':SqL X.K H a ys):xs=ys:=by
 obtain⟨its,r,⟨o,n,e,_,_,d⟩,_⟩:=I.list h;obtain⟨its',r',⟨o',n',e',_,_,d'⟩,_⟩:=I.list h';rw[e]at e';cases e';rw[d]at d';injection d' with d1 _;have:its=its':=(by simpa using congrArg Array.toList d1);subst this;exact r.inj r'
theorem Inv.tuple_inj (I:Inv X f' σ H s)(h:SqT X.K H a xs)(h':SqT X.K H a ys):xs=ys:=by
 obtain⟨its,r,⟨o,e,_,n,d⟩,_⟩:=I.tuple h;obtain⟨its',r',⟨o',e',_,n',d'⟩,_⟩:=I.tuple h';rw[e]at e';cases e';rw[d]at d';injection d' with d1 _;have:its=its':=(by simpa using congrArg Array.toList d1);subst this;exact r.inj r'
end
abbrev Cx.wish (X:Cx)(E:aC->aG->Prop):Cx:={ X with xe:=E }
abbrev Cx.nox (X:Cx):Cx:=X.wish λ_ _=>False
theorem Cx.Ok.wish {X:Cx}(ok:X.Ok)(E:aC->aG->Prop):(X.wish E).Ok:=
 ⟨ok.mod,ok.kind,ok.glob,ok.blt,ok.above,ok.inj,ok.has,ok.cab,ok.hd,ok.frames,ok.stk,ok.exf,ok.bs,ok.bsz,ok.noex,ok.exfs,ok.funs,ok.frf⟩
theorem Cx.Ok.unwish {X:Cx}{E:aC->aG->Prop}(ok:(X.wish E).Ok):X.Ok:=
 ⟨ok.mod,ok.kind,ok.glob,ok.blt,ok.above,ok.inj,ok.has,ok.cab,ok.hd,ok.frames,ok.stk,ok.exf,ok.bs,ok.bsz,ok.noex,ok.exfs,ok.funs,ok.frf⟩
section
variable {X:Cx}{f':List (Addr×Obj)}{σ:St}{H:Hp}{s:aG}{E:aC->aG->Prop}
theorem Inv.wish (I:Inv X f' σ H s)(E:aC->aG->Prop):Inv (X.wish E) f' σ H s:=⟨I.ok.wish E,I.os,I.bare,I.base,I.loc,I.cell,I.free,I.freeC,I.pin,I.hok,I.len⟩
theorem Inv.unwish (I:Inv (X.wish E) f' σ H s):Inv X f' σ H s:=⟨I.ok.unwish,I.os,I.bare,I.base,I.loc,I.cell,I.free,I.freeC,I.pin,I.hok,I.len⟩
theorem SP.unwish {D:gg}{f:Flow}{s':aG}(h:SP (X.wish E) f' D f s'):SP X f' D f s':=by
 cases f with
 |next=>obtain⟨σ',H',I,q⟩:=h;exact⟨σ',H',I.unwish,q⟩
 |brk=>obtain⟨σ',H',I,q⟩:=h;exact⟨σ',H',I.unwish,q⟩
 |cont=>obtain⟨σ',H',I,q⟩:=h;exact⟨σ',H',I.unwish,q⟩
 |ret u=>obtain⟨v,σ',H',I,r,q⟩:=h;exact⟨v,σ',H',I.unwish,r,q⟩
theorem PSs.nox {st:List Stmt}{t:TS}(h:PSs X.nox st t):PSs X st t:=λf' s σ H D I hw=>
 gB (h f' s σ H D (I.wish _) hw) (λ_ _ q=>q.unwish) λ_ _ z=>iG z
end
section
variable {X:Cx}{st:Stmt}{rest:List Stmt}{t u:TS}{e:Expr}{te:TE}{pos:Pos}
def zx:TS:=λD σ H=>D.nx σ H
def W9 (t u:TS):TS:=λD σ H=>t { D with nx:=u D } σ H
theorem cf:PSs X [] zx:=λ_ _ σ H _ I h=>qK ⟨σ,H,I,h⟩
theorem ai (h1:PS X st t)(h2:PSs X rest u):PSs X (st::rest) (W9 t u):=by
 intro f' s σ H D I h;refine wpAny_execs_cons (thn (h1 f' s σ H { D with nx:=u D } I h) λf s1 q=>?_);cases f with
 |next=>
  obtain⟨σ',H',I',q⟩:=q;exact h2 f' s1 σ' H' D I' q
 |ret v=>exact q
 |brk=>exact q
 |cont=>exact q
theorem ak (h1:PS X st t):PSs X [st] t:=by
 intro f' s σ H D I h;refine wpAny_execs_cons (thn (h1 f' s σ H D I h) λf s1 q=>?_);cases f with
 |next=>exact qK q
 |ret v=>exact q
 |brk=>exact q
 |cont=>exact q
theorem Inv.quiet {f':List (Addr×Obj)}{σ:St}{H:Hp}{s:aG}(I:Inv X f' σ H s):interactive X.env=false:=by simp[interactive,I.ok.kind]
def Zc (te:TE):TS:=λD σ H=>te σ H λ_ H1=>D.nx σ H1
theorem df (he:PE X e te)(hs:qU e none pos.line X.env=pure false:=by rfl):PS X (.Expr e pos) (Zc te):=by
 intro f' s σ H D I h;exact wpAny_Expr_any (thn (he f' s σ H _ I h) λv s1 AD=>by obtain⟨x,H1,I1,r1,q1⟩:=AD;exact⟨σ,H1,I1,q1⟩) I.quiet hs
def tRet (te:TE):TS:=λD σ H=>te σ H D.rt
theorem az (he:PE X e te):PS X (.Return (some e) pos) (tRet te):=by
 intro f' s σ H D I h;exact wpAny_Return_some (thn (he f' s σ H _ I h) λv s1 AD=>by obtain⟨x,H1,I1,r1,q1⟩:=AD;exact⟨x,σ,H1,I1,r1,q1⟩)
def Pm (c:TT)(t u:TS):TS:=λD σ H=>c σ H λb H1=>if b=true then t D σ H1 else u D σ H1
theorem de {c:Expr}{a b:List Stmt}{tc:TT}(hc:PT X c tc)(ha:PSs X a t)(hb:PSs X b u):PS X (.If c a b pos) (Pm tc t u):=by
 intro f' s σ H D I h;refine wpAny_If (thn (hc f' s σ H _ I h) λd s1 AD=>?_);obtain⟨H1,I1,q1⟩:=AD;cases d with
 |true=>exact ha f' s1 σ H1 D I1 q1
 |false=>exact hb f' s1 σ H1 D I1 q1
end
abbrev TG:=V->St->Hp->(St->Hp->Prop)->Prop
abbrev TGs:=List V->St->Hp->(St->Hp->Prop)->Prop
def PG (X:Cx)(target:Expr)(t:TG):Prop:=
 ∀(f':List (Addr×Obj))(s:aG) (σ:St) (H:Hp) (v:V) (u:aC) (Q:St->Hp->Prop),Inv X f' σ H s->RelV v u->t v σ H Q->
  aL (aS X.prog X.w) X.A (uO target X.env u) (λ_ s'=>∃σ' H',Inv X f' σ' H' s'/\Q σ' H') X.xe s
def PGs (X:Cx)(ts:List Expr)(t:TGs):Prop:=
 ∀(f':List (Addr×Obj))(s:aG) (σ:St) (H:Hp) (vs:List V) (us:List aC) (Q:St->Hp->Prop),Inv X f' σ H s->Vals vs us->t vs σ H Q->
  aL (aS X.prog X.w) X.A (assignInOrder ((pP ts X.env).map (·.2)) us) (λ_ s'=>∃σ' H',Inv X f' σ' H' s'/\Q σ' H') X.xe s
abbrev Jw:=V->V->V->Hp->(Hp->Prop)->Prop
def Xa (X:Cx)(t:Jw):Prop:=
 ∀(f':List (Addr×Obj))(s:aG) (σ:St) (H:Hp) (o i v:V) (ov iv u:aC) (Q:Hp->Prop),Inv X f' σ H s->RelV o ov->RelV i iv->RelV v u->t o i v H Q->
  aL (aS X.prog X.w) X.A (setItem ov iv u) (λ_ s'=>∃H',Inv X f' σ H' s'/\Q H') X.xe s
abbrev TIp:=V->V->Hp->VK->Prop
def PIp (X:Cx)(op:Operator)(t:TIp):Prop:=
 ∀(f':List (Addr×Obj))(s:aG) (σ:St) (H:Hp) (x y:V) (v u:aC) (Q:VK),Inv X f' σ H s->RelV x v->RelV y u->t x y H Q->
  aL (aS X.prog X.w) X.A (yD op v u) (EP X f' σ Q) X.xe s
section
variable {X:Cx}{pos:Pos}
def ox (i:Nat):TG:=λv σ H Q=>Q (σ.set i (some v)) H
theorem bo {i:Nat}{x:Str}(hN:X.N.Nodup)(hi:X.N[i]?=some x)(hx:Loc X.env.scope x)(hf:X.fn x=true\/X.env.scope.names.lookup x=some .local:=by first | exact .inl rfl | exact .inr rfl | assumption):PG X (.Name x pos) (ox i):=by
 intro f' s σ H v u Q I r h;exact wpAny_assign_Name (tm I hN hi hx r (λs' I'=>⟨_,H,I',h⟩) hf)
def Xb:TGs:=λvs σ H Q=>vs=[]/\Q σ H
def Jx (t:TG)(u:TGs):TGs:=λvs σ H Q=>∃v r,vs=v::r/\t v σ H λσ' H'=>u r σ' H' Q
theorem lh:PGs X [] Xb:=by
 intro f' s σ H vs us Q I r h;obtain⟨e,h⟩:=h;subst e;cases r;exact assignInOrder_nil ⟨σ,H,I,h⟩
theorem e8 {e:Expr}{es:List Expr}{t:TG}{u:TGs}(h1:PG X e t)(h2:PGs X es u)
  (hs:(pP (e::es) X.env).map (·.2)=uO e X.env::(pP es X.env).map (·.2):=by rfl):PGs X (e::es) (Jx t u):=by
 intro f' s σ H vs us Q I r h;obtain⟨v,vr,e1,h⟩:=h;subst e1;cases r with
 |cons r rr=>
  rw[hs];refine assignInOrder_cons (thn (h1 f' s σ H _ _ _ I r h) λ_ s1 AD=>?_);obtain⟨σ1,H1,I1,q1⟩:=AD;exact h2 f' s1 σ1 H1 _ _ Q I1 rr q1
def Xc (K:aB)(n:Nat)(t:TGs):TG:=λv σ H Q=>∃a xs,v=.ref a/\SqT K H a xs/\xs.length=n/\t xs σ H Q
theorem vi {es:List Expr}{k:Nat}{t:TGs}{n:Nat}(hc:X.calm=true)(h:PGs X es t)
  (hn:(pP es X.env).length=n:=by rfl) (CZ:(pP es X.env).findIdx? (·.1)=none:=by rfl):PG X (.Tuple es k pos) (Xc X.K n t):=by
 intro f' s σ H v u Q I r hw;obtain⟨a,xs,e1,hq,hl,hw⟩:=hw;subst e1;cases r;obtain⟨its,rv,ht,hz⟩:=I.tuple hq;refine assign_Tuple_tuple (I.ok.hd hc) ht (by simp[hn,<-hl,rv.length]) CZ λh' hx=>?_;have I1:Inv X f' σ H { s with heap:=h' }:=I.kept (t':=s.toks) λb o e=>hx b o (cE (aW e)) e;exact h f' _ σ H xs _ Q I1 (by simpa using rv) hw
def gSub (to ti:TE)(t:Jw):TG:=λv σ H Q=>to σ H λo H1=>ti σ H1 λi H2=>t o i v H2 λH3=>Q σ H3
theorem Mb {o i:Expr}{to ti:TE}{t:Jw}(ho:PE X o to)(hi:PE X i ti)(hs:Xa X t)
  (ha:∀v,uO (.Subscript o i pos) X.env v=(do
    let ov <-rE [v] (eval o X.env)
    let iv <-rE [v,ov] (eval i X.env)
    vL pos
    rE [v,ov,iv] (setItem ov iv v)
    release [v,ov,iv] []):=by intro _;rfl):PG X (.Subscript o i pos) (gSub to ti t):=by
 intro f' s σ H v u Q I r h;rw[ha];refine aA (hZ (thn (ho f' s σ H _ I h) λov s1 AD=>?_));obtain⟨x,H1,I1,r1,q1⟩:=AD;refine aA (hZ (thn (hi f' s1 σ H1 _ I1 q1) λiv s2 AD=>?_));obtain⟨y,H2,I2,r2,q2⟩:=AD;refine aA (nN (aA (hZ (thn (hs f' s2 σ H2 x y v ov iv u _ I2 r1 r2 r q2) λ_ s3 AD=>?_))));obtain⟨H3,I3,q3⟩:=AD;exact wpAny_release ⟨σ,H3,I3,q3⟩
def Xd (te:TE)(g:TG):TS:=λD σ H=>te σ H λx H1=>g x σ H1 D.nx
theorem vj {tg e:Expr}{te:TE}{g:TG}(he:PE X e te)(hg:PG X tg g)(hs:swapsWithSole [tg] e pos.line X.env=pure false:=by rfl)(hw:swappedStores [tg] e X.env=pure none:=by rfl)
  (h1:(pP [tg] X.env).map (·.2)=[uO tg X.env]:=by rfl):PS X (.Assign [tg] e pos) (Xd te g):=by
 intro f' s σ H D I h;refine wpAny_Assign_stores (thn (he f' s σ H _ I h) λv s1 AD=>?_) hs hw;obtain⟨x,H1,I1,r1,q1⟩:=AD;rw[h1];exact thn (hg f' s1 σ H1 x v _ I1 r1 q1) λ_ s2 q=>q
theorem bf {i:Nat}{x:Str}{e:Expr}{te:TE}{BH:Pos}(hN:X.N.Nodup)(hi:X.N[i]?=some x)(hx:Loc X.env.scope x)(he:PE X e te)(hs:qU e (some (.Name x BH)) pos.line X.env=pure false:=by rfl)(hf:X.fn x=true\/X.env.scope.names.lookup x=some .local:=by first | exact .inl rfl | exact .inr rfl | assumption) :
  PS X (.Assign [.Name x BH] e pos) (Xd te (ox i)):=by
 intro f' s σ H D I h;refine wpAny_Assign_Name (thn (he f' s σ H _ I h) λv s1 AD=>?_) hs;obtain⟨y,H1,I1,r1,q1⟩:=AD;exact tm I1 hN hi hx r1 (λs2 I2=>⟨_,H1,I2,q1⟩) hf
def tAug (i:Nat)(te:TE)(ti:TIp):TS:=λD σ H=>∃x,σ[i]?=some (some x)/\te σ H λy H1=>ti x y H1 λz H2=>D.nx (σ.set i (some z)) H2
theorem Mc {i:Nat}{x:Str}{e:Expr}{te:TE}{op:Operator}{ti:TIp}{BH:Pos}(hN:X.N.Nodup)(hi:X.N[i]?=some x)(hx:Loc X.env.scope x)(he:PE X e te)(ho:PIp X op ti)(hf:X.fn x=true\/X.env.scope.names.lookup x=some .local:=by first | exact .inl rfl | exact .inr rfl | assumption) :
  PS X (.AugAssign (.Name x BH) op e pos) (tAug i te ti):=by
 intro f' s σ H D I h;obtain⟨v,e1,h⟩:=h;obtain⟨m,hn,hl⟩:=I.loc;have vis:Vis X.env.scope x:=(by rcases hx with k | k;exact .inl k;exact .inr (.inl k));obtain⟨u,r,l⟩:=hl i x v hi e1 vis;refine wpAny_AugAssign_Name ?_;have go:aL (aS X.prog X.w) X.A (eval e X.env) (λw s₂=>aL (aS X.prog X.w) X.A (yD op u w) (λr s₃=>aL (aS X.prog X.w) X.A (yC X.env x r) (λ_=>SP X f' D .next) X.xe s₃) X.xe s₂) X.xe s:=by
  refine thn (he f' s σ H _ I h) λw s1 AD=>?_;obtain⟨y,H1,I1,r1,q1⟩:=AD;refine thn (ho f' s1 σ H1 v y u w _ I1 r r1 q1) λz s2 AD=>?_;obtain⟨zv,H2,I2,r2,q2⟩:=AD;exact tm I2 hN hi hx r2 (λs3 I3=>⟨_,H2,I3,q2⟩) hf
 rcases l with⟨hk,hm⟩ | ⟨hk,c,hc,D'⟩
 ·exact wpAny_loadName_local I.ok.kind hk hn hm go
 ·rcases hk with hk | hk
  ·exact wpAny_loadName_cell I.ok.kind hk hc D' go
  ·rcases hx with k | k
   ·have:X.env.scope.names.lookup x=some .free:=hk;rw[k]at this;cases this
   ·have:X.env.scope.names.lookup x=some .free:=hk;rw[k]at this;cases this
def Xe (c:TT)(tb:TS):TS:=λD σ H=>∃W:Nat->St->Hp->Prop,(∃m,W m σ H)/\∀m σ H,W m σ H->
 c σ H λb H1=>if b=true then ∃N:St->Hp->Prop,(∀σ' H',N σ' H'->∃m',m' < m/\W m' σ' H')/\tb { D with nx:=N,ct:=N,bk:=D.nx } σ H1 else D.nx σ H1
theorem tq {c:Expr}{body:List Stmt}{tc:TT}{tb:TS}(hp:PassesOwn (aS X.prog X.w) X.A X.env X.xe)(hc:PT X c tc)(hb:PSs X body tb):PS X (.While c body [] pos) (Xe tc tb):=by
 intro f' s σ H D I h;obtain⟨W,⟨m0,w0⟩,CM⟩:=h;refine wpAny_While (codeAny_whileLoop (λn s'=>∃σ' H',Inv X f' σ' H' s'/\W n σ' H') ?_ m0 ⟨σ,H,I,w0⟩);intro n s1 AC;obtain⟨σ1,H1,I1,w1⟩:=AC;refine nG hp (thn (hc f' s1 σ1 H1 _ I1 (CM n σ1 H1 w1)) λb s2 AD=>?_);obtain⟨H2,I2,q2⟩:=AD;cases b with
 |true=>
  obtain⟨N,hN,q2⟩:=q2;rw[if_pos rfl];refine nG hp (thn (hb f' s2 σ1 H2 _ I2 q2) λf s3 q3=>?_);cases f with
  |next=>
   obtain⟨σ3,H3,I3,n3⟩:=q3;obtain⟨m',hm,w3⟩:=hN σ3 H3 n3;exact⟨m',hm,σ3,H3,I3,w3⟩
  |cont=>
   obtain⟨σ3,H3,I3,n3⟩:=q3;obtain⟨m',hm,w3⟩:=hN σ3 H3 n3;exact⟨m',hm,σ3,H3,I3,w3⟩
  |brk=>exact q3
  |ret v=>exact q3
 |false=>
  rw[if_neg bX];exact qK ⟨σ1,H2,I2,q2⟩
end
structure It where
 go:Nat->Hp->Prop
 yld:Nat->Hp->V->Hp->Prop
 stop:Nat->Hp->Prop
def ij (X:Cx)(f':List (Addr×Obj))(H:Hp)(b:Addr):Prop:=
 H b=none/\b≠X.env.locals/\b ∉ X.fs/\(b∈X.ex\/X.s₀.heap.objs.size<=b)/\(∀x c,X.env.cells.lookup x=some c->c≠b)/\∀p∈X.pn++f',p.1≠b
theorem Inv.fpOk {X:Cx}{f':List (Addr×Obj)}{σ:St}{H H':Hp}{s:aG}{b:Addr}(I:Inv X f' σ H s)(hb:s.heap.objs.size<=b)(hn:H' b=none):ij X f' H' b:=by
 refine⟨hn,gJ (eI I.lt hb),I.nofs hb,.inr (cH I.sz hb),λx c e z=>?_,λp hp z=>?_⟩
 ·obtain⟨v,q⟩:=I.cell x c e;exact absurd (eI q.lt (by rw[z];exact hb)) (kZ _)
 ·exact absurd (eI (aW (I.pin p hp).1) (by rw[z];exact hb)) (kZ _)
structure qr (P:aU)(w:aZ)(K:aB)(tg:Expr)(J:It)(fp:List Addr)(it:Addr)(tn:Nat->Heap->Prop):Prop where
 mem:it∈fp
 obj:∀i h,tn i h->∀b∈fp,∃o,h.get? b=some o/\∀v,o.data≠.cell v
 keep:∀i h h',tn i h->(∀b∈fp,∀o,h.get? b=some o->h'.get? b=some o)->tn i h'
 item:∀(X:Cx),X.prog=P->X.w=w->X.K=K->X.calm=true->∀(i:Nat)(f':List (Addr×Obj)) (s:aG) (σ:St) (H:Hp) (E:aC->aG->Prop),Inv X f' σ H s->(∀b∈fp,ij X f' H b)->tn i s.heap->J.go i H->
  aL (aS P w) X.A (jL (.ref it)) (λr s1=>∃u,r=some u/\aL (aS P w) X.A (tO tg (.ref it) u) (λ_ s2=>∃x H',Inv X f' σ H' s2/\RelV x u/\J.yld i H x H'/\tn (i+1) s2.heap/\∀b∈fp,H' b=none) E s1) E s
 done:∀(X:Cx),X.prog=P->X.w=w->X.K=K->X.calm=true->∀(i:Nat)(f':List (Addr×Obj)) (s:aG) (σ:St) (H:Hp) (E:aC->aG->Prop),Inv X f' σ H s->(∀b∈fp,ij X f' H b)->tn i s.heap->J.stop i H->
  aL (aS P w) X.A (jL (.ref it)) (λr s1=>r=none/\Inv X f' σ H s1) E s
 self:∀(A:cC)(i:Nat) (s:aG) (Q:aC->aG->Prop) (E:aC->aG->Prop),tn i s.heap->Q (.ref it) s->aL (aS P w) A (zO (.ref it)) Q E s
abbrev TI:=St->Hp->(It->Hp->Prop)->Prop
def PIE (X:Cx)(f':List (Addr×Obj))(σ:St)(tg:Expr)(R:It->Hp->Prop)(OJ:aC)(s2:aG):Prop:=
 ∃(it:Addr)(fp:List Addr) (tn:Nat->Heap->Prop) (J:It) (H':Hp),OJ=.ref it/\Inv X f' σ H' s2/\qr X.prog X.w X.K tg J fp it tn/\tn 0 s2.heap/\(∀b∈fp,ij X f' H' b)/\R J H'
def PI (X:Cx)(tg iter:Expr)(wi:TI):Prop:=
 ∀(f':List (Addr×Obj))(s:aG) (σ:St) (H:Hp) (R:It->Hp->Prop),Inv X f' σ H s->wi σ H R->
  aL (aS X.prog X.w) X.A (eval iter X.env) (λv s1=>aL (aS X.prog X.w) X.A (zO v) (PIE X f' σ tg R) X.xe s1) X.xe s
theorem zy {M:sO}{A:cC}{E:aC->aG->Prop}{s:aG}{tg:Expr}{it:Addr}{u:aC}{o:Obj}{n:String}{vs:Array aC}{Q:Unit->aG->Prop}(ho:s.heap.get? it=some o)(hc:o.cls=.type n)(hd:o.data=.fields vs)
  (hn:["enumerate","zip","dict_itemiterator","dict_reverseitemiterator","odict_iterator","itertools.zip_longest","itertools.pairwise"].contains n=false) (hQ:Q () s):aL M A (tO tg (.ref it) u) Q E s:=by
 unfold tO;cases tg<;>first
  |exact wpAny_pure hQ
  | (cases u<;>first
      |exact wpAny_pure hQ
      | (refine aA (wpAny_load ho ?_)
         rw[hc,hd];show aL M A (if (["enumerate","zip","dict_itemiterator","dict_reverseitemiterator","odict_iterator","itertools.zip_longest","itertools.pairwise"].contains n && vs[0]? == some (iU _))=true then _ else _) Q E s
         rw[if_neg (by intro h;rw[hn,Bool.false_and]at h;cases h)];exact wpAny_pure hQ))
def Itl (K:aB)(a:Addr):It:=
 ⟨λi H=>∃xs x,SqL K H a xs/\xs[i]?=some x,λi H x H'=>H'=H/\∀xs,SqL K H a xs->xs[i]?=some x,λi H=>∃xs,SqL K H a xs/\xs.length<=i⟩
def Itt (K:aB)(a:Addr):It:=
 ⟨λi H=>∃xs x,SqT K H a xs/\xs[i]?=some x,λi H x H'=>H'=H/\∀xs,SqT K H a xs->xs[i]?=some x,λi H=>∃xs,SqT K H a xs/\xs.length<=i⟩
def Itr (lo:Int)(n:Nat):It:=⟨λi _=>i < n,λi H x H'=>H'=H/\x=.int (lo+i),λi _=>n<=i⟩
theorem Md {P:aU}{w:aZ}{K:aB}{tg:Expr}(a it:Addr):qr P w K tg (Itl K a) [it] it (λi h=>h.IsListIter it a i) where
 mem:=by simp
 obj:=λi h st b hb=>by
  have e:b=it:=(by simpa using hb);subst e;obtain⟨o,e,c,d⟩:=st;exact⟨o,e,λv z=>by rw[d]at z;cases z⟩
 keep:=λi h h' st k=>st.at λo e=>k it (by simp) o e
 item:=by
  intro X hP hw hK hc i f' s σ H E I hf st hg;subst hP hw hK;obtain⟨xs,x,hq,hx⟩:=hg;obtain⟨its,rv,p,hz⟩:=I.list hq;obtain⟨u,hu,ru⟩:=rv.get hx;obtain⟨f0,f1,f2,f3,f4,f5⟩:=hf it (by simp);refine wpAny_pyNext_list_item st p.isList (x:=u) (by simpa using hu) λh' CI sb=>?_;have I1:Inv X f' σ H { s with heap:=h' }:=I.turned (t':=s.toks) (λb o hb e=>(sb.2 b hb).trans e) f0 f1 f3 f4 f5;obtain⟨o,e,c,d⟩:=id CI;exact⟨u,rfl,zy (s:={ s with heap:=h' }) e c d (by decide) ⟨x,H,I1,ru,⟨rfl,λys hy=>by rw[I.list_inj hy hq];exact hx⟩,CI,λb hb=>(hf b hb).1⟩⟩
 done:=by
  intro X hP hw hK hc i f' s σ H E I hf st hg;subst hP hw hK;obtain⟨xs,hq,hx⟩:=hg;obtain⟨its,rv,p,hz⟩:=I.list hq;obtain⟨f0,f1,f2,f3,f4,f5⟩:=hf it (by simp);have hl:=rv.length;exact wpAny_pyNext_list_end (I.ok.hd hc) st p.isList (by simp;lia) λh' eb=>⟨rfl,I.turned (t':=s.toks) (λb o hb e=>eb b o hb e) f0 f1 f3 f4 f5⟩
 self:=λ_ _ _ _ _ st h=>wpAny_pyIter_listiter st h
theorem Jy {P:aU}{w:aZ}{K:aB}{tg:Expr}(a it:Addr):qr P w K tg (Itt K a) [it] it (λi h=>h.IsTupleIter it a i) where
 mem:=by simp
 obj:=λi h st b hb=>by
  have e:b=it:=(by simpa using hb);subst e;obtain⟨o,e,c,d⟩:=st;exact⟨o,e,λv z=>by rw[d]at z;cases z⟩
 keep:=λi h h' st k=>st.at λo e=>k it (by simp) o e
 item:=by
  intro X hP hw hK hc i f' s σ H E I hf st hg;subst hP hw hK;obtain⟨xs,x,hq,hx⟩:=hg;obtain⟨its,rv,p,hz⟩:=I.tuple hq;obtain⟨u,hu,ru⟩:=rv.get hx;obtain⟨f0,f1,f2,f3,f4,f5⟩:=hf it (by simp);refine wpAny_pyNext_tuple_item st (show s.heap.IsTuple a its.toArray from p) (x:=u) (by simpa using hu) λh' CI sb=>?_;have I1:Inv X f' σ H { s with heap:=h' }:=I.turned (t':=s.toks) (λb o hb e=>(sb.2 b hb).trans e) f0 f1 f3 f4 f5;obtain⟨o,e,c,d⟩:=id CI;exact⟨u,rfl,zy (s:={ s with heap:=h' }) e c d (by decide) ⟨x,H,I1,ru,⟨rfl,λys hy=>by rw[I.tuple_inj hy hq];exact hx⟩,CI,λb hb=>(hf b hb).1⟩⟩
 done:=by
  intro X hP hw hK hc i f' s σ H E I hf st hg;subst hP hw hK;obtain⟨xs,hq,hx⟩:=hg;obtain⟨its,rv,p,hz⟩:=I.tuple hq;obtain⟨f0,f1,f2,f3,f4,f5⟩:=hf it (by simp);have hl:=rv.length;exact wpAny_pyNext_tuple_end (I.ok.hd hc) st (show s.heap.IsTuple a its.toArray from p) (by simp;lia) λh' eb=>⟨rfl,I.turned (t':=s.toks) (λb o hb e=>eb b o hb e) f0 f1 f3 f4 f5⟩
 self:=λ_ _ _ _ _ st h=>wpAny_pyIter_tupleiter st h
theorem Jz {P:aU}{w:aZ}{K:aB}{tg:Expr}(it:Addr)(lo:Int)(n:Nat):qr P w K tg (Itr lo n) [it] it (λi h=>wX h it (lo+(i:Nat) * 1) ((n:Int) - (i:Nat)) 1) where
 mem:=by simp
 obj:=λi h st b hb=>by
  have e:b=it:=(by simpa using hb);subst e;exact⟨_,st,λv z=>by
    have z':sD _=oS v:=z;cases z'⟩
 keep:=λi h h' st k=>k it (by simp) _ st
 item:=by
  intro X hP hw hK hc i f' s σ H E I hf st hg;subst hP hw hK;obtain⟨f0,f1,f2,f3,f4,f5⟩:=hf it (by simp);have W:=Walks.range (prog:=X.prog) (w:=X.w) (I.ok.hd hc) it lo 1 n;refine W.item i s _ _ hg st λv h' tk hv CI kk=>?_;obtain⟨t,rfl⟩:=hv;have I1:Inv X f' σ H { s with heap:=h',toks:=tk }:=I.turned (λb o hb e=>kk b o (by simpa using hb) e) f0 f1 f3 f4 f5;refine⟨_,rfl,zy (s:={ s with heap:=h',toks:=tk }) (n:="range_iterator") CI rfl rfl (by decide) ⟨.int (lo+i),H,I1,⟨t,?_⟩,⟨rfl,rfl⟩,CI,λb hb=>(hf b hb).1⟩⟩;rw[Int.mul_one]
 done:=by
  intro X hP hw hK hc i f' s σ H E I hf st hg;subst hP hw hK;obtain⟨f0,f1,f2,f3,f4,f5⟩:=hf it (by simp);exact wpAny_pyNext_range_end (I.ok.hd hc) st (by have:n<=i:=hg;lia) λh' eb=>⟨rfl,I.turned (t':=s.toks) (λb o hb e=>eb b o hb e) f0 f1 f3 f4 f5⟩
 self:=λ_ _ _ _ _ st h=>wpAny_pyIter_rangeiter st h
section
variable {X:Cx}{tg:Expr}
def Zd (K:aB)(tl:TE):TI:=λσ H R=>tl σ H λx H1=>∃a,x=.ref a/\(∃xs,SqL K H1 a xs)/\R (Itl K a) H1
def iTup (K:aB)(tl:TE):TI:=λσ H R=>tl σ H λx H1=>∃a,x=.ref a/\(∃xs,SqT K H1 a xs)/\R (Itt K a) H1
theorem c7 {l:Expr}{tl:TE}(hl:PE X l tl):PI X tg l (Zd X.K tl):=by
 intro f' s σ H R I h;refine thn (hl f' s σ H _ I h) λv s1 AD=>?_;obtain⟨x,H1,I1,r1,q1⟩:=AD;obtain⟨a,e,⟨xs,hq⟩,q⟩:=q1;subst e;cases r1;obtain⟨its,rv,p,hz⟩:=I1.list hq;refine iR p.isList ?_;refine⟨s1.heap.objs.size,[s1.heap.objs.size],_,_,H1,rfl,I1.kept (t':=s1.toks) λb o e=>aI _ e,Md a _,⟨_,aY _ rfl,rfl,rfl⟩,λb hb=>?_,q⟩;have e:b=s1.heap.objs.size:=(by simpa using hb);subst e;exact I1.fpOk (aN _) (I1.hok.fresh (aN _))
theorem Aa {l:Expr}{tl:TE}(hl:PE X l tl):PI X tg l (iTup X.K tl):=by
 intro f' s σ H R I h;refine thn (hl f' s σ H _ I h) λv s1 AD=>?_;obtain⟨x,H1,I1,r1,q1⟩:=AD;obtain⟨a,e,⟨xs,hq⟩,q⟩:=q1;subst e;cases r1;obtain⟨its,rv,p,hz⟩:=I1.tuple hq;refine lO (show s1.heap.IsTuple a its.toArray from p) ?_;refine⟨s1.heap.objs.size,[s1.heap.objs.size],_,_,H1,rfl,I1.kept (t':=s1.toks) λb o e=>aI _ e,Jy a _,⟨_,aY _ rfl,rfl,rfl⟩,λb hb=>?_,q⟩;have e:b=s1.heap.objs.size:=(by simpa using hb);subst e;exact I1.fpOk (aN _) (I1.hok.fresh (aN _))
theorem Pn {f':List (Addr×Obj)}{σ:St}{H:Hp}{s:aG}{R:It->Hp->Prop}{E:aC->aG->Prop}{lo hi:Int}{t u v:Tok}{tk:Nat}(I:Inv X f' σ H s)(h1:-(2 ^ 62)<=lo)(h2:lo < 2 ^ 62)(h3:-(2 ^ 62)<=hi)(h4:hi < 2 ^ 62)
  (q:R (Itr lo (hi - lo).toNat) H):aL (aS X.prog X.w) X.A (zO (.ref s.heap.objs.size)) (PIE X f' σ tg R) E { s with heap:=s.heap.push { cls:=.type "range",data:=.fields #[.int lo t,.int hi u,.int 1 v] },toks:=tk }:=by
 refine wpAny_pyIter_range (IsRange.new ..) (small_one h1 h2 h3 h4) ?_;have I1:Inv X f' σ H { s with heap:=s.heap.push { cls:=.type "range",data:=.fields #[.int lo t,.int hi u,.int 1 v] },toks:=tk }:=I.kept λb o e=>aI _ e;refine⟨(s.heap.push { cls:=.type "range",data:=.fields #[.int lo t,.int hi u,.int 1 v] }).objs.size,[(s.heap.push { cls:=.type "range",data:=.fields #[.int lo t,.int hi u,.int 1 v] }).objs.size],_,_,H,rfl,I1.kept (t':=tk) λb o e=>aI _ e,Jz _ lo (hi - lo).toNat,?_,λb hb=>?_,q⟩
 ·have e1:lo+((0:Nat):Int) * 1=lo:=(by simp);have e2:(((hi - lo).toNat:Nat):Int) - ((0:Nat):Int)=oK lo hi 1:=(by rw[rangeSize_one];split<;>lia);show wX _ _ (lo+((0:Nat):Int) * 1) ((((hi - lo).toNat:Nat):Int) - ((0:Nat):Int)) 1;rw[e1,e2];exact aY _ rfl
 ·have e:b=(s.heap.push { cls:=.type "range",data:=.fields #[.int lo t,.int hi u,.int 1 v] }).objs.size:=(by simpa using hb);subst e;exact I1.fpOk (aN _) (I1.hok.fresh (aN _))
def Ze (ta:TA):TI:=λσ H R=>ta σ H λvs H1=>∃j:Int,vs=[.int j]/\-(2 ^ 62)<=j/\j < 2 ^ 62/\R (Itr 0 j.toNat) H1
theorem i6 {a:Expr}{ta:TA}{p pos:Pos}(hg:Gl X "range")(hm:X.mg "range"=none)(ha:PA X [a] ta)(hs:cJ [a] X.env=[(false,eval a X.env)]:=by rfl):PI X tg (.Call (.Name "range" p) [a] [] pos) (Ze ta):=by
 intro f' s σ H R I h;refine Call_ (iw I hg hm boot_range (gW (thn (ha pos f' s σ H _ I h) λus s1 AD=>?_) hs rfl));obtain⟨vs,H1,I1,r1,q1⟩:=AD;obtain⟨j,e,q1,q2,q⟩:=q1;subst e;cases r1 with
 |cons r rr=>
  cases rr;obtain⟨t,rfl⟩:=r;exact call_range_1 (Pn I1 (by lia) (by lia) q1 q2 (by simpa using q))
def tFor (wi:TI)(g:TG)(tb:TS):TS:=λD σ H=>wi σ H λJ H1=>∃W:Nat->Nat->St->Hp->Prop,(∃m,W 0 m σ H1)/\∀i m σ H,W i m σ H->
 (J.stop i H/\D.nx σ H)\/(J.go i H/\∃N:St->Hp->Prop,(∀σ' H',N σ' H'->∃m',m' < m/\W (i+1) m' σ' H')/\∀x H',J.yld i H x H'->g x σ H' λσ2 H2=>tb { D with nx:=N,ct:=N,bk:=D.nx } σ2 H2)
def rz (fp:List Addr)(h:Heap):List (Addr×Obj):=fp.filterMap λb=>(h.get? b).map λo=>(b,o)
theorem je {fp:List Addr}{h:Heap}{b:Addr}{o:Obj}(hb:b∈fp)(e:h.get? b=some o):(b,o)∈rz fp h:=List.mem_filterMap.mpr ⟨b,hb,by rw[e];rfl⟩
theorem Mg {fp:List Addr}{h:Heap}{p:Addr×Obj}(hp:p∈rz fp h):p.1∈fp/\h.get? p.1=some p.2:=by
 obtain⟨b,hb,e⟩:=List.mem_filterMap.mp hp;cases q:h.get? b with
 |none=>rw[q]at e;cases e
 |some o=>
  rw[q]at e;have e':(b,o)=p:=cZ e;subst e';exact⟨hb,q⟩
theorem Inv.pinned {f':List (Addr×Obj)}{σ:St}{H:Hp}{s:aG}{fp:List Addr}(I:Inv X f' σ H s)(hf:∀b∈fp,ij X f' H b)(ho:∀b∈fp,∃o,s.heap.get? b=some o/\∀v,o.data≠.cell v):Inv X (f'++rz fp s.heap) σ H s:=
 I.pins_of λp hp=>(fK.mp hp).elim (λz=>I.pin p (fQ _ z)) λz=>by
  obtain⟨hb,e⟩:=Mg z;obtain⟨f0,f1,f2,_⟩:=hf p.1 hb;obtain⟨o,e',d⟩:=ho p.1 hb;rw[e]at e';cases e';exact⟨e,f0,f1,f2,d⟩
theorem Inv.unpinned {f' pl:List (Addr×Obj)}{σ:St}{H:Hp}{s:aG}(I:Inv X (f'++pl) σ H s):Inv X f' σ H s:=I.pins_of λp hp=>I.pin p (fQ _ (lT _ hp))
theorem fh {iter:Expr}{body:List Stmt}{wi:TI}{g:TG}{tb:TS}{pos:Pos}(hp:PassesOwn (aS X.prog X.w) X.A X.env X.xe)(hc:X.calm=true)(hi:PI X tg iter wi)(hg:PG X tg g)(hb:PSs X body tb)
  (hs:∀x,vB iter X.env x=pure x:=by intro _;rfl):PS X (.For tg iter body [] pos) (tFor wi g tb):=by
 intro f' s σ H D I h;refine wpAny_For (thn (hi f' s σ H _ I h) λv s1 h1=>thn h1 λOJ s2 h2=>?_) hs;obtain⟨it,fp,tn,J,H2,e,I2,T,EM,f2,W,⟨m0,w0⟩,CM⟩:=h2;subst e;have BX:∀{H':Hp},(∀b∈fp,H' b=none)->∀b∈fp,ij X f' H' b:=λhn b hb=>⟨hn b hb,(f2 b hb).2⟩;refine codeAny_forLoop_any (λn s'=>∃i σ' H',Inv X f' σ' H' s'/\tn i s'.heap/\(∀b∈fp,H' b=none)/\W i n σ' H') ?_ m0 ⟨0,σ,H2,I2,EM,λb hb=>(f2 b hb).1,w0⟩;intro n s3 AC;obtain⟨i,σ3,H3,I3,ET,KS,w3⟩:=AC;rcases CM i n σ3 H3 w3 with⟨stop,qn⟩ | ⟨go,N,hN,step⟩
 ·refine nG hp (thn (T.done X rfl rfl rfl hc i f' s3 σ3 H3 X.xe I3 (BX KS) ET stop) λr s4 AD=>?_);obtain⟨hr,I4⟩:=AD;subst hr;exact qK ⟨σ3,H3,I4,qn⟩
 ·refine nG hp (thn (T.item X rfl rfl rfl hc i f' s3 σ3 H3 X.xe I3 (BX KS) ET go) λr s4 AD=>?_);obtain⟨u,hr,h4⟩:=AD;subst hr;refine nG hp (thn h4 λ_ s5 AD=>?_);obtain⟨x,H5,I5,r5,y5,HA,JH⟩:=AD;have I5':=I5.pinned (BX JH) (T.obj _ _ HA);refine nG hp (thn (hg _ s5 σ3 H5 x u _ I5' r5 (step x H5 y5)) λ_ s6 AD=>?_);obtain⟨σ6,H6,I6,q6⟩:=AD;refine nG hp (thn (hb _ s6 σ6 H6 _ I6 q6) λf s7 q7=>?_);have again:∀{σ7:St}{H7:Hp},Inv X (f'++rz fp s5.heap) σ7 H7 s7->N σ7 H7->∃m,m < n/\∃i σ' H',Inv X f' σ' H' s7/\tn i s7.heap/\(∀b∈fp,H' b=none)/\W i m σ' H':=λ{σ7 H7} I7 n7=>by
   obtain⟨m',hm,w7⟩:=hN σ7 H7 n7;refine⟨m',hm,i+1,σ7,H7,I7.unpinned,T.keep _ _ _ HA λb hb o e=>(I7.pin (b,o) (fQ _ (fQ _ (je hb e)))).1,λb hb=>?_,w7⟩;obtain⟨o,e,d⟩:=T.obj _ _ HA b hb;exact(I7.pin (b,o) (fQ _ (fQ _ (je hb e)))).2.1
  cases f with
  |next=>obtain⟨σ7,H7,I7,n7⟩:=q7;exact again I7 n7
  |cont=>obtain⟨σ7,H7,I7,n7⟩:=q7;exact again I7 n7
  |brk=>obtain⟨σ7,H7,I7,q7⟩:=q7;exact⟨σ7,H7,I7.unpinned,q7⟩
  |ret v=>obtain⟨x7,σ7,H7,I7,r7,q7⟩:=q7;exact⟨x7,σ7,H7,I7.unpinned,r7,q7⟩
end
theorem i7 {K:aB}{a:Addr}{xs:List V}{g:TG}{tb:TS}{D:gg}{σ:St}{H:Hp}(Pv:Nat->St->Hp->Prop)(h0:Pv 0 σ H)(hl:∀i σ H,i<=xs.length->Pv i σ H->SqL K H a xs)
  (hs:∀i x σ H,xs[i]?=some x->Pv i σ H->g x σ H λσ2 H2=>tb { D with nx:=Pv (i+1),ct:=Pv (i+1),bk:=D.nx } σ2 H2) (hd:∀σ H,Pv xs.length σ H->D.nx σ H) :
  ∃W:Nat->Nat->St->Hp->Prop,(∃m,W 0 m σ H)/\∀i m σ H,W i m σ H->
   ((Itl K a).stop i H/\D.nx σ H)\/((Itl K a).go i H/\∃N:St->Hp->Prop,(∀σ' H',N σ' H'->∃m',m' < m/\W (i+1) m' σ' H')/\∀x H',(Itl K a).yld i H x H'->g x σ H' λσ2 H2=>tb { D with nx:=N,ct:=N,bk:=D.nx } σ2 H2):=by
 refine⟨λi m σ H=>m=xs.length - i/\i<=xs.length/\Pv i σ H,⟨xs.length,by simp,gO _,h0⟩,?_⟩;intro i m σ H AC;obtain⟨rfl,hi,p⟩:=AC;have q:=hl i σ H hi p;by_cases AZ:i < xs.length
 ·refine .inr ⟨⟨xs,xs[i],q,by simp[AZ]⟩,Pv (i+1),λσ' H' p'=>⟨xs.length - (i+1),by lia,rfl,AZ,p'⟩,λx H' y=>?_⟩;obtain⟨e,y⟩:=y;subst e;exact hs i x σ _ (y xs q) p
 ·have e:i=xs.length:=(by lia);subst e;exact .inl ⟨⟨xs,q,aN _⟩,hd σ H p⟩
theorem Hv {K:aB}{a:Addr}{xs:List V}{g:TG}{tb:TS}{D:gg}{σ:St}{H:Hp}(Pv:Nat->St->Hp->Prop)(h0:Pv 0 σ H)(hl:∀i σ H,i<=xs.length->Pv i σ H->SqT K H a xs)
  (hs:∀i x σ H,xs[i]?=some x->Pv i σ H->g x σ H λσ2 H2=>tb { D with nx:=Pv (i+1),ct:=Pv (i+1),bk:=D.nx } σ2 H2) (hd:∀σ H,Pv xs.length σ H->D.nx σ H) :
  ∃W:Nat->Nat->St->Hp->Prop,(∃m,W 0 m σ H)/\∀i m σ H,W i m σ H->
   ((Itt K a).stop i H/\D.nx σ H)\/((Itt K a).go i H/\∃N:St->Hp->Prop,(∀σ' H',N σ' H'->∃m',m' < m/\W (i+1) m' σ' H')/\∀x H',(Itt K a).yld i H x H'->g x σ H' λσ2 H2=>tb { D with nx:=N,ct:=N,bk:=D.nx } σ2 H2):=by
 refine⟨λi m σ H=>m=xs.length - i/\i<=xs.length/\Pv i σ H,⟨xs.length,by simp,gO _,h0⟩,?_⟩;intro i m σ H AC;obtain⟨rfl,hi,p⟩:=AC;have q:=hl i σ H hi p;by_cases AZ:i < xs.length
 ·refine .inr ⟨⟨xs,xs[i],q,by simp[AZ]⟩,Pv (i+1),λσ' H' p'=>⟨xs.length - (i+1),by lia,rfl,AZ,p'⟩,λx H' y=>?_⟩;obtain⟨e,y⟩:=y;subst e;exact hs i x σ _ (y xs q) p
 ·have e:i=xs.length:=(by lia);subst e;exact .inl ⟨⟨xs,q,aN _⟩,hd σ H p⟩
theorem ny {lo:Int}{n:Nat}{g:TG}{tb:TS}{D:gg}{σ:St}{H:Hp}(Pv:Nat->St->Hp->Prop)(h0:Pv 0 σ H)
  (hs:∀i σ H,i < n->Pv i σ H->g (.int (lo+i)) σ H λσ2 H2=>tb { D with nx:=Pv (i+1),ct:=Pv (i+1),bk:=D.nx } σ2 H2) (hd:∀σ H,Pv n σ H->D.nx σ H) :
  ∃W:Nat->Nat->St->Hp->Prop,(∃m,W 0 m σ H)/\∀i m σ H,W i m σ H->
   ((Itr lo n).stop i H/\D.nx σ H)\/((Itr lo n).go i H/\∃N:St->Hp->Prop,(∀σ' H',N σ' H'->∃m',m' < m/\W (i+1) m' σ' H')/\∀x H',(Itr lo n).yld i H x H'->g x σ H' λσ2 H2=>tb { D with nx:=N,ct:=N,bk:=D.nx } σ2 H2):=by
 refine⟨λi m σ H=>m=n - i/\i<=n/\Pv i σ H,⟨n,by simp,gO _,h0⟩,?_⟩;intro i m σ H AC;obtain⟨rfl,hi,p⟩:=AC;by_cases AZ:i < n
 ·refine .inr ⟨AZ,Pv (i+1),λσ' H' p'=>⟨n - (i+1),by lia,rfl,AZ,p'⟩,λx H' y=>?_⟩;obtain⟨e,y⟩:=y;subst e y;exact hs i σ _ AZ p
 ·have e:i=n:=(by lia);subst e;exact .inl ⟨aN _,hd σ H p⟩
abbrev R2:=V->V->Hp->VK->Prop
def OpR (X:Cx)(f:aC->aC->Sem aC)(r:R2):Prop:=
 ∀(f':List (Addr×Obj))(s:aG) (σ:St) (H:Hp) (x y:V) (v u:aC) (Q:VK),Inv X f' σ H s->RelV x v->RelV y u->r x y H Q->
  aL (aS X.prog X.w) X.A (f v u) (EP X f' σ Q) X.xe s
def UnR (X:Cx)(f:aC->Sem aC)(r:V->Hp->VK->Prop):Prop:=
 ∀(f':List (Addr×Obj))(s:aG) (σ:St) (H:Hp) (x:V) (v:aC) (Q:VK),Inv X f' σ H s->RelV x v->r x H Q->
  aL (aS X.prog X.w) X.A (f v) (EP X f' σ Q) X.xe s
def jw (X:Cx)(f:aC)(r:List V->Hp->VK->Prop):Prop:=
 ∀(f':List (Addr×Obj))(s:aG) (σ:St) (H:Hp) (xs:List V) (us:List aC) (Q:VK),Inv X f' σ H s->Vals xs us->r xs H Q->
  aL (aS X.prog X.w) X.A (call f us) (EP X f' σ Q) X.xe s
def TruR (X:Cx)(r:V->Hp->(Bool->Hp->Prop)->Prop):Prop:=
 ∀(f':List (Addr×Obj))(s:aG) (σ:St) (H:Hp) (x:V) (v:aC) (Q:Bool->Hp->Prop),Inv X f' σ H s->RelV x v->r x H Q->
  aL (aS X.prog X.w) X.A (truthy v) (TP X f' σ Q) X.xe s
def tOp (r:R2)(ta tb:TE):TE:=λσ H Q=>ta σ H λx H1=>tb σ H1 λy H2=>r x y H2 Q
def tUn (r:V->Hp->VK->Prop)(ta:TE):TE:=λσ H Q=>ta σ H λx H1=>r x H1 Q
def rI (C:Int->Int->Prop)(g:Int->Int->V):R2:=λx y H Q=>∃i j,x=.int i/\y=.int j/\C i j/\Q (g i j) H
def rI0 (g:Int->Int->V):R2:=λx y H Q=>∃i j,x=.int i/\y=.int j/\Q (g i j) H
def rU (g:Int->V):V->Hp->VK->Prop:=λx H Q=>∃i,x=.int i/\Q (g i) H
section
variable {X:Cx}{a b c:Expr}{ta tb tc:TE}{pos:Pos}
theorem Po (ha:PE X a ta)(hb:PE X b tb){f':List (Addr×Obj)}{s:aG}{σ:St}{H:Hp}{R:V->V->Hp->Prop}(I:Inv X f' σ H s)
  (h:ta σ H λx H1=>tb σ H1 λy H2=>R x y H2) {Q:aC->aG->Prop}{f:aC->aC->Sem aC}
  (hf:∀v u s2 x y H2,Inv X f' σ H2 s2->RelV x v->RelV y u->R x y H2->aL (aS X.prog X.w) X.A (f v u) Q X.xe s2) :
  aL (aS X.prog X.w) X.A (eval a X.env) (λv s₁=>aL (aS X.prog X.w) X.A (eval b X.env) (λu s₂=>aL (aS X.prog X.w) X.A (f v u) Q X.xe s₂) X.xe s₁) X.xe s:=by
 refine thn (ha f' s σ H _ I h) λv s1 AD=>?_;obtain⟨x,H1,I1,r1,q1⟩:=AD;refine thn (hb f' s1 σ H1 _ I1 q1) λu s2 AD=>?_;obtain⟨y,H2,I2,r2,q2⟩:=AD;exact hf v u s2 x y H2 I2 r1 r2 q2
theorem ba {op:Operator}{r:R2}(ho:OpR X (jY op) r)(ha:PE X a ta)(hb:PE X b tb):PE X (.BinOp a op b pos) (tOp r ta tb):=by
 intro f' s σ H Q I h;exact wpAny_BinOp (Po ha hb I h λv u s2 x y H2 I2 rx ry q=>ho f' s2 σ H2 x y v u Q I2 rx ry q)
theorem m9 {op:UnaryOp}{r:V->Hp->VK->Prop}(ho:UnR X (unaryOp op) r)(ha:PE X a ta):PE X (.UnaryOp op a pos) (tUn r ta):=by
 intro f' s σ H Q I h;exact UnaryOp_ (thn (ha f' s σ H _ I h) λv s1 AD=>by obtain⟨x,H1,I1,r1,q1⟩:=AD;exact ho f' s1 σ H1 x v Q I1 r1 q1)
theorem opI {f:aC->aC->Sem aC}{C:Int->Int->Prop}{g:Int->Int->Int}
  (rule:∀(i j:Int)(t u:Tok) (s:aG) (Q:aC->aG->Prop) (E:aC->aG->Prop),C i j->Q (.int (g i j) s.toks) { s with toks:=s.toks+1 }->aL (aS X.prog X.w) X.A (f (.int i t) (.int j u)) Q E s) :
  OpR X f (rI C λi j=>.int (g i j)):=by
 intro f' s σ H x y v u Q I rx ry h;obtain⟨i,j,rfl,rfl,hc,q⟩:=h;obtain⟨t,rfl⟩:=rx;obtain⟨t',rfl⟩:=ry;exact rule i j t t' s _ _ hc ⟨.int (g i j),H,I.tok _,⟨_,rfl⟩,q⟩
theorem Bj {f:aC->aC->Sem aC}{g:Int->Int->Int}
  (rule:∀(i j:Int)(t u:Tok) (s:aG) (Q:aC->aG->Prop) (E:aC->aG->Prop),Q (.int (g i j) s.toks) { s with toks:=s.toks+1 }->aL (aS X.prog X.w) X.A (f (.int i t) (.int j u)) Q E s) :
  OpR X f (rI0 λi j=>.int (g i j)):=by
 intro f' s σ H x y v u Q I rx ry h;obtain⟨i,j,rfl,rfl,q⟩:=h;obtain⟨t,rfl⟩:=rx;obtain⟨t',rfl⟩:=ry;exact rule i j t t' s _ _ ⟨.int (g i j),H,I.tok _,⟨_,rfl⟩,q⟩
theorem Pp {f:aC->aC->Sem aC}{g:Int->Int->Bool}
  (rule:∀(i j:Int)(t u:Tok) (s:aG) (Q:aC->aG->Prop) (E:aC->aG->Prop),Q (.bool (g i j)) s->aL (aS X.prog X.w) X.A (f (.int i t) (.int j u)) Q E s) :
  OpR X f (rI0 λi j=>.bl (g i j)):=by
 intro f' s σ H x y v u Q I rx ry h;obtain⟨i,j,rfl,rfl,q⟩:=h;obtain⟨t,rfl⟩:=rx;obtain⟨t',rfl⟩:=ry;exact rule i j t t' s _ _ ⟨.bl (g i j),H,I,rfl,q⟩
def CDiv (i j:Int):Prop:=0 < j/\j < 1073741824
def Xf (i j:Int):Prop:=0<=j/\j<=1000000/\i.natAbs < 2 ^ 64
def CMul (i j:Int):Prop:=(-(2 ^ 64) < i/\i < 2 ^ 64)\/(-(2 ^ 64) < j/\j < 2 ^ 64)
theorem CMul.ok {i j:Int}(h:CMul i j):IntMulOk i j:=by
 rcases h with⟨h1,h2⟩ | ⟨h1,h2⟩
 ·exact .of_left (intBits_le_64 h1 h2)
 ·exact .of_right (intBits_le_64 h1 h2)
theorem J0 (k:Nat):(0:Int)<=2 ^ k:=by
 rw[two_pow_cast];exact uP _
theorem gy:OpR X (jY .Add) (rI0 λi j=>.int (i+j)):=Bj λ_ _ _ _ _ _ _ q=>add_int q
theorem D3:OpR X (jY .Sub) (rI0 λi j=>.int (i - j)):=Bj λ_ _ _ _ _ _ _ q=>sub_int q
theorem r8:OpR X (jY .Mult) (rI CMul λi j=>.int (i * j)):=opI λ_ _ _ _ _ _ _ hc q=>mul_int q hc.ok
theorem xm:OpR X (jY .FloorDiv) (rI CDiv λi j=>.int (i / j)):=opI λi j _ _ _ _ _ hc q=>by
 have h1:(0:Int) < j:=hc.1;have h2:j < 1073741824:=hc.2;exact floordiv_int (by lia) (by rw[Int.fdiv_eq_ediv_of_nonneg i (by lia)];exact q) (.inl (PyProof.noPylong_small (by lia)))
theorem gz:OpR X (jY .Mod) (rI (λ_ j=>0 < j) λi j=>.int (i % j)):=opI λi j _ _ _ _ _ hc q=>by
 have h1:(0:Int) < j:=hc;exact mod_int' (by lia) (by rw[Int.fmod_eq_emod_of_nonneg i (by lia)];exact q)
theorem Xg:OpR X (jY .Pow) (rI Xf λi j=>.int (i ^ j.toNat)):=opI λ_ _ _ _ _ _ _ hc q=>pow_int_small hc.1 hc.2.1 hc.2.2 q
theorem Ab:OpR X (jY .LShift) (rI Xf λi j=>.int (i * 2 ^ j.toNat)):=opI λ_ _ _ _ _ _ _ hc q=>lshift_int_small hc.1 hc.2.1 hc.2.2 q
theorem Mh:OpR X (jY .RShift) (rI (λ_ j=>0<=j) λi j=>.int (i / 2 ^ j.toNat)):=opI λi j _ _ _ _ _ hc q=>
 rshift_int hc (by rw[Int.fdiv_eq_ediv_of_nonneg i (J0 _)];exact q)
theorem D4:OpR X (jY .BitAnd) (rI0 λi j=>.int (nZ i j)):=Bj λ_ _ _ _ _ _ _ q=>and_int q
theorem J1:OpR X (jY .BitOr) (rI0 λi j=>.int (nO i j)):=Bj λ_ _ _ _ _ _ _ q=>or_int q
theorem Xh:OpR X (yD .BitOr) (rI0 λi j=>.int (nO i j)):=Bj λ_ _ _ _ _ _ _ q=>ior_int q
theorem Uo:OpR X (yD .BitXor) (rI0 λi j=>.int (uG i j)):=Bj λ_ _ _ _ _ _ _ q=>ixor_int q
theorem unI {f:aC->Sem aC}{g:Int->Int}
  (rule:∀(i:Int)(t:Tok) (s:aG) (Q:aC->aG->Prop) (E:aC->aG->Prop),Q (.int (g i) s.toks) { s with toks:=s.toks+1 }->aL (aS X.prog X.w) X.A (f (.int i t)) Q E s) :
  UnR X f (rU λi=>.int (g i)):=by
 intro f' s σ H x v Q I rx h;obtain⟨i,rfl,q⟩:=h;obtain⟨t,rfl⟩:=rx;exact rule i t s _ _ ⟨.int (g i),H,I.tok _,⟨_,rfl⟩,q⟩
theorem jt:UnR X (unaryOp .USub) (rU λi=>.int (-i)):=unI λ_ _ _ _ _ q=>neg_int q
end
def Xi:V->V->Bool
 | .non,.non=>true | .non,.int _=>true | .int _,.non=>true | .non,.bl _=>true | .bl _,.non=>true | .non,.str _=>true | .str _,.non=>true
 | .int _,.int _=>true | .bl _,.bl _=>true | .str _,.str _=>true | .byt _,.byt _=>true
 | .int _,.str _=>true | .str _,.int _=>true | .bl _,.str _=>true | .str _,.bl _=>true
 |_,_=>false
def rEq:R2:=λx y H Q=>Xi x y=true/\Q (.bl (decide (x=y))) H
def rNe:R2:=λx y H Q=>Xi x y=true/\Q (.bl (!decide (x=y))) H
theorem Hw {i j:Int}:decide (V.int i=V.int j)=(i == j):=by
 rw[qL];simp
theorem Mi {i j:Bool}:decide (V.bl i=V.bl j)=(i == j):=by
 rw[qL];simp
theorem Hx {i j:Str}:decide (V.str i=V.str j)=(i == j):=by
 rw[qL];simp
theorem Hy {i j:Array UInt8}:decide (V.byt i=V.byt j)=(i.toList == j.toList):=by
 rw[qL];cases i;cases j;simp
section
variable {X:Cx}{a b c:Expr}{ta tb tc:TE}{pos:Pos}
theorem cw {f':List (Addr×Obj)}{σ:St}{H:Hp}{s:aG}{Q:VK}{k k':Bool}(I:Inv X f' σ H s)(q:Q (.bl k) H)(e:k=k'):EP X f' σ Q (.bool k') s:=by
 subst e;exact⟨.bl k,H,I,rfl,q⟩
theorem e9:OpR X (jX .Eq) rEq:=by
 intro f' s σ H x y v u Q I rx ry h;obtain⟨hs,q⟩:=h;cases x with
 |non=>
  cases rx;cases y with
  |non=>cases ry;exact PySem.EqNone.eq_none_none (cw I q (by simp))
  |bl j=>cases ry;exact PySem.EqNone.eq_none_bool (cw I q (by simp))
  |int j=>obtain⟨t',rfl⟩:=ry;exact PySem.EqNone.eq_none_int (cw I q (by simp))
  |str j=>obtain⟨t',rfl⟩:=ry;exact PySem.EqNone.eq_none_str (cw I q (by simp))
  |_=>exact absurd (show false=true from hs) bX
 |bl i=>
  cases rx;cases y with
  |non=>cases ry;exact PySem.EqNone.eq_bool_none (cw I q (by simp))
  |bl j=>cases ry;exact eq_bool (cw I q Mi)
  |str j=>obtain⟨t',rfl⟩:=ry;exact PySem.EqMixed.eq_bool_str (cw I q (by simp))
  |_=>exact absurd (show false=true from hs) bX
 |int i=>
  obtain⟨t,rfl⟩:=rx;cases y with
  |non=>cases ry;exact PySem.EqNone.eq_int_none (cw I q (by simp))
  |int j=>obtain⟨t',rfl⟩:=ry;exact eq_int (cw I q Hw)
  |str j=>obtain⟨t',rfl⟩:=ry;exact PySem.EqMixed.eq_int_str (cw I q (by simp))
  |_=>exact absurd (show false=true from hs) bX
 |str i=>
  obtain⟨t,rfl⟩:=rx;cases y with
  |non=>cases ry;exact PySem.EqNone.eq_str_none (cw I q (by simp))
  |bl j=>cases ry;exact PySem.EqMixed.eq_str_bool (cw I q (by simp))
  |int j=>obtain⟨t',rfl⟩:=ry;exact PySem.EqMixed.eq_str_int (cw I q (by simp))
  |str j=>obtain⟨t',rfl⟩:=ry;exact eq_str (cw I q Hx)
  |_=>exact absurd (show false=true from hs) bX
 |byt i=>
  obtain⟨t,rfl⟩:=rx;cases y with
  |byt j=>obtain⟨t',rfl⟩:=ry;exact PySem.W.eq_bytes (cw I q Hy)
  |_=>exact absurd (show false=true from hs) bX
 |_=>cases y<;>exact absurd (show false=true from hs) bX
theorem Zf:OpR X (jX .NotEq) rNe:=by
 intro f' s σ H x y v u Q I rx ry h;obtain⟨hs,q⟩:=h;cases x with
 |non=>
  cases rx;cases y with
  |non=>cases ry;exact PySem.EqNone.ne_none_none (cw I q (by simp))
  |bl j=>cases ry;exact PySem.EqNone.ne_none_bool (cw I q (by simp))
  |int j=>obtain⟨t',rfl⟩:=ry;exact PySem.EqNone.ne_none_int (cw I q (by simp))
  |str j=>obtain⟨t',rfl⟩:=ry;exact PySem.EqNone.ne_none_str (cw I q (by simp))
  |_=>exact absurd (show false=true from hs) bX
 |bl i=>
  cases rx;cases y with
  |non=>cases ry;exact PySem.EqNone.ne_bool_none (cw I q (by simp))
  |bl j=>cases ry;exact ne_bool (cw I q (congrArg not Mi))
  |str j=>obtain⟨t',rfl⟩:=ry;exact PySem.EqMixed.ne_bool_str (cw I q (by simp))
  |_=>exact absurd (show false=true from hs) bX
 |int i=>
  obtain⟨t,rfl⟩:=rx;cases y with
  |non=>cases ry;exact PySem.EqNone.ne_int_none (cw I q (by simp))
  |int j=>obtain⟨t',rfl⟩:=ry;exact ne_int (cw I q (congrArg not Hw))
  |str j=>obtain⟨t',rfl⟩:=ry;exact PySem.EqMixed.ne_int_str (cw I q (by simp))
  |_=>exact absurd (show false=true from hs) bX
 |str i=>
  obtain⟨t,rfl⟩:=rx;cases y with
  |non=>cases ry;exact PySem.EqNone.ne_str_none (cw I q (by simp))
  |bl j=>cases ry;exact PySem.EqMixed.ne_str_bool (cw I q (by simp))
  |int j=>obtain⟨t',rfl⟩:=ry;exact PySem.EqMixed.ne_str_int (cw I q (by simp))
  |str j=>obtain⟨t',rfl⟩:=ry;exact ne_str (cw I q (congrArg not Hx))
  |_=>exact absurd (show false=true from hs) bX
 |byt i=>
  obtain⟨t,rfl⟩:=rx;cases y with
  |byt j=>obtain⟨t',rfl⟩:=ry;exact PySem.W.ne_bytes (cw I q (congrArg not Hy))
  |_=>exact absurd (show false=true from hs) bX
 |_=>cases y<;>exact absurd (show false=true from hs) bX
theorem Ac:OpR X (jX .Lt) (rI0 λi j=>.bl (decide (i < j))):=Pp λ_ _ _ _ _ _ _ q=>lt_int q
theorem J2:OpR X (jX .Gt) (rI0 λi j=>.bl (decide (j < i))):=Pp λ_ _ _ _ _ _ _ q=>gt_int q
theorem Zg:OpR X (jX .GtE) (rI0 λi j=>.bl (decide (j<=i))):=Pp λ_ _ _ _ _ _ _ q=>ge_int q
theorem Mj:OpR X (jX .Is) (λx y H Q=>y=.non/\Q (.bl (decide (x=.non))) H):=by
 intro f' s σ H x y v u Q I rx ry h;obtain⟨rfl,q⟩:=h;cases ry;refine is_none_gen (cw I q ?_);cases x<;>first
  | (cases rx;rfl)
  | (obtain⟨t,rfl⟩:=rx;rfl)
theorem OpR.or {f:aC->aC->Sem aC}{r r':R2}(h:OpR X f r)(h':OpR X f r'):OpR X f (λx y H Q=>r x y H Q\/r' x y H Q):=by
 intro f' s σ H x y v u Q I rx ry q;rcases q with q | q
 ·exact h f' s σ H x y v u Q I rx ry q
 ·exact h' f' s σ H x y v u Q I rx ry q
theorem bw (b:Expr){op:zN}(h:op≠.In:=by decide)(h2:op≠.NotIn:=by decide):oO op b=false:=by
 have e1:(op == CmpOp.In)=false:=by cases op<;>first | rfl | exact absurd rfl h
 have e2:(op == CmpOp.NotIn)=false:=by cases op<;>first | rfl | exact absurd rfl h2
 cases b<;>simp[oO,e1,e2]
theorem iy {op:zN}{r:R2}(ho:OpR X (jX op) r)(ha:PE X a ta)(hb:PE X b tb)(hm:oO op b=false):PE X (.Compare a [op] [b] pos) (tOp r ta tb):=by
 intro f' s σ H Q I h;exact wpAny_Compare1 (Po ha hb I h λv u s2 x y H2 I2 rx ry q=>ho f' s2 σ H2 x y v u Q I2 rx ry q) hm
def Zh (t:TE):TT:=λσ H Q=>t σ H λx H'=>∃k,x=.bl k/\Q k H'
theorem bx {op:zN}{r:R2}(ho:OpR X (jX op) r)(ha:PE X a ta)(hb:PE X b tb)(hm:oO op b=false):PT X (.Compare a [op] [b] pos) (Zh (tOp r ta tb)):=by
 intro f' s σ H Q I h;refine wpAny_isTrue_Compare1 (thn (ha f' s σ H _ I h) λv s1 ⟨x,H1,I1,r1,q1⟩=>thn (hb f' s1 σ H1 _ I1 q1) λu s2 ⟨y,H2,I2,r2,q2⟩=>
   thn (ho f' s2 σ H2 x y v u _ I2 r1 r2 q2) λc s3 ⟨z,H3,I3,r3,k,e,q3⟩=>?_) hm
 subst e;cases r3;exact nR ⟨H3,I3,q3⟩
def Pq (K:aB)(x:V)(H:Hp)(k:Bool):Prop:=
 match x with
 | .non=>k=false
 | .bl b=>k=b
 | .int i=>k=(i != 0)
 | .str y=>y.length<=sizeLine/\k=((y.length:Int) != 0)
 | .byt y=>y.size<=sizeLine/\k=((y.size:Int) != 0)
 | .ref p=>(∃xs,SqL K H p xs/\k=!xs.isEmpty)\/(∃xs,SqT K H p xs/\k=!xs.isEmpty)\/∃kvs,H p=some (.dK kvs)/\k=!kvs.isEmpty
 |_=>False
theorem J3 {κ:Type}{kvs:List (κ×V)}{vs:List (κ×aC)}(r:KV kvs vs):(!vs.isEmpty)=!kvs.isEmpty:=by
 cases r<;>rfl
theorem Ad {xs:List V}{its:List aC}(r:Vals xs its):(!its.toArray.isEmpty)=!xs.isEmpty:=by
 cases r<;>simp
theorem pj:(sizeLine:Nat) < 2 ^ 63:=by rw[iN];decide
theorem Xj:TruR X (λx H Q=>∃k,Pq X.K x H k/\Q k H):=by
 intro f' s σ H x v Q I rx h;obtain⟨k,e,q⟩:=h;have hl:=pj;have hs:sizeLine=16777216:=iN;cases x with
 |non=>
  cases rx;have e':k=false:=e;subst e';exact truthy_none ⟨H,I,q⟩
 |bl b=>
  cases rx;have e':k=b:=e;subst e';exact nR ⟨H,I,q⟩
 |int i=>
  obtain⟨t,rfl⟩:=rx;have e':k=(i != 0):=e;subst e';exact PySem.P.truthy_int ⟨H,I,q⟩
 |str y=>
  obtain⟨t,rfl⟩:=rx;obtain⟨hy,e'⟩:y.length<=sizeLine/\k=((y.length:Int) != 0):=e;subst e';exact PySem.P.truthy_str (by lia) ⟨H,I.tok _,q⟩
 |byt y=>
  obtain⟨t,rfl⟩:=rx;obtain⟨hy,e'⟩:y.size<=sizeLine/\k=((y.size:Int) != 0):=e;subst e';exact PySem.W.truthy_bytes (by lia) ⟨H,I.tok _,q⟩
 |ref p=>
  cases rx;have e':(∃xs,SqL X.K H p xs/\k=!xs.isEmpty)\/(∃xs,SqT X.K H p xs/\k=!xs.isEmpty)\/∃kvs,H p=some (.dK kvs)/\k=!kvs.isEmpty:=e;rcases e' with⟨xs,hx,e'⟩ | ⟨xs,hx,e'⟩ | ⟨kvs,hx,e'⟩
  ·subst e';obtain⟨its,r,pl,hz⟩:=I.list hx;have AG:=r.length;exact wpAny_truthy_list pl.isList (by simp only[aO];lia) ⟨H,I.tok _,by rw[Ad r];exact q⟩
  ·subst e';obtain⟨its,r,pl,hz⟩:=I.tuple hx;have AG:=r.length;exact truthy_tuple pl (by simp only[aO];lia) ⟨H,I.tok _,by rw[Ad r];exact q⟩
  ·subst e';obtain⟨hz,hS,vs,r,m⟩:kvs.length<=sizeLine/\(p == nV)=false/\∃vs,KV kvs vs/\s.heap.DictOf (fv X.prog X.w) p vs:=I.hok p _ hx;have AG:kvs.length=vs.length:=Paired.length r;exact wpAny_truthy_dict hS m (by lia) ⟨H,I.tok _,by rw[J3 r];exact q⟩
 |_=>exact(show False from e).elim
theorem tu (ha:PE X a ta)(he:∀BF,xB a X.env BF=(do let v <-BF;vL a.pos;rE [v] (truthy v))) :
  PT X a (λσ H Q=>ta σ H λx H'=>∃k,Pq X.K x H' k/\Q k H'):=by
 intro f' s σ H Q I h;exact isTrue_plain (thn (ha f' s σ H _ I h) λv s1 AD=>by obtain⟨x,H1,I1,r1,q1⟩:=AD;exact Xj f' s1 σ H1 x v Q I1 r1 q1) (he _)
theorem t9:OpR X (jY .Add) (λx y H Q=>∃i j,x=.str i/\y=.str j/\i.length+j.length<=sizeLine/\Q (.str (i++j)) H):=by
 intro f' s σ H x y v u Q I rx ry h;obtain⟨i,j,rfl,rfl,hz,q⟩:=h;obtain⟨t,rfl⟩:=rx;obtain⟨t',rfl⟩:=ry;exact add_str (λt' tk=>⟨.str (i++j),H,I.tok _,⟨_,rfl⟩,q⟩) hz
theorem j9 {x:V}{us:List aC}(r:Vals [x] us):∃u,us=[u]/\RelV x u:=by
 cases r with
 |cons r1 r2=>cases r2;exact⟨_,rfl,r1⟩
theorem ua {x y:V}{us:List aC}(r:Vals [x,y] us):∃u w',us=[u,w']/\RelV x u/\RelV y w':=by
 cases r with
 |cons r1 r2=>
  cases r2 with
  |cons r3 r4=>cases r4;exact⟨_,_,rfl,r1,r3⟩
theorem Pr:jw X (.builtin "abs") (λxs H Q=>∃i,xs=[.int i]/\Q (.int (if i < 0 then -i else i)) H):=by
 intro f' s σ H xs us Q I r h;obtain⟨i,rfl,q⟩:=h;obtain⟨u,rfl,t,rfl⟩:=j9 r;exact call_abs_int λu tk=>⟨.int (if i < 0 then -i else i),H,I.tok _,⟨_,rfl⟩,q⟩
theorem Cg (hc:X.calm=true):jw X (.builtin "max") (λxs H Q=>∃i j,xs=[.int i,.int j]/\Q (.int (if j > i then j else i)) H):=by
 intro f' s σ H xs us Q I r h;obtain⟨i,j,rfl,q⟩:=h;obtain⟨u,w',rfl,⟨t,rfl⟩,⟨t',rfl⟩⟩:=ua r;refine max_two_ints (I.ok.hd hc) λh' tk k=>⟨_,H,I.kept k,?_,q⟩;by_cases hj:j > i
 ·rw[if_pos hj,if_pos hj];exact⟨_,rfl⟩
 ·rw[if_neg hj,if_neg hj];exact⟨_,rfl⟩
theorem Ml (hc:X.calm=true):jw X (.builtin "min") (λxs H Q=>∃i j,xs=[.int i,.int j]/\Q (.int (if j < i then j else i)) H):=by
 intro f' s σ H xs us Q I r h;obtain⟨i,j,rfl,q⟩:=h;obtain⟨u,w',rfl,⟨t,rfl⟩,⟨t',rfl⟩⟩:=ua r;refine min_two_ints (I.ok.hd hc) λh' tk k=>⟨_,H,I.kept k,?_,q⟩;by_cases hj:j < i
 ·rw[if_pos hj,if_pos hj];exact⟨_,rfl⟩
 ·rw[if_neg hj,if_neg hj];exact⟨_,rfl⟩
theorem Mm:jw X (.type "int") (λxs H Q=>(∃i,xs=[.int i]/\Q (.int i) H)\/∃k,xs=[.bl k]/\Q (.int (if k then 1 else 0)) H):=by
 intro f' s σ H xs us Q I r h;rcases h with⟨i,rfl,q⟩ | ⟨k,rfl,q⟩
 ·obtain⟨u,rfl,t,rfl⟩:=j9 r;exact call_int_int ⟨.int i,H,I,⟨_,rfl⟩,q⟩
 ·obtain⟨u,rfl,r1⟩:=j9 r;cases r1;exact call_int_bool ⟨.int (if k then 1 else 0),H,I.tok _,⟨_,rfl⟩,q⟩
end
structure ObjM (h:Heap)(x dx C:Addr)(mA:Str->Option aC):Prop where
 obj:h.get? x=some (lS C dx)
 ns:h.Ns1 dx mA
 ne:dx≠x
theorem Mo {h:Heap}{dx:Addr}{mA:Str->Option aC}(n:h.Ns1 dx mA):∃od,h.get? dx=some od/\∀name,uH name od=some (mA name):=by
 obtain⟨o,es,ep,ho,hd,hk,_,hm⟩:=n;refine⟨o,ho,λname=>?_⟩;have e:=hm name;unfold nsFind findBy at e;rw[<-Array.find?_toList]at e;unfold uH;rw[hd];dsimp only
 split
 ·rename_i y q
  rw[q]at e;exact congrArg some e
 ·rename_i q
  rw[q]at e;have a:es.toList.any (·.refKey)=false:=by
   rw[List.any_eq_false];intro y hy;obtain⟨z,t,hkey⟩:=hk y (Array.mem_toList_iff.mp hy);simp[DictEntry.refKey,hkey]
  have a':¬es.toList.any (·.refKey)=true:=(by rw[a];exact bX);rw[if_neg a'];exact congrArg some e
theorem ObjM.look {h:Heap}{x dx C:Addr}{mA:Str->Option aC}(I:ObjM h x dx C mA):∃od,PySem.W.InstAt h x (lS C dx) C (some od)/\∀name,uH name od=some (mA name):=
 let ⟨od,ho,hl⟩:=Mo I.ns
 ⟨od,⟨I.obj,rfl,rfl,ho⟩,hl⟩
section
variable {prog:aU}{w:aZ}{A:cC}{E:aC->aG->Prop}{s:aG}{K:aB}{x dx C f:Addr}{mA:Str->Option aC}{name:Str}{v:aC}
theorem Uq {expr:Bool}{Q:aC->aG->Prop}(X:K.In s.heap)(I:ObjM s.heap x dx C mA)(hg:pQ K C name=true)(hh:rW K C=true)
  (ha:bK K (.ref C) name=some none) (hv:mA name=some v) (hv':PySem.W.handedIn v=true) (h:Q v { s with toks:=s.toks+1 }) :
  aL (aS prog w) A (yZ (.ref x) name expr) Q E s:=by
 obtain⟨od,J,hl⟩:=I.look;exact PySem.W.get_value X J (uE hg).1 (PySem.W.findObj_own hh ha rfl (by rw[hl,hv])) hv' h
theorem Pt {pl:Sem Bool}{Q:aC×List aC->aG->Prop}(X:K.In s.heap)(I:ObjM s.heap x dx C mA)(hg:pQ K C name=true)
  (hf:bK K (.ref C) name=some (some (.ref f))) (ht:oB K (.ref f)=true) (hv:mA name=none) (h:Q (.ref f,[.ref x]) s) :
  aL (aS prog w) A (wK (.ref x) name pl) Q E s:=by
 obtain⟨od,J,hl⟩:=I.look;exact PySem.W.method_fn X J (uE hg).1 (uE hg).2 hf (beq_iff_eq.mp ht) (by show(uH name od).map (·.isSome)=some false;rw[hl,hv];rfl) h
theorem Ur {ns:List Str}{Q:Unit->aG->Prop}(X:K.In s.heap)(I:ObjM s.heap x dx C mA)
  (hs:bK K (.ref C) "__setattr__"=some (some (.builtin "object.__setattr__"))) (hp:vC K C=true) (ht:wL K C name=some none) (hh:rW K C=true)
  (hw:yB mA ns) (hsz:ns.length<=sizeLine)
  (h:∀h',ObjM h' x dx C (λy=>if y=name then some v else mA y)->gI dx s.heap h'->Q () { s with heap:=h',toks:=s.toks+2 }) :
  aL (aS prog w) A (AA (.ref x) name v) Q E s:=by
 obtain⟨od,J,hl⟩:=I.look;refine PySem.W.set_plain X J hs (PySem.W.osa_open (s:={ s with toks:=s.toks+1 }) (r:=none) X J hp ht λb=>?_);obtain⟨cd,hc,CD⟩:=PySem.W.any_some hh;have hx:s.heap.get? x=some ⟨.ref C,some dx,.plain,#[]⟩:=I.obj;refine aA (wpAny_pure (aA (aA (wpAny_loadPart hx (aA (PySem.W.Looks.here (s:={ s with toks:=s.toks+1 }) (PySem.W.looks_clsIn X hc) ?_))))));rw[CD];refine wpAny_pure (a:=some dx) (aA (wpAny_pure (aA ?_)));refine yE (s:={ s with toks:=s.toks+1 }) I.ns λh' EA BL=>?_;obtain⟨oD,UB,UC,LQ,LR,LS⟩:=EA.count (PySem.Within.cons name v hw);refine aA (vQ LQ (by rw[LR];exact vR (cH LS (by rw[eE];lia))) ?_);exact wpAny_pure (h _ ⟨(BL.2 _ (Ne.symm I.ne)).trans I.obj,EA,I.ne⟩ BL)
theorem Pu {R:xC->aG->Prop}{vs:List aC}{kw:List (Str×aC)}(X:K.In s.heap)(hm:wM K C=true)
  (hi:bK K (.ref C) "__init__"=some (some (.ref f))) (hf:PySem.W.typeIn K (.ref f)=some (.type "function"))
  (h:oA (aS prog w) (A.under (.builtin "type.__call__" ⟨.ref C::vs,kw⟩)) (.call (.ref f) ⟨.ref (s.heap.objs.size+1)::vs,kw⟩) (PySem.W.InitBack (s.heap.objs.size+1) R) { s with heap:=(s.heap.push jQ).push (lS C s.heap.objs.size) }) :
  oA (aS prog w) A (.call (.ref C) ⟨vs,kw⟩) R s:=by
 obtain⟨hh,g,d,t,os⟩:=s;exact PySem.W.make_core (PySem.W.makes_of X hm) (iL X hi) (λself=>PySem.W.bind_fn X self hf) (.inl rfl) h
end
def ik (f:Str)(v:V):List (Str×V)->List (Str×V)
 | []=>[(f,v)]
 | (g,x)::r=>if g=f then (g,v)::r else (g,x)::ik f v r
theorem qt (f g:Str)(v:V):∀fs:List (Str×V),(ik f v fs).lookup g=if g=f then some v else fs.lookup g
 | []=>by
  show lG g [(f,v)]=_;by_cases h:g=f
  ·have hb:(g == f)=true:=beq_iff_eq.mpr h;simp only[lG,hb,if_pos h]
  ·have hb:(g == f)=false:=beq_eq_false_iff_ne.mpr h;simp only[lG,hb,if_neg h]
 | (k,x)::r=>by
  have ih:=qt f g v r;rw[show ik f v ((k,x)::r)=(if k=f then (k,v)::r else (k,x)::ik f v r)from rfl]
  by_cases hk:k=f
  ·rw[if_pos hk];by_cases h:g=k
   ·have hb:(g == k)=true:=beq_iff_eq.mpr h;simp only[lG,hb,if_pos (h.trans hk)]
   ·have hb:(g == k)=false:=beq_eq_false_iff_ne.mpr h;simp only[lG,hb,if_neg (λe:g=f=>h (e.trans hk.symm))]
  ·rw[if_neg hk];by_cases h:g=k
   ·have hb:(g == k)=true:=beq_iff_eq.mpr h;simp only[lG,hb,if_neg (λe:g=f=>hk (h.symm.trans e))]
   ·have hb:(g == k)=false:=beq_eq_false_iff_ne.mpr h;simp only[lG,hb];exact ih
theorem vk (f:Str)(v:V):∀fs:List (Str×V),f∈(ik f v fs).map (·.1)/\∀g,g∈fs.map (·.1)->g∈(ik f v fs).map (·.1)
 | []=>⟨by simp[ik],λg h=>by simp at h⟩
 | (k,x)::r=>by
  obtain⟨i1,i2⟩:=vk f v r;rw[show ik f v ((k,x)::r)=(if k=f then (k,v)::r else (k,x)::ik f v r)from rfl]
  by_cases hk:k=f
  ·rw[if_pos hk];subst hk;exact⟨by simp,λg h=>by simpa using h⟩
  ·rw[if_neg hk];refine⟨?_,λg h=>?_⟩
   ·rw[gU];exact cX _ i1
   ·rw[gU]at h ⊢;rcases aX.mp h with e | e
    ·exact List.mem_cons.mpr (.inl e)
    ·exact cX _ (i2 g e)
theorem x5 (f:Str)(v:V):∀fs:List (Str×V),(ik f v fs).length<=fs.length+1
 | []=>by simp[ik]
 | (k,x)::r=>by
  have ih:=x5 f v r;rw[show ik f v ((k,x)::r)=(if k=f then (k,v)::r else (k,x)::ik f v r)from rfl]
  by_cases hk:k=f
  ·rw[if_pos hk,eE,eE];lia
  ·rw[if_neg hk,eE,eE];lia
theorem RelO.some_of {v:V}{o:Option aC}(r:RelO (some v) o):∃u,o=some u/\RelV v u:=by
 cases o with
 |none=>exact(show False from r).elim
 |some u=>exact⟨u,rfl,r⟩
theorem RelO.none_of {o:Option aC}(r:RelO none o):o=none:=by
 cases o with
 |none=>rfl
 |some u=>exact(show False from r).elim
theorem Ci {v:V}{u:aC}(r:RelV v u):PySem.W.handedIn u=true:=by
 cases v with
 |non=>cases(show u=iD from r);rfl
 |bl b=>cases(show u=xJ b from r);rfl
 |int i=>obtain⟨t,e⟩:=(show ∃t,u=oR i t from r);cases e;rfl
 |str x=>obtain⟨t,e⟩:=(show ∃t,u=wH x t from r);cases e;rfl
 |byt b=>obtain⟨t,e⟩:=(show ∃t,u=Value.bytes b t from r);cases e;rfl
 |flt b=>obtain⟨t,e⟩:=(show ∃t,u=Value.float b t from r);cases e;rfl
 |ref a=>cases(show u=bZ a from r);rfl
 |ty n=>cases(show u=pM n from r);rfl
section
variable {P:aU}{w:aZ}{H H':Hp}{h h':Heap}{a C dx:Addr}{fs fs':List (Str×V)}
theorem Bk (hok:HOk P w H h)(e:H a=some (.ins C dx fs)):∃mA,ObjM h a dx C mA/\(∀f,RelO (fs.lookup f) (mA f))/\yB mA (fs.map (·.1))/\fs.length<=1000/\H dx=some (.own a):=by
 obtain⟨d,z,ne,ob,mA,n,r,q⟩:=(show ObjOk P w H h a (.ins C dx fs)from hok a _ e);exact⟨mA,⟨ob,n,ne⟩,r,q,z,d⟩
end
structure Cls (K:aB)(C:Addr):Prop where
 pg:pQ K C yF=true
 hd:rW K C=true
 po:vC K C=true
 sa:bK K (.ref C) "__setattr__"=some (some (.builtin "object.__setattr__"))
theorem Cls.get {K:aB}{C:Addr}(c:Cls K C)(f:Str):pQ K C f=true:=c.pg
def NoAttr (K:aB)(C:Addr)(f:Str):Prop:=bK K (.ref C) f=some none
theorem NoAttr.taker {K:aB}{C:Addr}{f:Str}(n:NoAttr K C f):wL K C f=some none:=by
 unfold wL;rw[show bK K (.ref C) f=some none from n];rfl
structure Pw (K:aB)(C:Addr)(m:Str)(f:Addr):Prop where
 at_:bK K (.ref C) m=some (some (.ref f))
 fn:oB K (.ref f)=true
 kp:aR K (.ref f)=true
section
variable {X:Cx}{f':List (Addr×Obj)}{σ:St}{H:Hp}{s:aG}{a C dx:Addr}{fs:List (Str×V)}{f:Str}{v:V}{A:cC}{E:aC->aG->Prop}
theorem J4 {b:Bool}{Q:aC->aG->Prop}(I:Inv X f' σ H s)(e:H a=some (.ins C dx fs))(c:Cls X.K C)(n:NoAttr X.K C f)(l:fs.lookup f=some v)
  (h:∀u s',Inv X f' σ H s'->RelV v u->Q u s'):aL (aS X.prog X.w) A (yZ (.ref a) f b) Q E s:=by
 obtain⟨mA,O,r,_,_,_⟩:=Bk I.hok e;obtain⟨u,hu,ru⟩:=RelO.some_of (v:=v) (o:=mA f) (by rw[<-l];exact r f);exact Uq I.kIn O (c.get f) c.hd n hu (Ci ru) (h u _ (I.tok _) ru)
theorem J5 {m:Str}{g:Addr}{pl:Sem Bool}{Q:aC×List aC->aG->Prop}(I:Inv X f' σ H s)(e:H a=some (.ins C dx fs))(c:Cls X.K C)(k:Pw X.K C m g)(l:fs.lookup m=none)
  (h:Q (.ref g,[.ref a]) s):aL (aS X.prog X.w) A (wK (.ref a) m pl) Q E s:=by
 obtain⟨mA,O,r,_,_,_⟩:=Bk I.hok e;have hn:mA m=none:=RelO.none_of (by rw[<-l];exact r m);exact Pt I.kIn O (c.get m) k.at_ k.fn hn h
theorem J7 {y:V}{u:aC}{Q:Unit->aG->Prop}(I:Inv X f' σ H s)(e:H a=some (.ins C dx fs))(c:Cls X.K C)(n:NoAttr X.K C f)(hl:fs.length < 1000)(ry:RelV y u)
  (h:∀s',Inv X f' σ (upd H a (.ins C dx (ik f y fs))) s'->Q () s'):aL (aS X.prog X.w) A (AA (.ref a) f u) Q E s:=by
 obtain⟨mA,O,r,wi,_,ho⟩:=Bk I.hok e;have hz:(fs.map (·.1)).length<=sizeLine:=(by rw[aJ,iN];lia);refine Ur I.kIn O c.sa c.po n.taker c.hd wi hz λh' O' sb=>h _ ?_;have hd:∃o,h'.get? dx=some o:=let ⟨o,_,_,e',_⟩:=O'.ns;⟨o,e'⟩;refine I.write (x:=a) (e:=dx) (by rw[e];exact rF) (.inr ho) (λb q hb z=>(sb.2 b hb).trans z) hd ?_;refine⟨by rw[ao O.ne];exact ho,?_,O.ne,O'.obj,_,O'.ns,λg=>?_,λg hg=>?_⟩
 ·have:=x5 f y fs;lia
 ·show RelO ((ik f y fs).lookup g) (if g=f then some u else mA g)
  rw[qt];by_cases q:g=f
  ·rw[if_pos q,if_pos q];exact ry
  ·rw[if_neg q,if_neg q];exact r g
 ·by_cases q:g=f
  ·rw[q];exact(vk f y fs).1
  ·refine(vk f y fs).2 g (wi g λz=>hg ?_);show(if g=f then some u else mA g)=none
   rw[if_neg q];exact z
theorem Inv.made (I:Inv X f' σ H s):Inv X f' σ (upd (upd H s.heap.objs.size (.own (s.heap.objs.size+1))) (s.heap.objs.size+1) (.ins C s.heap.objs.size []))
  { s with heap:=(s.heap.push jQ).push (lS C s.heap.objs.size) }:=by
 have e1:(s.heap.push jQ).get? s.heap.objs.size=some jQ:=aY s.heap rfl;have e2:((s.heap.push jQ).push (lS C s.heap.objs.size)).get? (s.heap.objs.size+1)=some (lS C s.heap.objs.size):=by
  have:=aY (s.heap.push jQ) (o:=lS C s.heap.objs.size) rfl
  rwa [eY]at this
 have e3:(s.heap.push jQ).Ns s.heap.objs.size (λ_=>none):=⟨jQ,#[],_,e1,rfl,(λe he=>absurd he (by simp)),λ_=>rfl⟩;have I1:=I.laid (a:=s.heap.objs.size) (o:=.own (s.heap.objs.size+1)) (h':=s.heap.push jQ) (t':=s.toks) (λb u q=>aI _ q) (aN _) ⟨_,e1⟩;refine I1.laid (a:=s.heap.objs.size+1) (o:=.ins C s.heap.objs.size []) (t':=s.toks) (λb u q=>aI _ q) (Nat.le_of_eq (eY _ _)) ?_;have ne:s.heap.objs.size≠s.heap.objs.size+1:=cE (mX _);refine⟨by rw[ao ne,af],gO _,ne,e2,λ_=>none,(Heap.Ns1.of_empty e3).at λo q=>aI _ q,λ_=>rF,λy hy=>absurd rfl hy⟩
theorem Hz {prog:aU}{w:aZ}{env:Env}{e:Expr}{f:Str}{pos:Pos}{s:aG}{Q:aC->aG->Prop}(hb:nP e f env (eval e env)=eval e env)
  (h:aL (aS prog w) A (eval e env) (λo s₁=>aL (aS prog w) A (yZ o f true) Q E s₁) E s):aL (aS prog w) A (eval (.Attribute e f pos) env) Q E s:=
 Attribute_any_ h (by rw[arm_eval_Attribute,hb])
end
def tFld (K:aB)(ta:TE)(f:Str):TE:=λσ H Q=>ta σ H λx H1=>∃a C dx fs v,x=.ref a/\H1 a=some (.ins C dx fs)/\Cls K C/\NoAttr K C f/\fs.lookup f=some v/\Q v H1
def sFld (K:aB)(ta tv:TE)(f:Str):TS:=λD σ H=>tv σ H λy H1=>ta σ H1 λx H2=>∃a C dx fs,x=.ref a/\H2 a=some (.ins C dx fs)/\Cls K C/\NoAttr K C f/\fs.length < 1000/\
 D.nx σ (upd H2 a (.ins C dx (ik f y fs)))
section
variable {X:Cx}{o e value:Expr}{f:Str}{pos BH CN:Pos}{ta tv:TE}
theorem Ae (he:PE X e ta)(hb:nP e f X.env (eval e X.env)=eval e X.env):PE X (.Attribute e f pos) (tFld X.K ta f):=by
 intro f' s σ H Q I h;refine Hz hb (thn (he f' s σ H _ I h) λu s1 AD=>?_);obtain⟨x,H1,I1,rx,a,C,dx,fs,v,ex,ea,c,n,l,q⟩:=AD;subst ex;obtain rfl:u=bZ a:=rx;exact J4 I1 ea c n l λu' s2 I2 ru=>⟨v,H1,I2,ru,q⟩
theorem Mp (ha:PE X o ta)(hv:PE X value tv)(hs:qU value (some (.Attribute o f BH)) pos.line X.env=pure false):PS X (.Assign [.Attribute o f BH] value pos) (sFld X.K ta tv f):=by
 intro f' s σ H D I h;refine plainObj_wpAny_Assign_Attribute (thn (hv f' s σ H _ I h) λu s1 AD=>?_) hs;obtain⟨y,H1,I1,ry,q⟩:=AD;refine thn (ha f' s1 σ H1 _ I1 q) λov s2 AD=>?_;obtain⟨x,H2,I2,rx,a,C,dx,fs,ex,ea,c,n,l,q2⟩:=AD;subst ex;obtain rfl:ov=bZ a:=rx;exact J7 I2 ea c n l ry λs3 I3=>⟨σ,_,I3,q2⟩
end
section
variable {X:Cx}{f':List (Addr×Obj)}{σ:St}{H:Hp}{s:aG}{A:cC}{E:aC->aG->Prop}{Q:aC->aG->Prop}{c:aC}{b:Bool}
end
structure Room (k:Nat)(A:cC):Prop where
 hd:A.handled=none
 dp:A.depth+3 * k+5 < recursionLimit
 un:A.units+16 * k+200 < jH
theorem Room.mono {j k:Nat}{A:cC}(r:Room k A)(h:j<=k):Room j A:=⟨r.hd,by have:=r.dp;lia,by have:=r.un;lia⟩
theorem Room.deeper {k:Nat}{A:cC}(r:Room (k+1) A)(env:Env):Room k (A.deeper env):=
 ⟨r.hd,by have:=r.dp;show A.depth+1+3 * k+5 < _;lia,by have:=r.un;show A.units+3+16 * k+200 < _;lia⟩
theorem J8 {A:cC}{C:Addr}{us:List aC}{kw:List (Str×aC)}:(A.under (.builtin "type.__call__" ⟨.ref C::us,kw⟩)).depth=A.depth+1:=by
 first | rfl | simp[yG,Code.weight,Code.isCreation,Code.isGuard,Code.isCaller,Code.frames,yH,guardIds]
theorem J9 {A:cC}{C:Addr}{us:List aC}{kw:List (Str×aC)}:(A.under (.builtin "type.__call__" ⟨.ref C::us,kw⟩)).units=A.units+1:=by
 first | rfl | simp[yG,Code.cUnits,Code.frames,yH]
theorem Room.make {k:Nat}{A:cC}(r:Room (k+1) A)(C:Addr)(us:List aC)(kw:List (Str×aC)):Room k (A.under (.builtin "type.__call__" ⟨.ref C::us,kw⟩)):=
 ⟨r.hd,by have:=r.dp;rw[J8];lia,by have:=r.un;rw[J9];lia⟩
theorem Room.depth {k:Nat}{A:cC}(r:Room k A):A.depth < recursionLimit:=by have:=r.dp;lia
theorem Room.units {k:Nat}{A:cC}(r:Room k A):A.units+64 < jH:=by have:=r.un;lia
def Px:TA:=λ_ H Q=>Q [] H
def xn (ta:TE)(tr:TA):TA:=λσ H Q=>ta σ H λx H1=>tr σ H1 λxs H2=>Q (x::xs) H2
section
variable {X:Cx}{e:Expr}{es:List Expr}{te:TE}{t:TA}{pos:Pos}
theorem ag:PA X [] Px:=λ_ _ _ _ H Q I h=>vD ⟨[],H,I,.nil,h⟩
theorem aa (ha:PE X e te)(hr:PA X es t)(hs:cJ (e::es) X.env=(false,eval e X.env)::cJ es X.env:=by rfl):PA X (e::es) (xn te t):=by
 intro pos f' s σ H Q I h;rw[hs];show aL _ _ (zZ ((false,eval e X.env)::jU pos (cJ es X.env))) _ _ s;refine uQ (thn (ha f' s σ H _ I h) λu s1 AD=>?_);obtain⟨x,H1,I1,r1,q1⟩:=AD;exact thn (hr pos f' s1 σ H1 _ I1 q1) λus s2 AD=>by obtain⟨xs,H2,I2,r2,q2⟩:=AD;exact⟨x::xs,H2,I2,.cons r1 r2,q2⟩
def Py (t:TA):TE:=λσ H Q=>t σ H λxs H1=>xs.length<=sizeLine/\∀p,H1 p=none->Q (.ref p) (upd H1 p (.tup xs))
def tLst (t:TA):TE:=λσ H Q=>t σ H λxs H1=>xs.length<=sizeLine/\∀p,H1 p=none->Q (.ref p) (upd H1 p (.lst xs))
theorem cb {x1}(h:PA X es t):PE X (.Tuple es x1 pos) (Py t):=by
 intro f' s σ H Q I hq;refine wpAny_Tuple_spliced (thn (h pos f' s σ H _ I hq) λus s1 ⟨xs,H1,I1,r,z,q⟩=>⟨by rw[<-r.length];exact z,?_⟩);have hf:H1 s1.heap.objs.size=none:=I1.hok.fresh (aN _);refine⟨.ref s1.heap.objs.size,upd H1 s1.heap.objs.size (.tup xs),I1.laid (t':=s1.toks) (λb u e=>aI _ e) (aN _) ?_,rfl,q _ hf⟩;exact⟨z,us,r,⟨_,aY _ rfl,rfl,_,rfl⟩⟩
theorem bc (h:PA X es t):PE X (.List es pos) (tLst t):=by
 intro f' s σ H Q I hq;refine wpAny_List_spliced (thn (h pos f' s σ H _ I hq) λus s1 ⟨xs,H1,I1,r,z,q⟩=>⟨by rw[<-r.length];exact z,?_⟩);have hf:H1 s1.heap.objs.size=none:=I1.hok.fresh (aN _);refine⟨.ref s1.heap.objs.size,upd H1 s1.heap.objs.size (.lst xs),I1.laid (t':=s1.toks) (λb u e=>aI _ e) (aN _) ?_,rfl,q _ hf⟩;exact⟨z,us,0,r,aY _ rfl⟩
end
abbrev Sp:=List V->Hp->VK->XK->Prop
abbrev CXT:=List Env->Hp->aG->XK->aC->aG->Prop
structure Env0 (P:aU)(w:aZ)(K:aB)(mg:Str->Option aC)(base:Heap)(A:cC)(outer:List Env)(s:aG)(H:Hp):Prop where
 frames:A.frames=some outer
 mod:Mod K mg base
 bs:∀b o,base.get? b=some o->s.heap.get? b=some o/\H b=none
 bsz:base.objs.size<=s.heap.objs.size
 funs:s.heap.FunFrames base outer
 frf:∀b∈frs outer,H b=none
 hok:HOk P w H s.heap
 bare:qG s.gens
def CE (outer:List Env)(P:aU)(w:aZ)(H:Hp)(s:aG)(Q:VK)(u:aC)(s':aG):Prop:=
 ∃v H',s'.os=s.os/\qG s'.gens/\Un (frs outer) [] H H' s.heap s'.heap/\HOk P w H' s'.heap/\RelV v u/\Q v H'
def CR (CX:CXT)(outer:List Env)(P:aU)(w:aZ)(H:Hp)(s:aG)(Q:VK)(E:XK)(r:xC)(s':aG):Prop:=
 match r with
 | .ok (.ret u)=>CE outer P w H s Q u s'
 | .ok _=>False
 | .error e=>CX outer H s E e s'
structure FnOk (P:aU)(w:aZ)(K:aB)(mg:Str->Option aC)(base:Heap)(CX:CXT)(k:Nat)(f:Addr)(fd:bQ)(ps:List Str)(sp:Sp):Prop where
 len:∀vs H Q E,sp vs H Q E->vs.length=ps.length
 run:∀(A:cC)(outer:List Env) (s:aG) (H:Hp) (args:Args) (us:List aC) (vs:List V) (Q:VK) (E:XK),Room k A->Env0 P w K mg base A outer s H->xD s fd args (ps.zip us)->Vals vs us->sp vs H Q E->
  oA (aS P w) A (.call (.ref f) args) (CR CX outer P w H s Q E) s
theorem Env0.make {P:aU}{w:aZ}{K:aB}{mg:Str->Option aC}{base:Heap}{A:cC}{outer:List Env}{s:aG}{H:Hp}(e:Env0 P w K mg base A outer s H)(C:Addr)(us:List aC)(kw:List (Str×aC)) :
  Env0 P w K mg base (A.under (.builtin "type.__call__" ⟨.ref C::us,kw⟩)) outer s H:=⟨by first | exact e.frames | (simpa[yG,Code.envs,yH,pushEnvs]using e.frames),e.mod,e.bs,e.bsz,e.funs,e.frf,e.hok,e.bare⟩
section
variable {X:Cx}{f':List (Addr×Obj)}{σ:St}{H:Hp}{s s':aG}
theorem Inv.env0 (I:Inv X f' σ H s):Env0 X.prog X.w X.K X.mg X.base X.A X.stack s H:=
 ⟨I.ok.frames,I.ok.mod,I.bs,cH I.ok.bsz I.sz,I.stack,I.stkFree,I.hok,I.bare⟩
theorem Inv.after {Q:VK}{u:aC}(I:Inv X f' σ H s)(h:CE X.stack X.prog X.w H s Q u s'):EP X f' σ Q u s':=by
 obtain⟨v,H',os,bare,un,hok,r,q⟩:=h;obtain⟨hh,g,d,t,QF⟩:=s';obtain rfl:QF=s.os:=os;exact⟨v,H',I.call (h':=hh) (g':=g) (d':=d) (t':=t) (ch:=[]) un hok bare (λb z=>absurd z (by simp)),r,q⟩
end
def Sv (sp:Sp)(CB:List V)(E:XK)(t:TA):TE:=λσ H Q=>t σ H λvs H1=>sp (vs++CB) H1 Q E
def Zi (C:Addr)(m:Str)(sp:Sp)(CB:List V)(E:XK)(ta:TE)(t:TA):TE:=λσ H Q=>ta σ H λx H1=>∃a dx fs,x=.ref a/\H1 a=some (.ins C dx fs)/\fs.lookup m=none/\
 t σ H1 λvs H2=>sp (x::(vs++CB)) H2 Q E
def Zj (C:Addr)(sp:Sp)(CB:List V)(E:XK)(t:TA):TE:=λσ H Q=>t σ H λvs H1=>∀x dx,H1 x=none->H1 dx=none->dx≠x->
 sp (.ref x::(vs++CB)) (upd (upd H1 dx (.own x)) x (.ins C dx [])) (λv H2=>v=.non/\Q (.ref x) H2) E
def Binds (K:aB)(fd:bQ)(ps:List Str)(ds:List aC):Prop:=
 ∀(s:aG)(us:List aC),K.In s.heap->(us++ds).length=ps.length->xD s fd ⟨us,[]⟩ (ps.zip (us++ds))
theorem Binds.all {K:aB}{fd:bQ}{ps:List Str}(h:∀us:List aC,us.length=ps.length->pR fd ⟨us,[]⟩=pure (ps.zip us)):Binds K fd ps []:=λs us _ hl=>by
 rw[nI]at hl ⊢;exact .of_eq (h us hl)
def n8 (CX:CXT)(X:Cx)(E:XK):Prop:=∀(f':List (Addr×Obj))(σ:St) (H:Hp) (s:aG) (e:aC) (s':aG),Inv X f' σ H s->CX X.stack H s E e s'->X.xe e s'
section
variable {X:Cx}{CX:CXT}{k:Nat}{f C:Addr}{fd:bQ}{ps:List Str}{sp:Sp}{CB:List V}{ds:List aC}{E:XK}{x m:Str}{p pos AX:Pos}{e o:Expr}{es:List Expr}{ta:TE}{t:TA}
theorem D5 {f':List (Addr×Obj)}{σ:St}{H:Hp}{s:aG}{Q:VK}{us:List aC}{vs:List V}(F:FnOk X.prog X.w X.K X.mg X.base CX k f fd ps sp)(hr:Room k X.A)(hb:Binds X.K fd ps ds)(hd:Vals CB ds)(hx:n8 CX X E)
  (I:Inv X f' σ H s) (r:Vals vs us) (h:sp (vs++CB) H Q E):aL (aS X.prog X.w) X.A (call (.ref f) us) (EP X f' σ Q) X.xe s:=by
 have r2:Vals (vs++CB) (us++ds):=r.append hd;have hl:(us++ds).length=ps.length:=(by rw[<-r2.length];exact F.len _ _ _ _ h);refine rG (lU (F.run X.A X.stack s H ⟨us,[]⟩ (us++ds) (vs++CB) Q E hr I.env0 (hb s us I.kIn hl) r2 h) λr s' hq=>?_);cases r with
 |error e=>exact hx f' σ H s e s' I hq
 |ok fl=>
  cases fl with
  |ret u=>exact I.after hq
  |next=>exact iG hq
  |brk=>exact iG hq
  |cont=>exact iG hq
theorem ar (F:FnOk X.prog X.w X.K X.mg X.base CX k f fd ps sp)(hr:Room k X.A)(hg:Gl X x)(hm:X.mg x=some (.ref f))(hk:aR X.K (.ref f)=true)(hb:Binds X.K fd ps ds)(hd:Vals CB ds)(hx:n8 CX X E)
  (ha:PA X (e::es) t) (C':(x == ("__debug__":Str))=false:=by decide) (he:cJ (e::es) X.env=(false,eval e X.env)::cJ es X.env:=by rfl) (BK:(jU pos (cJ es X.env)).any (·.1)=false:=by rfl) :
  PE X (.Call (.Name x p) (e::es) [] pos) (Sv sp CB E t):=by
 intro f' s σ H Q I h;refine jZ (j3 I hg hm ?_ C');refine nB (h₀:=X.base) I.ok.mod.kin hk (thn (ha pos f' s σ H _ I h) λus s1 AD=>?_) he BK;obtain⟨vs,H1,I1,r,q⟩:=AD;refine⟨I1.kIn,?_⟩;exact D5 F hr hb hd hx I1 r q
theorem Bl {pl:Sem Bool}(he:PE X o ta)(c:Cls X.K C)(hm:Pw X.K C m f)(F:FnOk X.prog X.w X.K X.mg X.base CX k f fd ps sp)(hr:Room k X.A)(hb:Binds X.K fd ps ds)(hd:Vals CB ds)(hx:n8 CX X E)(ha:PA X (e::es) t)
  (CZ:cJ (e::es) X.env=(false,eval e X.env)::cJ es X.env:=by rfl) (BK:(jU pos (cJ es X.env)).any (·.1)=false:=by rfl)
  (ht:eval (.Call (.Attribute o m AX) (e::es) [] pos) X.env=(do
    let ov <-eval o X.env
    vL AX.atName
    let (f,first) <-rE [ov] (wK ov m pl)
    callWith pos f first (jU pos (cJ (e::es) X.env)) (vS pos (sE [] X.env))):=by rfl) :
  PE X (.Call (.Attribute o m AX) (e::es) [] pos) (Zi C m sp CB E ta t):=by
 intro f' s σ H Q I h;refine sW (pl:=pl) (thn (he f' s σ H _ I h) λu s1 AD=>?_) ht;obtain⟨x,H1,I1,rx,a,dx,fs,ex,ea,l,q⟩:=AD;subst ex;obtain rfl:u=bZ a:=rx;refine J5 I1 ea c hm l ?_;refine nB (first:=[.ref a]) (h₀:=X.base) I.ok.mod.kin hm.kp (thn (ha pos f' s1 σ H1 _ I1 q) λus s2 AD=>?_) CZ BK
 obtain⟨vs,H2,I2,r,q2⟩:=AD;refine⟨I2.kIn,?_⟩;exact D5 (us:=.ref a::us) (vs:=.ref a::vs) F hr hb hd hx I2 (.cons rfl r) q2
structure Mk (K:aB)(C f:Addr):Prop where
 makes:wM K C=true
 init:bK K (.ref C) "__init__"=some (some (.ref f))
 fn:oB K (.ref f)=true
 kp:aR K (.ref C)=true
theorem Pz {f':List (Addr×Obj)}{σ:St}{H:Hp}{s:aG}{Q:VK}{us:List aC}{vs:List V}(M:Mk X.K C f)(F:FnOk X.prog X.w X.K X.mg X.base CX k f fd ps sp)(hr:Room (k+1) X.A)(hb:Binds X.K fd ps ds)(hd:Vals CB ds)
  (hx:n8 CX X E) (I:Inv X f' σ H s) (r:Vals vs us)
  (h:∀x dx,H x=none->H dx=none->dx≠x->sp (.ref x::(vs++CB)) (upd (upd H dx (.own x)) x (.ins C dx [])) (λv H2=>v=.non/\Q (.ref x) H2) E) :
  aL (aS X.prog X.w) X.A (call (.ref C) us) (EP X f' σ Q) X.xe s:=by
 have hq:=h (s.heap.objs.size+1) s.heap.objs.size (I.hok.fresh (sF _)) (I.hok.fresh (aN _)) (cE (mX _));have I2:=Inv.made (C:=C) I;have r2:Vals (V.ref (s.heap.objs.size+1)::(vs++CB)) (bZ (s.heap.objs.size+1)::(us++ds)):=.cons rfl (r.append hd);have hl:(bZ (s.heap.objs.size+1)::us++ds).length=ps.length:=by
  have e:=r2.length;rw[F.len _ _ _ _ hq]at e;exact e.symm
 refine rG (Pu (f:=f) I.kIn M.makes M.init (beq_iff_eq.mp M.fn) (lU (F.run _ X.stack _ _ ⟨bZ (s.heap.objs.size+1)::us,[]⟩ (bZ (s.heap.objs.size+1)::(us++ds)) _ _ E (hr.make C us []) (I2.env0.make C us []) (hb _ (bZ (s.heap.objs.size+1)::us) I2.kIn hl) r2 hq) λr s' DP=>?_));cases r with
 |error e=>exact hx f' σ _ _ e s' I2 DP
 |ok fl=>
  cases fl with
  |ret u=>
   obtain⟨v,H',I3,rv,ev,q3⟩:=I2.after DP;subst ev;exact⟨rv,⟨V.ref (s.heap.objs.size+1),H',I3,rfl,q3⟩⟩
  |next=>exact iG DP
  |brk=>exact iG DP
  |cont=>exact iG DP
theorem Us (M:Mk X.K C f)(F:FnOk X.prog X.w X.K X.mg X.base CX k f fd ps sp)(hr:Room (k+1) X.A)(hg:Gl X x)(hm:X.mg x=some (.ref C))(hb:Binds X.K fd ps ds)(hd:Vals CB ds)(hx:n8 CX X E)
  (ha:PA X (e::es) t) (C':(x == ("__debug__":Str))=false:=by decide) (he:cJ (e::es) X.env=(false,eval e X.env)::cJ es X.env:=by rfl) (BK:(jU pos (cJ es X.env)).any (·.1)=false:=by rfl) :
  PE X (.Call (.Name x p) (e::es) [] pos) (Zj C sp CB E t):=by
 intro f' s σ H Q I h;refine jZ (j3 I hg hm ?_ C');refine nB (h₀:=X.base) I.ok.mod.kin M.kp (thn (ha pos f' s σ H _ I h) λus s1 AD=>?_) he BK;obtain⟨vs,H1,I1,r,q⟩:=AD;refine⟨I1.kIn,?_⟩;exact Pz M F hr hb hd hx I1 r q
end
section
variable {X:Cx}{CX:CXT}{k:Nat}{f C:Addr}{fd:bQ}{ps ks:List Str}{sp:Sp}{E:XK}{x m:Str}{p pos AX kpos:Pos}{e o:Expr}{es:List Expr}{kws:List vM}{te ta:TE}{t tk:TA}{nm:Option Str}
variable {g:List aC->List aC->List aC}{gV:List V->List V->List V}
end
structure aw (N P:List Str)(sc:gQ):Prop where
 kind:sc.kind=.function
 co:sc.isCoroutine=false
 gen:sc.isGenerator=false
 nd:N.Nodup
 pre:N.take P.length=P
 par:∀x∈P,sc.names.lookup x=some .local\/sc.names.lookup x=some .cell
 nofree:∀y∈sc.names,y.2≠.free
theorem Cj {kindOf:Str->Option uI}{x:Str}:∀{binds:List (Str×aC)}{m:Str->Option aC},(∀v,(x,v) ∉ binds)->xK kindOf binds m x=m x
 | [],_,_=>rfl
 | (n,v)::r,m,h=>by
  unfold xK;rw[Cj λw hw=>h w (cX _ hw)]
  split
  ·have:x≠n:=(by rintro rfl;exact h v eF);simp[this]
  ·rfl
theorem Ck {kindOf:Str->Option uI}{x:Str}:∀{binds:List (Str×aC)}{m:Str->Option aC},(∀v,(x,v) ∉ binds)->xM kindOf binds m x=m x
 | [],_,_=>rfl
 | (n,v)::r,m,h=>by
  unfold xM;rw[Ck λw hw=>h w (cX _ hw)]
  split
  ·rfl
  ·have:x≠n:=(by rintro rfl;exact h v eF);simp[this]
theorem Cm {kindOf:Str->Option uI}{x:Str}{v:aC}:∀{P:List Str}{vs:List aC}{i:Nat}{m:Str->Option aC},P.Nodup->P[i]?=some x->vs[i]?=some v->kindOf x=some .local->
  xK kindOf (P.zip vs) m x=some v
 | [],_,_,_,_,h,_,_=>by simp at h
 |_::_,[],_,_,_,_,h,_=>by simp at h
 |p::P,w::vs,0,m,nd,h1,h2,hk=>by
  simp at h1 h2;subst h1;subst h2;show xK kindOf ((p,w)::P.zip vs) m p=_;unfold xK;rw[Cj λv hv=>(qM.mp nd).1 (wN hv).1,if_pos hk];simp
 |p::P,w::vs,i+1,m,nd,h1,h2,hk=>by
  show xK kindOf ((p,w)::P.zip vs) m x=_;unfold xK;exact Cm (i:=i) (qM.mp nd).2 (by simpa using h1) (by simpa using h2) hk
theorem Cn {kindOf:Str->Option uI}{x:Str}{v:aC}:∀{P:List Str}{vs:List aC}{i:Nat}{m:Str->Option aC},P.Nodup->P[i]?=some x->vs[i]?=some v->kindOf x≠some .local->
  xM kindOf (P.zip vs) m x=some v
 | [],_,_,_,_,h,_,_=>by simp at h
 |_::_,[],_,_,_,_,h,_=>by simp at h
 |p::P,w::vs,0,m,nd,h1,h2,hk=>by
  simp at h1 h2;subst h1;subst h2;show xM kindOf ((p,w)::P.zip vs) m p=_;unfold xM;rw[Ck λv hv=>(qM.mp nd).1 (wN hv).1,if_neg hk];simp
 |p::P,w::vs,i+1,m,nd,h1,h2,hk=>by
  show xM kindOf ((p,w)::P.zip vs) m x=_;unfold xM;exact Cn (i:=i) (qM.mp nd).2 (by simpa using h1) (by simpa using h2) hk
def start (N:List Str)(vs:List V):St:=vs.map some++dJ (N.length - vs.length) none
def bh (CX:CXT)(P:aU)(w:aZ)(K:aB)(mg:Str->Option aC)(base:Heap)(N:List Str)(AI:Str)(scope:gQ)(f:Addr)(cd:aC)(A:cC)(outer:List Env)(s:aG)(H:Hp)(E:XK):Cx where
 prog:=P
 w:=w
 K:=K
 mg:=mg
 base:=base
 A:=A.deeper (sI AI scope s.heap.objs.size f cd)
 N:=N
 s₀:=s
 H₀:=H
 env:=sI AI scope s.heap.objs.size f cd
 outer:=outer
 stack:=sI AI scope s.heap.objs.size f cd::outer
 ex:=[]
 calm:=true
 fn:=λ_=>true
 pn:=[]
 xe:=λe s'=>aL (aS P w) (A.deeper (sI AI scope s.heap.objs.size f cd)) (leaving (sI AI scope s.heap.objs.size f cd) e) (λ_ LU=>CX outer H s E e LU) (λe' LU=>CX outer H s E e' LU) s'
theorem D6 {sc:gQ}{n:Nat}{x:Str}(h:sc.names.lookup x=some .cell):∃c,(cellsFrom n sc.names []).lookup x=some c:=by
 have q:=PySem.W.cellsFrom_some sc.names n [] (.inl h);exact oC.mp q
theorem Mq {CX:CXT}{P:aU}{w:aZ}{K:aB}{mg:Str->Option aC}{base:Heap}{N ps:List Str}{AI:Str}{scope:gQ}{f:Addr}{cd:aC}{A:cC}{outer:List Env}{s s1:aG}{H:Hp}{E:XK}{us:List aC}{vs:List V}
  (S:aw N ps scope) (hd:A.handled=none) (e0:Env0 P w K mg base A outer s H) (hl:vs.length=ps.length) (r:Vals vs us)
  (x:InCallC s s.heap.objs.size (xK (sI AI scope s.heap.objs.size f cd).kindOf (ps.zip us) λ_=>none) (cellsFrom (s.heap.objs.size+1) scope.names []) (xM (sI AI scope s.heap.objs.size f cd).kindOf (ps.zip us) λ_=>none) s1) :
  Inv (bh CX P w K mg base N AI scope f cd A outer s H E) [] (start N vs) H s1:=by
 have BK:ps.length<=N.length:=(by have:=congrArg zB S.pre;rw[cK]at this;lia);obtain⟨h1,tk,rfl,hk⟩:=x.done;have LV:∀b:Addr,b ∉ (bh CX P w K mg base N AI scope f cd A outer s H E).ex:=λb z=>absurd (show b∈([]:List Addr)from z) (by simp);refine⟨⟨e0.mod,S.kind,rfl,rfl,aN _,λy z c h1 h2=>?_,λy hy=>?_,λy c _ h=>?_,λ_=>hd,Around.frames_deeper e0.frames,.inr ⟨rfl,rfl⟩,λb z=>absurd z (LV b),e0.bs,e0.bsz,λb _ _=>LV b,λb z=>absurd z (LV b),e0.funs,e0.frf⟩,
   rfl,e0.bare,Un.kept hk,⟨_,x.toInCall.ns,λi y v h1 h2 h3=>?_⟩,λy c h=>⟨_,x.cell y c h⟩,e0.hok.fresh (aN _),λy c h=>?_,λp hp=>absurd (show p∈([]:List (Addr×Obj))from hp) (by simp),e0.hok.kept hk,?_⟩
 ·exact name_of_addr x.apart (mQ h1) (mQ h2)
 ·have hy:scope.names.lookup y=some .cell\/scope.names.lookup y=some .free:=hy;rcases hy with hy | hy
  ·exact D6 hy
  ·exact absurd rfl (S.nofree _ (mQ hy))
 ·exact lF (x.above y c (mQ h))
 ·have hi:i < vs.length:=by
   unfold start at h2;by_cases hi:i < vs.length
   ·exact hi
   ·rw[gF (by simpa using hi)]at h2;rw[mK]at h2
    split at h2<;>cases h2
  have ha:vs[i]?=some v:=by
   unfold start at h2;rw[eK (by simpa using hi),cQ]at h2;cases e:vs[i]? with
   |none=>rw[e]at h2;cases h2
   |some a=>rw[e]at h2;cases h2;rfl
  obtain⟨u,hu,rv⟩:=r.get ha;have hp:ps[i]?=some y:=by
   rw[<-S.pre,List.getElem?_take_of_lt (by lia)];exact h1
  have UD:ps.Nodup:=(by rw[<-S.pre];exact S.nd.sublist (List.take_sublist _ _));refine⟨u,rv,?_⟩;rcases S.par y (bV hp)with k | k
  ·exact .inl ⟨k,Cm UD hp hu k⟩
  ·obtain⟨c,e⟩:=D6 (n:=s.heap.objs.size+1) k;refine .inr ⟨.inl k,c,e,?_⟩;have q:=x.cell y c e;rw[Cn UD hp hu (by show scope.names.lookup y≠_;rw[k];decide)]at q;exact q
 ·exact e0.hok.fresh (lF (x.above y c (mQ h)))
 ·unfold start;show _=N.length;rw[aQ,aJ,iA];lia
theorem Sx {CX:CXT}{P:aU}{w:aZ}{K:aB}{mg:Str->Option aC}{base:Heap}{k:Nat}{f:Addr}{name AI:Str}{params:Arguments}{body:List Stmt}{scope:gQ}{dV kV BA pm AF ct oc:aC}{an od:Option Addr}
  {FA:Array (Option aC)}{N ps:List Str}{sp:Sp}(lk:K.lookup f=some ⟨oc,od,.func (gP name AI params body scope dV kV BA pm an AF ct),FA⟩) (EL:lB K AF AI=true) (S:aw N ps scope)
  (len:∀vs H Q E,sp vs H Q E->vs.length=ps.length)
  (DA:∀(A:cC)(outer:List Env) (s:aG) (H:Hp) (vs:List V) (Q:VK) (E:XK),Room k (A.deeper (sI AI scope s.heap.objs.size f AF))->sp vs H Q E->∃t,PSs (bh CX P w K mg base N AI scope f AF A outer s H E) body t/\t { nx:=λ_ H'=>Q .non H',rt:=Q } (start N vs) H) :
  FnOk P w K mg base CX (k+1) f (gP name AI params body scope dV kV BA pm an AF ct) ps sp:=by
 refine⟨len,λA outer s H args us vs Q E hr e0 hb r AY=>?_⟩;have hl:=len _ _ _ _ AY;have KX:K.In s.heap:=e0.mod.kin.keeps λb o e=>(e0.bs b o e).1;have lim:s.heap.NoLimit:=e0.mod.nolimit.keeps λb o e=>(e0.bs b o e).1;have hkind:∀y∈ps.zip us,scope.names.lookup y.1=some .local\/(scope.names.lookup y.1=some .cell/\((cellsFrom (s.heap.objs.size+1) scope.names []).lookup y.1).isSome=true):=λ⟨n,v⟩ hy=>by
  rcases S.par n (wN hy).1 with q | q
  ·exact .inl q
  ·exact .inr ⟨q,PySem.W.cellsFrom_some _ _ _ (.inl q)⟩
 refine codeAny_call_function hr.depth (KX _ _ lk) rfl S.co S.gen rfl (PySem.W.codeRec_of KX EL) (hb _ _ _ _ ?_);refine wpAny_newFunctionEnv_cells S.kind hkind λenv he s1 x=>?_;subst he;refine⟨lim.keeps x.toInCall.keep,codeAny_func ?_⟩;obtain⟨t,ht,hq⟩:=DA A outer s H vs Q E (hr.deeper _) AY;have I:Inv (bh CX P w K mg base N AI scope f AF A outer s H E) [] (start N vs) H s1:=Mq S hr.hd e0 hl r x;refine gB (ht [] s1 (start N vs) H _ I hq) (λfl s' hs=>?_) λe s' hs=>hs;have AK:∀{σ':St}{H':Hp}{v:V}{u:aC},Inv (bh CX P w K mg base N AI scope f AF A outer s H E) [] σ' H' s'->RelV v u->Q v H'->CE outer P w H s Q u s':=
  λ{σ' H' v u} J rv q=>⟨v,H',J.os,J.bare,J.base,J.hok,rv,q⟩
 cases fl with
 |ret u=>
  obtain⟨v,σ',H',J,rv,q⟩:=hs;exact AK J rv q
 |next=>
  obtain⟨σ',H',J,q⟩:=hs;exact AK (v:=V.non) (u:=iD) J rfl q
 |brk=>
  obtain⟨_,_,_,q⟩:=hs;exact iG q
 |cont=>
  obtain⟨_,_,_,q⟩:=hs;exact iG q
section
variable {X:Cx}{x:Str}{p pos:Pos}{e:Expr}{es:List Expr}{t:TA}{id T:String}{r:List V->Hp->VK->Prop}
def tCB (r:List V->Hp->VK->Prop)(t:TA):TE:=λσ H Q=>t σ H λvs H1=>r vs H1 Q
theorem bz (hc:jw X (.builtin id) r)(hg:Gl X x)(hm:X.mg x=none)(hv:jK x=some (.builtin id))(ha:PA X (e::es) t)(hn:x≠"__name__":=by decide)(C':(x == ("__debug__":Str))=false:=by decide)
  (he:cJ (e::es) X.env=(false,eval e X.env)::cJ es X.env:=by rfl) (BK:(jU pos (cJ es X.env)).any (·.1)=false:=by rfl):PE X (.Call (.Name x p) (e::es) [] pos) (tCB r t):=by
 intro f' s σ H Q I h;refine jZ (iw I hg hm hv ?_ hn C');exact PyProof.Rows.callWith_builtin1 (thn (ha pos f' s σ H _ I h) λus s1 AD=>by obtain⟨vs,H1,I1,r1,q1⟩:=AD;exact hc f' s1 σ H1 vs us Q I1 r1 q1) he BK
theorem n9 (hc:jw X (.type T) r)(hg:Gl X x)(hm:X.mg x=none)(hv:jK x=some (.type T))(ha:PA X (e::es) t)(hn:x≠"__name__":=by decide)(C':(x == ("__debug__":Str))=false:=by decide)
  (he:cJ (e::es) X.env=(false,eval e X.env)::cJ es X.env:=by rfl) (BK:(jU pos (cJ es X.env)).any (·.1)=false:=by rfl):PE X (.Call (.Name x p) (e::es) [] pos) (tCB r t):=by
 intro f' s σ H Q I h;refine jZ (iw I hg hm hv ?_ hn C');exact gW (thn (ha pos f' s σ H _ I h) λus s1 AD=>by obtain⟨vs,H1,I1,r1,q1⟩:=AD;exact hc f' s1 σ H1 vs us Q I1 r1 q1) he BK
end
end L2
namespace HT
open PySem PyProof.Rows
def lexLt:List Int->List Int->Bool
 | [],[]=>false
 | [],_::_=>true
 |_::_,[]=>false
 |x::xs,y::ys=>if x=y then lexLt xs ys else decide (x < y)
theorem lexLt_cons (x y:Int)(xs ys:List Int):lexLt (x::xs) (y::ys)=if x=y then lexLt xs ys else decide (x < y):=rfl
section
open PySem.SeqAt
open PySem.AutoSeq1 (wpAny_loadPart')
open PySem.MeetsSeq PySem.MeetsSeq2 PySem.MeetsSeq3
end
section
variable {prog:aU}{w:aZ}{A:cC}{E:aC->aG->Prop}{s:aG}
theorem cat_tup {t b:Addr}{vs ws:List aC}{Q:aC->aG->Prop}(ht:zJ s.heap t vs.toArray)(hb:zJ s.heap b ws.toArray)(hv:vs≠[])
  (h1:ws=[]->Q (.ref t) s) (h2:ws≠[]->Q (.ref s.heap.objs.size) { s with heap:=s.heap.push { cls:=.type "tuple",data:=.seq (vs++ws).toArray } })
  (hsz:vs.length+ws.length<=sizeLine):aL (aS prog w) A (jY .Add (.ref t) (.ref b)) Q E s:=by
 obtain⟨⟨cls,dd,data,sl⟩,ho,hc,n,hd⟩:=id ht;obtain⟨⟨cls2,UE,data2,HZ⟩,OK,DB,n2,OL⟩:=id hb;simp only at hc hd DB OL;subst hc hd DB OL;have e:vs.toArray++ws.toArray=(vs++ws).toArray:=(by simp);by_cases hw:ws=[]
 ·exact yI ⟨_,ho,rfl⟩ ⟨_,OK,rfl⟩ vU xS sJ rS (qW _ _)
   (tuple_addW1 t b vs.toArray ws.toArray n n2 dd UE sl HZ (by simpa using hv) (by simp[hw])) ⟨ho,OK,h1 hw⟩
 ·refine yI ⟨_,ho,rfl⟩ ⟨_,OK,rfl⟩ vU xS sJ rS (qW _ _)
   (tuple_addW2 t b vs.toArray ws.toArray n n2 dd UE sl HZ (by simpa using hv) (by simpa using hw) (by rw[aO,aO];exact hsz)) ⟨ho,OK,?_⟩
  rw[e];exact h2 hw
def sIx (n d:Nat):Option Int->Nat
 |none=>d
 |some v=>if v < 0 then (v+(n:Int)).toNat else min v.toNat n
theorem sIx_none (n d:Nat):sIx n d none=d:=rfl
theorem sIx_nat (n d k:Nat):sIx n d (some (k:Int))=min k n:=by
 show(if (k:Int) < 0 then ((k:Int)+(n:Int)).toNat else min (k:Int).toNat n)=min k n
 rw[if_neg (by lia),gL]
theorem Xk (n d:Nat)(hd:d<=n)(o:Option Int):sIx n d o<=n:=by
 cases o with
 |none=>exact hd
 |some v=>
  show(if v < 0 then (v+(n:Int)).toNat else min v.toNat n)<=n
  by_cases hv:v < 0
  ·rw[if_pos hv];lia
  ·rw[if_neg hv];exact Nat.min_le_right _ _
theorem Ia (v:Int)(n d:Nat):(if v < 0 then max (v+(n:Int)) 0 else min v (n:Int))=((sIx n d (some v):Nat):Int):=by
 show(if v < 0 then max (v+(n:Int)) 0 else min v (n:Int))=(((if v < 0 then (v+(n:Int)).toNat else min v.toNat n):Nat):Int)
 by_cases hv:v < 0
 ·simp only[if_pos hv];lia
 ·simp only[if_neg hv];lia
theorem Ka (lo hi:Option Int)(n:Nat):jV lo hi 1 (n:Int)=(((sIx n 0 lo:Nat):Int),((sIx n n hi:Nat):Int)):=by
 have h1:¬((1:Int) < 0):=(by lia);unfold jV;simp only[h1,if_false];refine Prod.ext ?_ ?_
 ·cases lo with
  |none=>rfl
  |some v=>exact Ia v n 0
 ·cases hi with
  |none=>rfl
  |some v=>exact Ia v n n
theorem Kb (i j:Nat):iM (i:Int) (j:Int) 1=j - i:=by
 unfold iM;have h1:(1:Int) > 0:=(by lia);simp only[h1,if_true,yJ]
 split<;>lia
theorem Ag {v:aC}{o:Option Int}{Q:Option Int->aG->Prop}(p:vW v o)(h:Q o s):aL (aS prog w) A (Builtin.Slice.slicePartIndex v) Q E s:=by
 cases p with
 |none=>exact uJ h
 |int i t=>exact slicePart_int h
theorem ym {sl:Addr}{vl vu:aC}{lo hi:Option Int}{n:Nat}{Q:Int×Int×Nat->aG->Prop}(hs:s.heap.IsSliceOf sl vl vu .none)(pl:vW vl lo)(pu:vW vu hi)
  (h:Q (((sIx n 0 lo:Nat):Int),1,sIx n n hi - sIx n 0 lo) s):aL (aS prog w) A (nQ (.ref sl) (pure (n:Int))) Q E s:=by
 obtain⟨os,LW,UF,OM⟩:=id hs;unfold nQ Builtin.Slice.sliceFields;refine aA (aA (cY LW OM (x:=vl) rfl (aA (cY LW OM (x:=vu) rfl (aA (cY LW OM (x:=.none) rfl (wpAny_pure ?_)))))));refine aA (uJ ?_);show aL _ _ (if ((1:Int) == 0)=true then _ else _) _ _ s
 rw[if_neg (by decide)];refine aA (Ag pl (aA (Ag pu (aA (wpAny_pure ?_)))));show aL _ _ (match jV lo hi 1 (n:Int)with | (lo,hi)=>pure (lo,(1:Int),iM lo hi 1)) _ _ s
 rw[Ka lo hi n];show aL _ _ (pure (((sIx n 0 lo:Nat):Int),(1:Int),iM ((sIx n 0 lo:Nat):Int) ((sIx n n hi:Nat):Int) 1)) _ _ s;rw[Kb];exact wpAny_pure h
theorem P0 (xs:Array aC)(i k:Nat):((dG k).filterMap λ(m:Nat)=>xs[((i:Int)+(m:Int) * 1).toNat]?).toArray=((xs.toList.drop i).take k).toArray:=by
 have e:(λ(m:Nat)=>xs[((i:Int)+(m:Int) * 1).toNat]?)=λm=>xs[i+m]?:=by
  funext m
  have:((i:Int)+(m:Int) * 1).toNat=i+m:=(by lia);rw[this]
 rw[e];have:=pick_run xs i k;rw[List.filterMap_map]at this;have e2:((λx=>xs[x]?)∘λx=>i+x)=λm=>xs[i+m]?:=rfl;rw[e2]at this;rw[this]
theorem getItem_tuple_cut {t sl:Addr}{items:Array aC}{vl vu:aC}{lo hi:Option Int}{Q:aC->aG->Prop}(ht:zJ s.heap t items)(hs:s.heap.IsSliceOf sl vl vu .none)(pl:vW vl lo)(pu:vW vu hi)
  (hw:¬(sIx items.size 0 lo=0/\sIx items.size items.size hi=items.size))
  (h:Q (.ref s.heap.objs.size) { s with heap:=s.heap.push { cls:=.type "tuple",data:=.seq ((items.toList.drop (sIx items.size 0 lo)).take (sIx items.size items.size hi - sIx items.size 0 lo)).toArray } })
  (hsz:items.size<=sizeLine):aL (aS prog w) A (rH (.ref t) (.ref sl)) Q E s:=by
 have EB:sizeOk (.seq ((items.toList.drop (sIx items.size 0 lo)).take (sIx items.size items.size hi - sIx items.size 0 lo)).toArray):=by
  show((items.toList.drop (sIx items.size 0 lo)).take (sIx items.size items.size hi - sIx items.size 0 lo)).toArray.size<=sizeLine;rw[aO,cK,gZ,gH];lia
 have hj:sIx items.size items.size hi<=items.size:=Xk _ _ (aN _) hi;obtain⟨os,LW,UF,OM⟩:=id hs;have hTs:s.TypeIs (.ref sl) "slice":=⟨os,LW,UF⟩;unfold rH
 try with_reducible refine hZ ?_
 first | refine aA (wpAny_pure ?_) | skip
 refine aA (wpAny_sequenceKey ht.typeIs (by decide) ?_);refine aA (eZ (name:=hX "__getitem__") ht.typeIs lR (gM lR ht.typeIs entry_tuple_getitem ?_ (args_tuple_getitem _ _)));show aL _ _ (Builtin.Tuple.tupleItemsOf (.ref t) >>= _) _ _ s;refine aA (tupleItemsOf_ ht ?_);refine aA (tP hTs ?_);rw[if_pos (by decide)];refine aA (ym hs pl pu ?_);have QG:¬((((sIx items.size 0 lo:Nat):Int) == 0 && (1:Int) == 1 && (sIx items.size items.size hi - sIx items.size 0 lo) == items.size)=true):=by
  intro q;rw[iB,iB]at q;have q1:((sIx items.size 0 lo:Nat):Int)=0:=eq_of_beq q.1.1;have q2:sIx items.size items.size hi - sIx items.size 0 lo=items.size:=eq_of_beq q.2;exact hw ⟨by lia,by lia⟩
 show aL _ _ (if (((sIx items.size 0 lo:Nat):Int) == 0 && (1:Int) == 1 && (sIx items.size items.size hi - sIx items.size 0 lo) == items.size)=true then _ else _) _ _ s
 rw[if_neg QG,P0]
 first
  |exact aA (m:=jC _) (gR (wpAny_pure ⟨_,rfl,wpAny_pure h⟩) EB)
  |exact aA (m:=jC _) (gR (aA (wpAny_pure (wpAny_pure ⟨_,rfl,wpAny_pure h⟩))) EB)
  |exact aA (aA (m:=jC _) (gR (wpAny_pure (wpAny_pure ⟨_,rfl,wpAny_pure h⟩)) EB))
  |exact aA (aA (m:=jC _) (gR (wpAny_pure ⟨_,rfl,wpAny_pure h⟩) EB))
end
end HT
namespace L2
open PySem PySem.Spec PyProof.Rows
abbrev TO:=St->Hp->(Option Int->Hp->Prop)->Prop
def PO (X:Cx)(e:Option Expr)(t:TO):Prop:=
 ∀(f':List (Addr×Obj))(s:aG) (σ:St) (H:Hp) (Q:Option Int->Hp->Prop),Inv X f' σ H s->t σ H Q->
  aL (aS X.prog X.w) X.A (evalPart e X.env) (λu s'=>∃o H',Inv X f' σ H' s'/\vW u o/\Q o H') X.xe s
def lq:TO:=λ_ H Q=>Q none H
def ub (t:TE):TO:=λσ H Q=>t σ H λx H1=>∃i,x=.int i/\Q (some i) H1
section
variable {X:Cx}{e:Expr}{te:TE}{lo hi:Option Expr}{tl th:TO}{pos p2:Pos}
theorem cy:PO X none lq:=by
 intro f' s σ H Q I h;rw[xU];exact wpAny_pure ⟨none,H,I,.none,h⟩
theorem cv (h:PE X e te):PO X (some e) (ub te):=by
 intro f' s σ H Q I hw;rw[evalPart_some];refine thn (h f' s σ H _ I hw) λu s1 AD=>?_;obtain⟨x,H1,I1,r1,q1⟩:=AD;obtain⟨i,rfl,q⟩:=q1;obtain⟨t,rfl⟩:=r1;exact⟨some i,H1,I1,.int i t,q⟩
def SlR (X:Cx)(r:V->Option Int->Option Int->Hp->VK->Prop):Prop:=
 ∀(f':List (Addr×Obj))(s:aG) (σ:St) (H:Hp) (x:V) (v vl vu:aC) (lo hi:Option Int) (sl:Addr) (Q:VK),Inv X f' σ H s->RelV x v->s.heap.IsSliceOf sl vl vu .none->vW vl lo->vW vu hi->r x lo hi H Q->
  ∃T id,jI (.type T) "__getitem__"=pure (some (.builtin id))/\s.TypeIs v T/\aL (aS X.prog X.w) X.A (rH v (.ref sl)) (EP X f' σ Q) X.xe s
def tSl (r:V->Option Int->Option Int->Hp->VK->Prop)(te:TE)(tl th:TO):TE:=λσ H Q=>te σ H λx H1=>tl σ H1 λl H2=>th σ H2 λu H3=>r x l u H3 Q
theorem cn {r:V->Option Int->Option Int->Hp->VK->Prop}(hr:SlR X r)(he:PE X e te)(hl:PO X lo tl)(hu:PO X hi th):PE X (.Subscript e (.Slice lo hi none p2) pos) (tSl r te tl th):=by
 intro f' s σ H Q I h;refine Subscript_ (thn (he f' s σ H _ I h) λv s1 AD=>?_);obtain⟨x,H1,I1,r1,q1⟩:=AD;refine wpAny_Slice (thn (hl f' s1 σ H1 _ I1 q1) λvl s2 AD=>?_);obtain⟨l,H2,I2,pl,q2⟩:=AD;refine thn (hu f' s2 σ H2 _ I2 q2) λvu s3 AD=>?_;obtain⟨u,H3,I3,pu,q3⟩:=AD;rw[xU];refine wpAny_pure ?_;have I4:Inv X f' σ H3 { s3 with heap:=s3.heap.push { cls:=.type "slice",data:=.fields #[vl,vu,.none] } }:=I3.kept (t':=s3.toks) λb ob q=>aI _ q;obtain⟨T,id,hT,ht,hg⟩:=hr f' { s3 with heap:=s3.heap.push { cls:=.type "slice",data:=.fields #[vl,vu,.none] } } σ H3 x v vl vu l u s3.heap.objs.size Q I4 r1 (Heap.IsSliceOf.new ..) pl pu q3;show aL (aS X.prog X.w) X.A (uU e (.Slice lo hi none p2) v (.ref s3.heap.objs.size)) (EP X f' σ Q) X.xe { s3 with heap:=s3.heap.push { cls:=.type "slice",data:=.fields #[vl,vu,.none] } };exact tail_any (ops:=[.ref s3.heap.objs.size,v]) ht hT hg (by with_unfolding_all rfl)
def d7 (xs:List V)(lo hi:Option Int):List V:=(xs.drop (HT.sIx xs.length 0 lo)).take (HT.sIx xs.length xs.length hi - HT.sIx xs.length 0 lo)
theorem x6 (xs:List V)(lo hi:Option Int):(d7 xs lo hi).length<=xs.length:=by
 unfold d7;rw[cK,gZ];lia
def pq (K:aB):V->Option Int->Option Int->Hp->VK->Prop:=λx lo hi H Q=>∃a xs,x=.ref a/\SqT K H a xs/\
 ¬(HT.sIx xs.length 0 lo=0/\HT.sIx xs.length xs.length hi=xs.length)/\∀p,H p=none->Q (.ref p) (upd H p (.tup (d7 xs lo hi)))
theorem vm:SlR X (pq X.K):=by
 intro f' s σ H x v vl vu lo hi sl Q I rx hs pl pu h;obtain⟨a,xs,rfl,hx,hw,q⟩:=h;cases rx;obtain⟨its,r,ht,hz⟩:=I.tuple hx;have AG:its.toArray.size=xs.length:=(by rw[aO];exact r.length.symm);refine⟨"tuple",_,PyProof.Rows.slot_tuple_getitem.lookup,ht.typeIs,?_⟩;refine HT.getItem_tuple_cut ht hs pl pu (by rw[AG];exact hw) ?_ (by rw[AG];exact hz);rw[AG];refine⟨.ref s.heap.objs.size,_,I.laid (t':=s.toks) (o:=.tup (d7 xs lo hi)) (λb ob q=>aI _ q) (aN _) ?_,rfl,q _ (I.hok.fresh (aN _))⟩;exact⟨cH (x6 xs lo hi) hz,_,(r.drop (HT.sIx xs.length 0 lo)).take (HT.sIx xs.length xs.length hi - HT.sIx xs.length 0 lo),yK _ _⟩
def jf (K:aB):R2:=λx y H Q=>∃a b xs ys,x=.ref a/\y=.ref b/\SqT K H a xs/\SqT K H b ys/\xs≠[]/\xs.length+ys.length<=sizeLine/\
 (ys=[]->Q (.ref a) H)/\(ys≠[]->∀p,H p=none->Q (.ref p) (upd H p (.tup (xs++ys))))
theorem Vals.nil_iff {xs:List V}{us:List aC}(r:Vals xs us):us=[]↔xs=[]:=by
 cases r with
 |nil=>simp
 |cons _ _=>simp
theorem Ut:OpR X (jY .Add) (jf X.K):=by
 intro f' s σ H x y v u Q I rx ry h;obtain⟨a,b,xs,ys,rfl,rfl,ha,hb,hx,hz,q1,q2⟩:=h;cases rx;cases ry;obtain⟨its,r1,p1,_⟩:=I.tuple ha;obtain⟨AH,r2,p2,_⟩:=I.tuple hb;refine HT.cat_tup p1 p2 (λz=>hx (r1.nil_iff.mp z)) (λz=>⟨.ref a,H,I,rfl,q1 (r2.nil_iff.mp z)⟩) (λz=>?_) (by rw[<-r1.length,<-r2.length];exact hz);refine⟨.ref s.heap.objs.size,_,I.laid (t':=s.toks) (o:=.tup (xs++ys)) (λb ob q=>aI _ q) (aN _) ?_,rfl,q2 (λw=>z (r2.nil_iff.mpr w)) _ (I.hok.fresh (aN _))⟩;exact⟨by rw[aQ];exact hz,_,r1.append r2,yK _ _⟩
end
def ixN (n:Nat)(i:Int):Option Nat:=if 0<=i then (if i < n then some i.toNat else none)else if -(n:Int)<=i then some (i+n).toNat else none
def atI {α:Type}(xs:List α)(i:Int):Option α:=(ixN xs.length i).bind λj=>xs[j]?
theorem Ib {n:Nat}{i:Int}{j:Nat}(h:ixN n i=some j):seqIndex? i n=some j/\j < n/\-(n:Int)<=i/\i < n:=by
 unfold ixN at h;by_cases h0:0<=i
 ·rw[if_pos h0]at h;by_cases h1:i < n
  ·rw[if_pos h1]at h;have e:i.toNat=j:=cZ h;exact⟨by rw[zC h0 h1,e],by lia,by lia,h1⟩
  ·rw[if_neg h1]at h;cases h
 ·rw[if_neg h0]at h;by_cases h1:-(n:Int)<=i
  ·rw[if_pos h1]at h;have e:(i+n).toNat=j:=cZ h;exact⟨by rw[seqIndex_neg (by lia) h1,e],by lia,h1,by lia⟩
  ·rw[if_neg h1]at h;cases h
theorem Bm {α:Type}{xs:List α}{i:Int}{v:α}(h:atI xs i=some v):∃j,seqIndex? i xs.length=some j/\xs[j]?=some v/\j < xs.length/\-(xs.length:Int)<=i/\i < xs.length:=by
 unfold atI at h;cases e:ixN xs.length i with
 |none=>rw[e]at h;cases h
 |some j=>
  rw[e]at h;obtain⟨h1,h2,h3,h4⟩:=Ib e;exact⟨j,h1,h,h2,h3,h4⟩
theorem bp {α:Type}{xs:List α}{j:Nat}{v:α}(h:xs[j]?=some v):atI xs (j:Int)=some v:=by
 have hj:j < xs.length:=(aM.mp h).1;have e:ixN xs.length (j:Int)=some j:=by
  unfold ixN;rw[if_pos (by lia),if_pos (by lia)];simp
 unfold atI;rw[e];exact h
theorem P1 {α:Type}(xs:List α)(v:α):atI (xs++[v]) (-1)=some v:=by
 have hl:(xs++[v]).length=xs.length+1:=(by simp);have e:ixN (xs++[v]).length (-1)=some xs.length:=by
  unfold ixN;rw[hl,if_neg (by decide),if_pos (by lia)];congr 1;lia
 unfold atI;rw[e];show(xs++[v])[xs.length]?=some v;simp
def Uu (b:Expr):Prop:=∀o i,wY b false o i=operate [o,i] (rH o i)
def IxR (X:Cx)(r:R2):Prop:=
 ∀(value slice:Expr)(f':List (Addr×Obj)) (s:aG) (σ:St) (H:Hp) (x y:V) (v u:aC) (Q:VK),Inv X f' σ H s->RelV x v->RelV y u->r x y H Q->
  wY slice false v u=operate [v,u] (rH v u)->aL (aS X.prog X.w) X.A (uU value slice v u) (EP X f' σ Q) X.xe s
def MtR (X:Cx)(id:String)(r:V->List V->Hp->VK->Prop):Prop:=
 ∀(f':List (Addr×Obj))(s:aG) (σ:St) (H:Hp) (x:V) (xs:List V) (v:aC) (us:List aC) (Q:VK),Inv X f' σ H s->RelV x v->Vals xs us->r x xs H Q->
  aL (aS X.prog X.w) X.A (call (.builtin id) (v::us)) (EP X f' σ Q) X.xe s
section
variable {X:Cx}{a b:Expr}{ta tb:TE}{pos:Pos}
theorem av {r:R2}(hr:IxR X r)(ha:PE X a ta)(hb:PE X b tb)(hs:Uu b):PE X (.Subscript a b pos) (tOp r ta tb):=by
 intro f' s σ H Q I h;exact Subscript_ (Po ha hb I h λv u s2 x y H2 I2 rx ry q=>hr a b f' s2 σ H2 x y v u Q I2 rx ry q (hs _ _))
def Bn (K:aB):R2:=λx y H Q=>∃p xs i v,x=.ref p/\y=.int i/\SqL K H p xs/\atI xs i=some v/\Q v H
def D7 (K:aB):R2:=λx y H Q=>∃p xs i v,x=.ref p/\y=.int i/\SqT K H p xs/\atI xs i=some v/\Q v H
def rIxS:R2:=λx y H Q=>∃z i c,x=.str z/\y=.int i/\z.length<=sizeLine/\atI z.cps.toList i=some c/\Q (.str ⟨#[c]⟩) H
theorem ax:IxR X (Bn X.K):=by
 intro value slice f' s σ H x y v u Q I rx ry h hs;obtain⟨p,xs,i,z,rfl,rfl,hq,he,q⟩:=h;cases rx;obtain⟨t,rfl⟩:=ry;obtain⟨its,r,pl,hz⟩:=I.list hq;obtain⟨j,h1,h2,h3,h4,h5⟩:=Bm he;obtain⟨w,ew,EU⟩:=r.get h2;have hl:=r.length;have hn:=pj;have AK:EP X f' σ Q w s:=⟨z,H,I,EU,q⟩;by_cases h0:0<=i
 ·have hj:i.toNat=j:=by
   rw[zC h0 h5]at h1;exact cZ h1
  exact item_listR pl.isList h0 (by lia) (by rw[hj];simpa using ew) AK hs
 ·have hj:(i+(its.toArray.size:Int)).toNat=j:=by
   rw[seqIndex_neg (by lia) h4]at h1;rw[aO,<-hl];exact cZ h1
  exact subscriptTail_builtinR (x:=w) pl.isList.typeIs slot_list_getitem.lookup
   (wpAny_getItem_list_neg (Q:=λr s'=>r=w/\EP X f' σ Q r s') pl.isList (by lia) (by rw[aO]<;>lia) (by lia) (by rw[hj];simpa using ew) ⟨rfl,AK⟩) hs
theorem cq:IxR X (D7 X.K):=by
 intro value slice f' s σ H x y v u Q I rx ry h hs;obtain⟨p,xs,i,z,rfl,rfl,hq,he,q⟩:=h;cases rx;obtain⟨t,rfl⟩:=ry;obtain⟨its,r,pl,hz⟩:=I.tuple hq;obtain⟨j,h1,h2,h3,h4,h5⟩:=Bm he;obtain⟨w,ew,EU⟩:=r.get h2;have hl:=r.length;have hn:=pj;have AK:EP X f' σ Q w s:=⟨z,H,I,EU,q⟩;exact subscriptTail_builtinR (x:=w) pl.typeIs slot_tuple_getitem.lookup
  (getItem_tuple (j:=j) (Q:=λr s'=>r=w/\EP X f' σ Q r s') pl (by lia) (by lia) (by rw[aO,<-hl];exact h1) (by simpa using ew) ⟨rfl,AK⟩) hs
theorem Xl:IxR X rIxS:=by
 intro value slice f' s σ H x y v u Q I rx ry h hs;obtain⟨z,i,c,rfl,rfl,hz,he,q⟩:=h;obtain⟨t,rfl⟩:=rx;obtain⟨t',rfl⟩:=ry;obtain⟨j,h1,h2,h3,h4,h5⟩:=Bm he;have hl:z.cps.toList.length=z.length:=(by simp[Str.length]);rw[hl]at h1 h4 h5;have hn:=pj;exact tail_any (zP s z t) slot_str_getitem.lookup (getItem_str (c:=c) (by
   have e1:decide (i < -(2 ^ 63:Int))=false:=decide_eq_false (by lia);have e2:decide (i>=2 ^ 63)=false:=decide_eq_false (by lia);rw[e1,e2,Bool.or_false]) (by rw[h1];simpa using h2) ⟨.str ⟨#[c]⟩,H,I.tok _,⟨_,rfl⟩,q⟩) hs
theorem Kc (its:List aC)(n j:Nat)(u:aC):jB (·.setIfInBounds j u) { cls:=.type "list",data:=.seq its.toArray n }={ cls:=.type "list",data:=.seq (its.set j u).toArray n }:=by
 simp[jB]
theorem Inv.lst {f':List (Addr×Obj)}{σ:St}{H:Hp}{s:aG}{p:Addr}{xs:List V}(I:Inv X f' σ H s)(h:H p=some (.lst xs)) :
  ∃(its:List aC)(n:Nat),Vals xs its/\s.heap.get? p=some { cls:=.type "list",data:=.seq its.toArray n }/\xs.length<=sizeLine:=by
 obtain⟨z,its,n,r,e⟩:=I.hok p _ h;exact⟨its,n,r,e,z⟩
theorem Inv.lstUpd {f':List (Addr×Obj)}{σ:St}{H:Hp}{s:aG}{p:Addr}{xs ys:List V}{its its':List aC}{n n':Nat}{f:Obj->Obj}(I:Inv X f' σ H s)(h:H p=some (.lst xs))
  (ho:s.heap.get? p=some { cls:=.type "list",data:=.seq its.toArray n }) (hf:f { cls:=.type "list",data:=.seq its.toArray n }={ cls:=.type "list",data:=.seq its'.toArray n' }) (r:Vals ys its') (hz:ys.length<=sizeLine) (t:Nat) :
  Inv X f' σ (upd H p (.lst ys)) { s with heap:=s.heap.update p f,toks:=t }:=by
 have e:(s.heap.update p f).get? p=some { cls:=.type "list",data:=.seq its'.toArray n' }:=by
  rw[iH f ho (by rw[hf]<;>rfl),hf]
 refine I.write (x:=p) (e:=p) (by rw[h];trivial) (.inl rfl) (λb u hb q=>(jP _ _ (Ne.symm hb)).trans q) ⟨_,e⟩ ?_;exact⟨hz,its',n',r,e⟩
def Zk:V->V->V->Hp->(Hp->Prop)->Prop:=λo i v H Q=>∃p xs k j,o=.ref p/\i=.int k/\H p=some (.lst xs)/\ixN xs.length k=some j/\Q (upd H p (.lst (xs.set j v)))
theorem D8:Xa X Zk:=by
 intro f' s σ H o i v ov iv u Q I ro ri rv h;obtain⟨p,xs,k,j,rfl,rfl,hp,hj,q⟩:=h;cases ro;obtain⟨t,rfl⟩:=ri;obtain⟨its,n,r,ho,hz⟩:=I.lst hp;obtain⟨h1,h2,h3,h4⟩:=Ib hj;have hl:=r.length;have hn:=pj;have I':Inv X f' σ (upd H p (.lst (xs.set j v))) { s with heap:=s.heap.update p (jB (·.setIfInBounds j u)) }:=
  I.lstUpd hp ho (Kc its n j u) (r.set rv j) (by rw[oU];exact hz) s.toks
 by_cases h0:0<=k
 ·have hk:k.toNat=j:=by
   rw[zC h0 h4]at h1;exact cZ h1
  exact PySem.W.ki_setAt ho h0 (by lia) (by rw[aO,<-hl];exact h4) (by rw[hk];exact⟨_,I',q⟩)
 ·have hk:(k+(its.toArray.size:Int)).toNat=j:=by
   rw[seqIndex_neg (by lia) h3]at h1;rw[aO,<-hl];exact cZ h1
  exact PySem.W.ki_setBack ho (by lia) (by rw[aO,<-hl];exact h3) (by lia) (by rw[hk];exact⟨_,I',q⟩)
theorem D9 (lo hi:Option Int)(n:Nat):(qH lo hi none n).1=((HT.sIx n 0 lo:Nat):Int)/\(qH lo hi none n).2.1=((HT.sIx n n hi:Nat):Int)/\(qH lo hi none n).2.2=1:=by
 refine⟨?_,?_,rfl⟩
 ·cases lo with
  |none=>simp[qH,HT.sIx]
  |some i=>
   simp only[qH,HT.sIx,Option.getD_none,show(1:Int) > 0 by decide,if_true];by_cases h:i < 0
   ·simp only[h,if_true]<;>lia
   ·simp only[h,if_false]<;>lia
 ·cases hi with
  |none=>simp[qH,HT.sIx]
  |some i=>
   simp only[qH,HT.sIx,Option.getD_none,show(1:Int) > 0 by decide,if_true];by_cases h:i < 0
   ·simp only[h,if_true]<;>lia
   ·simp only[h,if_false]<;>lia
theorem Dg (its:List aC)(lo hi:Option Int):slicePick its.toArray lo hi none=((its.drop (HT.sIx its.length 0 lo)).take (HT.sIx its.length its.length hi - HT.sIx its.length 0 lo)).toArray:=by
 obtain⟨h1,h2,h3⟩:=D9 lo hi its.toArray.size;unfold slicePick;rw[h1,h2,h3];simp only[sliceRange_one,pick_run,aO]<;>rfl
def P2 (K:aB):V->Option Int->Option Int->Hp->VK->Prop:=λx lo hi H Q=>∃a xs,x=.ref a/\SqL K H a xs/\∀p,H p=none->Q (.ref p) (upd H p (.lst (d7 xs lo hi)))
theorem dq:SlR X (P2 X.K):=by
 intro f' s σ H x v vl vu lo hi sl Q I rx hs pl pu h;obtain⟨a,xs,rfl,hx,q⟩:=h;cases rx;obtain⟨its,r,ht,hz⟩:=I.list hx;have AG:=r.length;refine⟨"list",_,slot_list_getitem.lookup,ht.isList.typeIs,?_⟩;refine wpAny_getItem_list_slice ht.isList hs pl pu .none (by simp) ?_ (by rw[aO]<;>lia);rw[Dg,<-AG];refine⟨.ref s.heap.objs.size,_,I.laid (t':=s.toks) (o:=.lst (d7 xs lo hi)) (λb ob q=>aI _ q) (aN _) ?_,rfl,q _ (I.hok.fresh (aN _))⟩;exact⟨cH (x6 xs lo hi) hz,_,0,(r.drop (HT.sIx xs.length 0 lo)).take (HT.sIx xs.length xs.length hi - HT.sIx xs.length 0 lo),aY _ rfl⟩
def kh:V->Bool
 | .non=>true
 | .bl _=>true
 | .int _=>true
 | .str _=>true
 |_=>false
def eqV:V->V->Bool
 | .non,.non=>true
 | .bl a,.bl b=>a == b
 | .bl a,.int b=>(if a then 1 else 0) == b
 | .int a,.bl b=>a == (if b then 1 else 0)
 | .int a,.int b=>a == b
 | .str a,.str b=>a == b
 |_,_=>false
theorem Ah {A:cC}{s:aG}{y x:V}{u v:aC}(ry:RelV y u)(rx:RelV x v)(fy:kh y=true)(fx:kh x=true):zQ A s u v (eqV y x):=by
 cases y with
 |non=>
  cases ry;cases x with
  |non=>cases rx;exact SeqAt.EqAt.same _
  |bl b=>cases rx;exact SeqAt.EqAt.none_bool b
  |int b=>obtain⟨t,rfl⟩:=rx;exact SeqAt.EqAt.none_int b t
  |str b=>obtain⟨t,rfl⟩:=rx;exact SeqAt.EqAt.none_str b t
  |_=>exact absurd (show false=true from fx) bX
 |bl a=>
  cases ry;cases x with
  |non=>cases rx;exact SeqAt.EqAt.bool_none a
  |bl b=>cases rx;exact SeqAt.EqAt.bool_bool a b
  |int b=>obtain⟨t,rfl⟩:=rx;exact SeqAt.EqAt.bool_int a b t
  |str b=>obtain⟨t,rfl⟩:=rx;exact SeqAt.EqAt.bool_str a b t
  |_=>exact absurd (show false=true from fx) bX
 |int a=>
  obtain⟨t',rfl⟩:=ry;cases x with
  |non=>cases rx;exact SeqAt.EqAt.int_none a t'
  |bl b=>cases rx;exact SeqAt.EqAt.int_bool a t' b
  |int b=>obtain⟨t,rfl⟩:=rx;exact SeqAt.EqAt.int_int a t' b t
  |str b=>obtain⟨t,rfl⟩:=rx;exact SeqAt.EqAt.int_str a t' b t
  |_=>exact absurd (show false=true from fx) bX
 |str a=>
  obtain⟨t',rfl⟩:=ry;cases x with
  |non=>cases rx;exact SeqAt.EqAt.str_none a t'
  |bl b=>cases rx;exact SeqAt.EqAt.str_bool a t' b
  |int b=>obtain⟨t,rfl⟩:=rx;exact SeqAt.EqAt.str_int a t' b t
  |str b=>obtain⟨t,rfl⟩:=rx;exact SeqAt.EqAt.str_str a t' b t
  |_=>exact absurd (show false=true from fx) bX
 |_=>exact absurd (show false=true from fy) bX
def eqU (x:V)(u:aC):Bool:=match u with
 | .none=>eqV .non x
 | .bool b=>eqV (.bl b) x
 | .int i _=>eqV (.int i) x
 | .str z _=>eqV (.str z) x
 |_=>false
theorem Mr {x y:V}{u:aC}(r:RelV y u)(f:kh y=true):eqU x u=eqV y x:=by
 cases y with
 |non=>cases r;rfl
 |bl b=>cases r;rfl
 |int i=>obtain⟨t,rfl⟩:=r;rfl
 |str z=>obtain⟨t,rfl⟩:=r;rfl
 |_=>exact absurd (show false=true from f) bX
theorem Bo {x:V}:∀{xs:List V}{us:List aC},Vals xs us->xs.all kh=true->us.any (eqU x)=xs.any λy=>eqV y x
 |_,_,.nil,_=>rfl
 |y::xs,u::us,.cons r t,f=>by
  rw[uV,iB]at f;rw[sQ,sQ,Mr r f.1,Bo t f.2]
theorem yn {A:cC}{s:aG}{x:V}{v:aC}(rx:RelV x v)(fx:kh x=true):∀{xs:List V}{us:List aC},Vals xs us->xs.all kh=true->∀u∈us,zQ A s u v (eqU x u)
 |_,_,.nil,_=>λu hu=>by cases hu
 |y::xs,u::us,.cons r t,f=>λu' hu=>by
  rw[uV,iB]at f;rcases aX.mp hu with rfl | hu
  ·rw[Mr r f.1];exact Ah r rx f.1 fx
  ·exact yn rx fx t f.2 u' hu
def inV (x:V)(xs:List V):Bool:=xs.any λy=>eqV y x
def rIn (K:aB)(neg:Bool):R2:=λx y H Q=>∃p xs,y=.ref p/\(SqL K H p xs\/SqT K H p xs)/\kh x=true/\xs.all kh=true/\Q (.bl (if neg then !inV x xs else inV x xs)) H
theorem vn:OpR X (jX .In) (rIn X.K false):=by
 intro f' s σ H x y v u Q I rx ry h;obtain⟨p,xs,rfl,hq,fx,fs,q⟩:=h;cases ry;rcases hq with hq | hq
 ·obtain⟨its,r,pl,hz⟩:=I.list hq;refine SeqAt.in_listAt (eqU x) pl.isList (λw hw=>yn rx fx r fs w (by simpa using hw)) ⟨.bl _,H,I,rfl,?_⟩;rw[show its.toArray.any (eqU x)=its.any (eqU x)by simp,Bo r fs];exact q
 ·obtain⟨its,r,pl,hz⟩:=I.tuple hq;refine SeqAt.in_tupleAt (eqU x) pl (λw hw=>yn rx fx r fs w (by simpa using hw)) ⟨.bl _,H,I,rfl,?_⟩;rw[show its.toArray.any (eqU x)=its.any (eqU x)by simp,Bo r fs];exact q
theorem cg:jw X (.builtin "len") (λxs H Q=>∃p ys,xs=[.ref p]/\(SqL X.K H p ys\/SqT X.K H p ys)/\Q (.int ys.length) H):=by
 intro f' s σ H xs us Q I r h;obtain⟨p,ys,rfl,hq,q⟩:=h;obtain⟨u,rfl,rx⟩:=j9 r;cases rx;have hn:=pj;rcases hq with hq | hq
 ·obtain⟨its,r',pl,hz⟩:=I.list hq;have AG:=r'.length;exact Calls.call_len_list pl.isList (by simp only[aO]<;>lia) ⟨.int ys.length,H,I.tok _,⟨s.toks+1,by rw[aO,AG]⟩,q⟩
 ·obtain⟨its,r',pl,hz⟩:=I.tuple hq;have AG:=r'.length;exact len_tuple pl (by simp only[aO]<;>lia) ⟨.int ys.length,H,I.tok _,⟨s.toks+1,by rw[aO,AG]⟩,q⟩
theorem jx:jw X (.type "tuple") (λxs H Q=>∃p ys,xs=[.ref p]/\((SqL X.K H p ys/\∀l,H l=none->Q (.ref l) (upd H l (.tup ys)))\/(SqT X.K H p ys/\Q (.ref p) H))):=by
 intro f' s σ H xs us Q I r h;obtain⟨p,ys,rfl,h⟩:=h;obtain⟨u,rfl,rx⟩:=j9 r;cases rx;rcases h with⟨hq,q⟩ | ⟨hq,q⟩
 ·obtain⟨its,r',pl,hz⟩:=I.list hq;have AG:=r'.length;refine call_tuple_list pl.isList (λh' kp=>?_) (by simp only[aO]<;>lia);have I1:Inv X f' σ H { s with heap:=h' }:=I.kept (t':=s.toks) kp;have I2:Inv X f' σ (upd H h'.objs.size (.tup ys)) { s with heap:=h'.push { cls:=.type "tuple",data:=.seq its.toArray } }:=
   I1.laid (t':=s.toks) (λb o e=>aI _ e) (aN _) (show ObjOk X.prog X.w _ _ _ (.tup ys)from⟨hz,its,r',yK _ _⟩)
  exact⟨.ref h'.objs.size,_,I2,rfl,q _ (I1.hok.fresh (aN _))⟩
 ·obtain⟨its,r',pl,hz⟩:=I.tuple hq;exact call_tuple_same pl ⟨.ref p,H,I,rfl,q⟩
def tyV (K:aB)(T:String)(x:V)(H:Hp):Prop:=match x with
 | .str _=>T="str"
 | .int _=>T="int"
 | .ref p=>(T="list"/\∃xs,SqL K H p xs)\/(T="tuple"/\∃o,K.lookup p=some o/\o.cls=.type "tuple"/\o.dict=none)\/
   (T="dict"/\((∃kvs,H p=some (.dK kvs))\/∃kvs,H p=some (.dT kvs)))\/(T="set"/\∃S n,H p=some (.set S n))
 |_=>False
theorem Ms {f':List (Addr×Obj)}{σ:St}{H:Hp}{s:aG}{T:String}{x:V}{v:aC}(I:Inv X f' σ H s)(r:RelV x v)(ty:tyV X.K T x H) :
  s.TypeIs v T/\∀a,v=.ref a->∃ob,s.heap.get? a=some ob/\ob.dict=none:=by
 cases x with
 |str z=>
  obtain⟨t,rfl⟩:=r;cases(show T="str" from ty);exact⟨zP s z t,λ_ e=>nomatch e⟩
 |int i=>
  obtain⟨t,rfl⟩:=r;cases(show T="int" from ty);exact⟨vK s i t,λ_ e=>nomatch e⟩
 |ref p=>
  cases r;rcases ty with⟨rfl,xs,hq⟩ | ⟨rfl,o,hk,hc,hd⟩ | ⟨rfl,hk⟩ | ⟨rfl,S,n,hk⟩
  ·obtain⟨its,_,pl,_⟩:=I.list hq;refine⟨pl.isList.typeIs,λa e=>?_⟩;cases e;obtain⟨o,n,e,c,hd,_⟩:=pl;exact⟨o,e,hd⟩
  ·refine⟨⟨o,I.kIn p o hk,hc⟩,λa e=>?_⟩;cases e;exact⟨o,I.kIn _ o hk,hd⟩
  ·have z:∃o,s.heap.get? p=some o/\o.ExactDict:=by
    rcases hk with⟨kvs,hk⟩ | ⟨kvs,hk⟩
    ·obtain⟨_,_,_,_,o,_,_,e,ex,_⟩:=I.hok p _ hk;exact⟨o,e,ex⟩
    ·obtain⟨_,_,_,_,o,_,_,e,ex,_⟩:=I.hok p _ hk;exact⟨o,e,ex⟩
   obtain⟨o,e,ex⟩:=z;refine⟨⟨o,e,ex.1⟩,λa e2=>?_⟩;cases e2;exact⟨o,e,ex.2.1⟩
  ·obtain⟨o,_,_,_,e,ex,_⟩:=I.hok p _ hk;refine⟨⟨o,e,ex.1⟩,λa e2=>?_⟩;cases e2;exact⟨o,e,ex.2.1⟩
 |_=>exact iG ty
def Xm (K:aB)(T:String)(r:V->List V->Hp->VK->Prop)(to:TE):TE:=λσ H Q=>to σ H λx H1=>tyV K T x H1/\r x [] H1 Q
def tBM (K:aB)(T:String)(r:V->List V->Hp->VK->Prop)(to:TE)(t:TA):TE:=λσ H Q=>to σ H λx H1=>tyV K T x H1/\t σ H1 λxs H2=>r x xs H2 Q
variable {o e:Expr}{es:List Expr}{to:TE}{t:TA}{name:Str}{AX AN:Pos}{T id:String}{r:V->List V->Hp->VK->Prop}
theorem Ai (pa:xN T)(slot:Slot T name id)(JI:zR (.builtin id)=pure (.type "method_descriptor"))(hm:MtR X id r)(ho:PE X o to)
  (BY:nP o name X.env (eval o X.env)=eval o X.env:=by rfl) (BZ:(AX.endLine == AN.line)=true:=by rfl):PE X (.Call (.Attribute o name AX) [] [] AN) (Xm X.K T r to):=by
 intro f' s σ H Q I h;refine wpAny_Call_method0_late BY BZ (thn (ho f' s σ H _ I h) λv s1 AD=>?_);obtain⟨x,H1,I1,r1,ty,q1⟩:=AD;obtain⟨h1,h2⟩:=Ms I1 r1 ty;exact⟨T,id,pa,slot,JI,h1,h2,Calls.callWith_builtin rfl (PySem.evalArgs_none (hm f' s1 σ H1 x [] v [] Q I1 r1 .nil q1))⟩
theorem ki (pa:xN T)(slot:Slot T name id)(JI:zR (.builtin id)=pure (.type "method_descriptor"))(hm:MtR X id r)(ho:PE X o to)(ha:PA X (e::es) t)
  (BY:nP o name X.env (eval o X.env)=eval o X.env:=by rfl)
  (JJ:((jU AN (cJ (e::es) X.env)).all (λx=>!x.1) && (vS AN (sE [] X.env)).all (λx=>x.1.isSome) && decide ((e::es).length+([]:List vM).length+(if ([]:List vM).isEmpty then 0 else 1) < 30))=true:=by rfl)
  (BZ:(AX.endLine == AN.line)=true:=by rfl) (hs:cJ (e::es) X.env=(false,eval e X.env)::cJ es X.env:=by rfl) (DQ:(jU AN (cJ es X.env)).any (·.1)=false:=by rfl) :
  PE X (.Call (.Attribute o name AX) (e::es) [] AN) (tBM X.K T r to t):=by
 intro f' s σ H Q I h;refine wpAny_Call_method_late BY JJ BZ rfl (thn (ho f' s σ H _ I h) λv s1 AD=>?_);obtain⟨x,H1,I1,r1,ty,q1⟩:=AD;obtain⟨h1,h2⟩:=Ms I1 r1 ty;refine⟨T,id,pa,slot,JI,h1,h2,?_⟩;have hA:=ha AN f' s1 σ H1 _ I1 q1;rw[hs]at hA ⊢;refine Calls.callWith_builtin (by show(false || (jU AN (cJ es X.env)).any (·.1))=false;rw[DQ]<;>rfl) (Calls.evalArgs_plain ?_);exact thn hA λus s2 AD=>by obtain⟨vs,H2,I2,r2,q2⟩:=AD;exact hm f' s2 σ H2 x vs v us Q I2 r1 r2 q2
end
def MtM (X:Cx)(id:String)(r:V->List V->Hp->VK->Prop):Prop:=
 ∀(f':List (Addr×Obj))(s:aG) (σ:St) (H:Hp) (x:V) (xs:List V) (v:aC) (us:List aC) (Q:VK),Inv X f' σ H s->RelV x v->Vals xs us->r x xs H Q->
  aL (aS X.prog X.w) X.A (call (.builtin id) (v::us)) (EP X f' σ Q) X.xe s
theorem Vals.one:∀{x:V}{us:List aC},Vals [x] us->∃u,us=[u]/\RelV x u
 |_,_,.cons r .nil=>⟨_,rfl,r⟩
theorem Vals.zero:∀{us:List aC},Vals [] us->us=[]
 |_,.nil=>rfl
theorem Vals.dropLast {xs:List V}{us:List aC}(h:Vals xs us):Vals xs.dropLast us.dropLast:=by
 induction h with
 |nil=>exact .nil
 |cons r t ih=>
  cases t with
  |nil=>exact .nil
  |cons q t'=>exact .cons r ih
theorem Vals.reverse {xs:List V}{us:List aC}(h:Vals xs us):Vals xs.reverse us.reverse:=by
 induction h with
 |nil=>exact .nil
 |cons r t ih=>rw[lZ,lZ];exact Vals.append ih (.cons r .nil)
theorem Vals.rep {xs:List V}{us:List aC}(h:Vals xs us):∀k:Nat,Vals (dJ k xs).flatten (dJ k us).flatten
 |0=>.nil
 |k+1=>by
  rw[iZ,iZ,nS,nS];exact Vals.append h (Vals.rep h k)
theorem Ke {α:Type}(l:List α):l.eraseIdx (l.length - 1)=l.dropLast:=by
 induction l with
 |nil=>rfl
 |cons a r ih=>
  cases r with
  |nil=>rfl
  |cons b r=>
   have e:(a::b::r).length - 1=((b::r).length - 1)+1:=by
    have h1:(a::b::r).length=r.length+2:=rfl;have h2:(b::r).length=r.length+1:=rfl;lia
   rw[e,rT,ih]
   all_goals rfl
theorem Co (its:List aC):∀(k:Nat)(AL:List aC),
  zS (λx1 x2=>x1++x2) AL.toArray (dJ k its.toArray)=(AL++(dJ k its).flatten).toArray
 |0,AL=>by simp
 |k+1,AL=>by
  have e:AL.toArray++its.toArray=(AL++its).toArray:=(by simp);have e2:(AL++its)++(dJ k its).flatten=AL++(dJ (k+1) its).flatten:=by
   rw[iZ,nS,nU]
  rw[<-e2,<-Co its k (AL++its),<-e,iZ,wO]
section
variable {X:Cx}{f':List (Addr×Obj)}{σ:St}{H:Hp}{s:aG}{l b:Addr}{xs ys zs:List V}
theorem Inv.lset {its its':List aC}{n:Nat}{f:Array aC->Array aC}{t':Nat}(I:Inv X f' σ H s)(hH:H l=some (.lst xs))
  (e:s.heap.get? l=some { cls:=.type "list",data:=.seq its.toArray n }) (hf:f its.toArray=its'.toArray) (hv:Vals ys its') (hz:ys.length<=sizeLine) :
  Inv X f' σ (upd H l (.lst ys)) { s with heap:=s.heap.update l (jB f),toks:=t' }:=by
 have q:=PySem.IsL.update e f;rw[hf]at q;refine I.write (x:=l) (e:=l) (by rw[hH];exact trivial) (.inl rfl) (λb' u hb hu=>(jP s.heap (jB f) (Ne.symm hb)).trans hu) ⟨_,q⟩ ?_;exact⟨hz,its',_,hv,q⟩
theorem Inv.lnew {its:List aC}{t':Nat}(I:Inv X f' σ H s)(hv:Vals ys its)(hz:ys.length<=sizeLine) :
  Inv X f' σ (upd H s.heap.objs.size (.lst ys)) { s with heap:=s.heap.push { cls:=.type "list",data:=.seq its.toArray },toks:=t' }:=
 I.laid (λ_ _ q=>aI _ q) (aN _) ⟨hz,its,0,hv,aY _ rfl⟩
theorem Inv.fresh (I:Inv X f' σ H s):H s.heap.objs.size=none:=I.hok.fresh (aN _)
theorem Inv.lstM (I:Inv X f' σ H s)(hH:H l=some (.lst xs)):xs.length<=sizeLine/\∃(its:List aC)(n:Nat),Vals xs its/\xs.length=its.length/\s.heap.get? l=some { cls:=.type "list",data:=.seq its.toArray n }:=by
 obtain⟨z,its,n,r,e⟩:=I.hok l _ hH;exact⟨z,its,n,r,r.length,e⟩
theorem yo {n:Nat}(h:n<=sizeLine):kK n=false:=by
 unfold kK;exact decide_eq_false (by lia)
end
section
variable {X:Cx}
def Uv:V->List V->Hp->VK->Prop:=λx vs H Q=>∃l xs y,x=.ref l/\vs=[y]/\H l=some (.lst xs)/\xs.length < sizeLine/\Q .non (upd H l (.lst (xs++[y])))
theorem gq:MtM X "list.append" Uv:=by
 intro f' s σ H x vs v us Q I rx rv h;obtain⟨l,xs,y,rfl,rfl,hH,hz,q⟩:=h;cases rx;obtain⟨u,rfl,ru⟩:=rv.one;obtain⟨z,its,n,r,hl,e⟩:=I.lstM hH;refine rJ F.slot_list_append ⟨_,e,rfl⟩ F.entry_list_append (F.args_list_append_2 _ _) (PySem.list_append l its.toArray n u (by rw[aO];lia)) ⟨e,?_⟩;refine⟨.non,_,I.lset (its':=its++[u]) hH e (by simp) (r.append (.cons ru .nil)) ?_,rfl,q⟩;rw[aQ,gK];lia
def Uw:V->List V->Hp->VK->Prop:=λx vs H Q=>∃l b xs zs,x=.ref l/\vs=[.ref b]/\H l=some (.lst xs)/\H b=some (.lst zs)/\xs.length+zs.length<=sizeLine/\Q .non (upd H l (.lst (xs++zs)))
theorem Mt:MtM X "list.extend" Uw:=by
 intro f' s σ H x vs v us Q I rx rv h;obtain⟨l,b,xs,zs,rfl,rfl,hH,hB,hz,q⟩:=h;cases rx;obtain⟨u,rfl,ru⟩:=rv.one;cases ru;obtain⟨z,its,n,r,hl,e⟩:=I.lstM hH;obtain⟨z2,AH,n2,r2,AR,e2⟩:=I.lstM hB;have hsz:its.toArray.size+AH.toArray.size<=sizeLine:=(by rw[aO,aO];lia);have DC:¬(!its.toArray.isEmpty && kK (its.toArray.size+AH.toArray.size))=true:=by
  rw[yo hsz,rK];exact bX
 refine rJ F.slot_list_extend ⟨_,e,rfl⟩ F.entry_list_extend (F.args_list_extend_2 _ _)
  (AutoSeq1.list_extend_list_list_0 l its.toArray n b AH.toArray n2 DC (by rw[aO];lia) (by lia)) ⟨e,e2,?_⟩
 refine⟨.non,_,I.lset (its':=its++AH) hH e (by simp) (r.append r2) ?_,rfl,q⟩;rw[aQ];lia
def rPop:V->List V->Hp->VK->Prop:=λx vs H Q=>∃l xs y,x=.ref l/\vs=[]/\H l=some (.lst xs)/\xs[xs.length - 1]?=some y/\Q y (upd H l (.lst xs.dropLast))
theorem Ea:MtM X "list.pop" rPop:=by
 intro f' s σ H x vs v us Q I rx rv h;obtain⟨l,xs,y,rfl,rfl,hH,hy,q⟩:=h;cases rx;have LX:=rv.zero;subst LX;obtain⟨z,its,n,r,hl,e⟩:=I.lstM hH;obtain⟨u,hu,ru⟩:=r.get hy;have HB:its.toArray[its.toArray.size - 1]?=some u:=by
  show its.toArray[its.length - 1]?=some u;rw[<-eB,<-hl];exact hu
 refine rJ F.slot_list_pop ⟨_,e,rfl⟩ F.entry_list_pop (F.args_list_pop_1 _) (MeetsSeq.list_pop_last l its.toArray n u HB (by rw[aO];lia)) ⟨e,?_⟩;refine⟨y,_,I.lset (its':=its.dropLast) hH e ?_ r.dropLast ?_,ru,q⟩
 ·show its.toArray.eraseIdxIfInBounds (its.toArray.size - 1)=its.dropLast.toArray;rw[aO,List.eraseIdxIfInBounds_toArray,Ke]
 ·rw[List.length_dropLast];lia
def rCat:R2:=λx y H Q=>∃l b xs zs,x=.ref l/\y=.ref b/\H l=some (.lst xs)/\H b=some (.lst zs)/\xs.length+zs.length<=sizeLine/\∀p,H p=none->Q (.ref p) (upd H p (.lst (xs++zs)))
theorem d9:OpR X (jY .Add) rCat:=by
 intro f' s σ H x y v u Q I rx ry h;obtain⟨l,b,xs,zs,rfl,rfl,hH,hB,hz,q⟩:=h;cases rx;cases ry;obtain⟨z,its,n,r,hl,e⟩:=I.lstM hH;obtain⟨z2,AH,n2,r2,AR,e2⟩:=I.lstM hB;refine PySem.P.add_list e e2 ?_ (by rw[aO,aO];lia);have ea:its.toArray++AH.toArray=(its++AH).toArray:=(by simp);rw[ea];exact⟨.ref _,_,I.lnew (t':=s.toks) (r.append r2) (by rw[aQ];lia),rfl,q _ I.fresh⟩
def rRep:R2:=λx y H Q=>∃l k xs,x=.ref l/\y=.int k/\H l=some (.lst xs)/\-(2 ^ 63)<=k/\k < 2 ^ 63/\xs.length * k.toNat<=sizeLine/\
 ∀p,H p=none->Q (.ref p) (upd H p (.lst (dJ k.toNat xs).flatten))
theorem Ux {α:Type}(xs:List α)(k:Nat):(dJ k xs).flatten.length=k * xs.length:=by
 induction k with
 |zero=>simp
 |succ k ih=>rw[iZ,nS,aQ,ih,Nat.succ_mul,jD]
theorem Eb:OpR X (jY .Mult) rRep:=by
 intro f' s σ H x y v u Q I rx ry h;obtain⟨l,k,xs,rfl,rfl,hH,h1,h2,hz,q⟩:=h;cases rx;obtain⟨t,rfl⟩:=ry;obtain⟨z,its,n,r,hl,e⟩:=I.lstM hH;have AG:its.toArray.size * k.toNat<=sizeLine:=(by rw[aO,<-hl];exact hz);have hcap:¬its.toArray.size * k.toNat > (2 ^ 63 - 1) / 8:=by
  have:(sizeLine:Nat)<=(2 ^ 63 - 1) / 8:=(by decide);lia
 have BI:¬(!Builtin.List.listFitsIndex k)=true:=by
  rw[fitsIndex_both h1 h2];exact bX
 have DC:¬kK (its.toArray.size * k.toNat)=true:=by
  rw[yo AG];exact bX
 have hnew:zS (λx1 x2=>x1++x2) #[] (dJ (if its.toArray.isEmpty=true then 0 else k.toNat) its.toArray)=(dJ k.toNat its).flatten.toArray:=by
  have f0:∀m:Nat,zS (λx1 x2=>x1++x2) #[] (dJ m its.toArray)=(dJ m its).flatten.toArray:=λm=>by
   have:=Co its m [];rw[List.nil_append]at this;exact this
  rw[f0];cases its with
  |nil=>simp
  |cons a r'=>rw[if_neg (by simp)]
 refine wpAny_binaryOp_repeat_ref (T:="list") (U:="int") (by decide) ⟨_,e,rfl⟩ (λs'=>vK s' k t) noFill_list_mul F.fills_int_mul F.slot_int_rmul repeat_list F.slot_int_index.lookup
  (rJ F.slot_int_rmul (vK s k t) F.entry_int_rmul (F.args_int_rmul_2 _ _) (int___rmul___int_list k t l its.toArray n) ⟨e,rfl,⟨_,e,rfl⟩,rJ F.slot_list_mul ⟨_,e,rfl⟩ F.entry_list_mul (F.args_list_mul_2 _ _) (AutoListH.list___mul___list_int_3 l its.toArray n k t BI hcap DC) ⟨e,?_⟩⟩)
 rw[hnew];exact⟨.ref _,_,I.lnew (t':=s.toks) (r.rep k.toNat) (by rw[Ux,tQ];exact hz),rfl,q _ I.fresh⟩
end
section
variable {prog:aU}{w:aZ}{A:cC}{E:aC->aG->Prop}{s:aG}
set_option maxRecDepth 100000 in
end
section
variable {X:Cx}
end
end L2
namespace Att
open PySem PySem.W PySem.Calls PyProof.Rows
theorem Aj {P:Params}{h:Heap}:∀(ns:List Int)(vs:List aC),WellAll P h vs (ns.map WData.int)->zA vs ns:=by
 intro ns
 induction ns with
 |nil=>
  intro vs w;rw[yL]at w;cases w;exact .nil
 |cons n ns ih=>
  intro vs w;rw[gU]at w;cases w with
  |cons a b=>
   cases a;exact .cons _ _ (ih _ b)
theorem Mu {l:sL}{n:Nat}(hn:l.most=some n){P:Params}{h:Heap}{args:List WData}{FC:List aC}
  (HC:l.row.toRowW.claim.pre args=true) (ON:WellAll P h FC args) :
  ∃a vs ns,FC=[bZ a]/\args=[WData.list (ns.map WData.int)]/\h.get? a=some { cls:=.type "list",data:=.seq vs.toArray }/\zA vs ns/\ns.length<=n:=by
 have hsh:WShape.hasAll [] args [.list .int]=true:=(pre_splitW HC).1;have hc:l.pre.holds [] { args:=args }=true:=(pre_splitW HC).2;obtain⟨d,r,rfl,h1,h2⟩:=hasAllW_cons hsh;obtain rfl:=hasAllW_nil h2;obtain⟨xs,rfl,h3⟩:=hasW_list h1;obtain⟨ns,rfl⟩:=items_int h3;have AG:ns.length<=n:=by
  unfold OpenLaw.pre at hc;have h4:(WTm.not (.lt (.lit (.int (n:Int))) (.len (.arg 0)))).holds [] { args:=[.list (ns.map .int)] }=true:=by
   have h4:=(holds_andW hc).1;rw[hn]at h4;exact h4
  have h5:=condW_of h4 (w_not (w_lt w_lit (w_len_list (w_arg rfl))));rw[aJ]at h5;refine sR λq=>?_;have q':(n:Int) < ((ns.length:Nat):Int):=by lia
  first
   | (rw[decide_eq_true q']at h5;exact absurd h5 (by decide))
   | (simp at h5;lia)
 cases ON with
 |cons w1 w2=>
  cases w2;cases w1 with
  |list ho BM=>exact⟨_,_,ns,rfl,rfl,ho,Aj ns _ BM,AG⟩
theorem Mv (l:sL)(args:List WData):l.row.toRowW.claim.post args (.bool true) args=true:=
 postW_of (r:=l.row.toRowW) (X:=(true == true))
  (show WShape.has [] (.bool true) .bool=true by first | rfl | decide | simp[WShape.has,WShape.arms,WShape.armsAll])
  (show(WTm.eq .res (.lit (.bool true))).value [] { args:=args,res:=some (.bool true),after:=args }=some (.bool (true == true))from w_eq_bool (w_res rfl) w_lit) rfl
theorem attach_call {l:sL}{n:Nat}{q:aU}{CJ:List Str}{XP:(Str->Option aC)->Heap->Prop}{YP:aZ->Heap->Prop}{d:DefRec}
  (hn:l.most=some n) (LY:d.params.defaults=[])
  (call:∀(w:aZ)(s₀ s₁:aG) (mg mb:Str->Option aC) (fa:Addr) (o:Obj) (pm cd BA:aC) (a:Addr) (vs:List aC) (ns:List Int),Ground q CJ [] XP w s₀ mg mb s₁.heap->YP w s₁.heap->s₁.heap.get? fa=some o->o.data=.func (docDef d.name d.params d.body d.scope pm cd BA)->s₁.heap.CodeRec cd d.name->mg d.name=some (.ref fa)->s₁.heap.get? a=some { cls:=.type "list",data:=.seq vs.toArray }->zA vs ns->ns.length<=n->s₁.gens=#[]->oA (aS l.prog w) vN (.call (.ref fa) ⟨[.ref a],[]⟩) (λr s'=>r=.ok (.ret (.bool true))/\OldK s₁.heap s'.heap/\s'.os=s₁.os/\qG s'.gens) s₁) :
  WalkO q CJ XP YP l.row.toRowW d [] (λf vs=>zT f vs):=by
 intro w s₀ s₁ mg mb G Y fa o pm cd BA dV kV ho hd EL hD QH hg args FC as HC hlay hrd ON hlo;obtain rfl:dV=.none:=Dflts.none hD LY;obtain rfl:kV=.none:=Dflts.noKw hD;obtain⟨a,vs,ns,rfl,rfl,JK,FD,AG⟩:=Mu hn HC ON;refine enter_call (lU (call w s₀ s₁ mg mb fa o pm cd BA a vs ns G Y ho (fd_plain hd) EL QH JK FD AG hg) λr s' hq=>?_);obtain⟨rfl,h2,h3,h4⟩:=hq;exact⟨.inl ⟨.bool true,.bool true,[],rfl,λ_=>rfl,.bool true,Mv l _,λ_=>⟨vE,λ_ hm=>(nomatch hm)⟩⟩,h2,h3,h4⟩
section
variable {prog:aU}{w:aZ}{A:cC}{E:aC->aG->Prop}{s:aG}{K:Frag}
def ledger (h:Heap)(L d:Addr):List (Addr×Obj):=(dG h.objs.size).filterMap λa=>if a=L\/a=d then none else (h.get? a).map λo=>(a,o)
end
end Att
namespace L2
open PySem PySem.Spec PyProof.Rows
theorem Cp:∀{vs:List aC}{ns:List Int},zA vs ns->Vals (ns.map V.int) vs
 |_,_,.nil=>.nil
 |_,_,.cons n t h=>.cons ⟨t,rfl⟩ (Cp h)
def P3 (H:Hp):Prop:=∀b,H b=none\/∃o xs,H b=some (.frz o (.lst xs))
theorem P4 {P:aU}{w:aZ}{K:aB}{mg mb:Str->Option aC}{CX:CXT}{k:Nat}{fa a:Addr}{fd:bQ}{x:Str}{sp:Sp}{s₁:aG}{vs:List aC}{ns:List Int}
  (KX:K.In s₁.heap) (IA:s₁.heap.Ns cW mg) (hb:s₁.heap.Ns zK mb) (hbb:∀x:Str,x≠"__name__"->mb x=jK x) (hlim:s₁.heap.NoLimit) (hg:s₁.gens=#[])
  (ha:s₁.heap.get? a=some { cls:=.type "list",data:=.seq vs.toArray }) (hi:zA vs ns) (hl:ns.length<=sizeLine) (hr:Room k vN)
  (F:∀base:Heap,K.In base->base.Ns cW mg->FnOk P w K mg base CX k fa fd [x] sp) (hbind:∀(s:aG)(u:aC),xD s fd ⟨[u],[]⟩ [(x,u)])
  (AY:∀H:Hp,P3 H->SqL K H a (ns.map V.int)->sp [.ref a] H (λv _=>v=.bl true) λ_ _ _=>False)
  (QI:∀H e s',CX [] H s₁ (λ_ _ _=>False) e s'->False) :
  oA (aS P w) vN (.call (.ref fa) ⟨[.ref a],[]⟩) (λr s'=>r=.ok (.ret (.bool true))/\OldK s₁.heap s'.heap/\s'.os=s₁.os/\qG s'.gens) s₁:=by
 have rv:=Cp hi;have lenV:=hi.length;have LZ:∀H:Hp,P3 H->SqL K H a (ns.map V.int)->HOk P w H s₁.heap->(∀b,H b≠none->b=a)->(H a≠none->K.lookup a=none)->
   oA (aS P w) vN (.call (.ref fa) ⟨[.ref a],[]⟩) (λr s'=>r=.ok (.ret (.bool true))/\OldK s₁.heap s'.heap/\s'.os=s₁.os/\qG s'.gens) s₁:=by
  intro H hO hS hok hA hK;have EC:∀{b:Addr}{o:Obj},s₁.heap.get? b=some o->H b=none->(jo s₁.heap H).get? b=some o:=λe n=>yj e n;have LV:∀{b:Addr}{o:Obj}{es:Array DictEntry}{ep:Nat},s₁.heap.get? b=some o->o.data=.dict es ep->H b=none:=λ{b o es ep} e d=>by
   cases q:H b with
   |none=>rfl
   |some u=>
    have e':b=a:=hA b (by rw[q];simp);subst e';rw[ha]at e;cases e;have d':xO vs.toArray _=Data.dict es ep:=d;cases d'
  have OO:∀{b:Addr}{m:Str->Option aC},s₁.heap.Ns b m->(jo s₁.heap H).Ns b m:=λ{b m} AD=>(by obtain⟨o,es,ep,e,d,r⟩:=AD;exact⟨o,es,ep,EC e (LV e d),d,r⟩);have UG:K.In (jo s₁.heap H):=λb o e=>EC (KX b o e) (by
    cases q:H b with
    |none=>rfl
    |some u=>
      have e':b=a:=hA b (by rw[q];simp);subst e';rw[hK (by rw[q];simp)]at e;cases e)
  have hM:Mod K mg (jo s₁.heap H):=⟨UG,OO IA,⟨mb,OO hb,hbb⟩,let ⟨mc,h1,h2⟩:=hlim;⟨mc,OO h1,h2⟩⟩;have e0:Env0 P w K mg (jo s₁.heap H) vN [] s₁ H:=⟨rfl,hM,λb o e=>Bi e,Nat.le_of_eq (L6 _ _),trivial,λb hb=>absurd (show b∈([]:List Addr)from hb) (by simp),hok,.of_eq hg⟩;refine lU ((F _ UG (OO IA)).run vN [] s₁ H ⟨[.ref a],[]⟩ [.ref a] [.ref a] _ _ hr e0 (hbind s₁ (.ref a)) (.cons rfl .nil) (AY H hO hS)) λr s' h=>?_;cases r with
  |error e=>exact(QI H e s' h).elim
  |ok fl=>
   cases fl with
   |next=>exact iG h
   |brk=>exact iG h
   |cont=>exact iG h
   |ret u=>
    obtain⟨v,H',os,bare,un,hok',r',q⟩:=h;have q':v=.bl true:=q;subst q';obtain rfl:u=xJ true:=r';refine⟨rfl,OldK.of_keep λb o e=>?_,os,bare⟩;cases q:H b with
    |none=>exact un.keep b o e q (by intro z;exact absurd (show b∈([]:List Addr)from z) (by simp)) (by simp)
    |some u=>
     rcases hO b with z | ⟨ob,xs,z⟩
     ·rw[q]at z;cases z
     ·have z2:=un.frzs b ob _ z;obtain⟨e1,_⟩:=hok b _ z;obtain⟨e2,_⟩:=hok' b _ z2;rw[e]at e1;cases e1;exact e2
 cases hk:K.lookup a with
 |some o=>
  have e:=KX a o hk;rw[ha]at e;cases e;refine LZ (λ_=>none) (λ_=>.inl rfl) (.inr ⟨_,vs.toArray,_,hk,rfl,rfl,rfl,by rw[aO,lenV];exact hl,by simpa using rv⟩) (λb u z=>by have z':(none:Option HO)=some u:=z;cases z') (λb z=>absurd rfl z) λz=>absurd rfl z
 |none=>
  refine LZ (λb=>if b=a then some (.frz { cls:=.type "list",data:=.seq vs.toArray } (.lst (ns.map V.int)))else none) (λb=>?_) (.inl (.inr ⟨{ cls:=.type "list",data:=.seq vs.toArray },if_pos rfl⟩)) (λb u z=>?_) (λb z=>?_) λ_=>hk
  ·by_cases hb:b=a
   ·exact .inr ⟨_,_,if_pos hb⟩
   ·exact .inl (if_neg hb)
  ·by_cases hb:b=a
   ·have z':=(if_pos hb).symm.trans z;cases z';subst hb;exact⟨ha,by rw[aJ];exact hl,vs,_,rv,ha⟩
   ·have z':=(if_neg hb).symm.trans z;cases z'
  ·by_cases hb:b=a
   ·exact hb
   ·exact absurd (if_neg hb) z
abbrev KOf {K:aB}{h:Heap}(_:K.In h):aB:=K
theorem walk_of {l:sL}{n k:Nat}{q:aU}{CJ:List Str}{XP:(Str->Option aC)->Heap->Prop}{YP:aZ->Heap->Prop}{d:DefRec}{K:Params->aB}{CX:aZ->CXT}{sp:aZ->Sp}{x:Str}
  (hn:l.most=some n) (EA:n<=sizeLine) (LY:d.params.defaults=[]) (hr:Room k vN)
  (hY:∀(w:aZ)(h:Heap),YP w h->(K w.params).In h)
  (F:∀(w:aZ)(mg:Str->Option aC) (fa:Addr) (h:Heap),(K w.params).In h->h.Ns cW mg->mg d.name=some (.ref fa)->∃fd:bQ,(∀(s:aG)(u:aC),xD s fd ⟨[u],[]⟩ [(x,u)])/\∀base:Heap,(K w.params).In base->base.Ns cW mg->FnOk l.prog w (K w.params) mg base (CX w) k fa fd [x] (sp w))
  (AY:∀(w:aZ)(H:Hp) (a:Addr) (ns:List Int),ns.length<=n->P3 H->SqL (K w.params) H a (ns.map V.int)->sp w [.ref a] H (λv _=>v=.bl true) λ_ _ _=>False)
  (QI:∀(w:aZ)(H:Hp) (s:aG) (e:aC) (s':aG),CX w [] H s (λ_ _ _=>False) e s'->False) :
  PySem.W.WalkO q CJ XP YP l.row.toRowW d [] (λf vs=>zT f vs):=by
 refine Att.attach_call hn LY λw s₀ s₁ mg mb fa o pm cd BA a vs ns G Y ho hd EL QH JK FD AG hg=>?_;have KX:=hY w _ Y;obtain⟨fd,hb,hF⟩:=F w mg fa _ KX G.T.g QH;exact P4 KX G.T.g G.T.b G.T.builtins G.T.nolimit hg JK FD (cH AG EA) hr hF hb (λH hO hS=>AY w H a ns AG hO hS) λH e s'=>QI w H s₁ e s'
end L2
namespace L2
open PySem PySem.Spec PyProof.Rows
def jg (s:Stmt)(j:Nat):Stmt:=match s with
 | .ClassDef _ _ _ body _ _ _ _ _ _ _=>body.getD j (.Pass ⟨0,0,0,0⟩)
 |_=>.Pass ⟨0,0,0,0⟩
def dt (s:Stmt):Arguments:=match s with
 | .FunctionDef _ a _ _ _ _ _ _ _ _=>a
 |_=>{ posonlyargs:=[],args:=[],vararg:=none,kwonlyargs:=[],kw_defaults:=[],kwarg:=none,defaults:=[] }
def c8 (s:Stmt):List Stmt:=match s with
 | .FunctionDef _ _ b _ _ _ _ _ _ _=>b
 |_=>[]
def aj (s:Stmt):gQ:=match s with
 | .FunctionDef _ _ _ _ _ _ sc _ _ _=>sc
 |_=>{ kind:=.function,names:=[],isGenerator:=false,isCoroutine:=false }
abbrev CX0:CXT:=λ_ _ _ _ _ _=>False
abbrev E0:XK:=λ_ _ _=>False
theorem bb {X:Cx}:n8 CX0 X E0:=λ_ _ _ _ _ _ _ h=>h.elim
structure Fun (K:aB)(x AI:Str)(st:Stmt)(f:Addr)(fd:bQ):Prop where
 ex:∃(oc:aC)(od:Option Addr) (kV BA pm:aC) (an:Option Addr) (AF ct:aC) (FA:Array (Option aC)),
  fd=gP x AI (dt st) (c8 st) (aj st) .none kV BA pm an AF ct/\K.lookup f=some ⟨oc,od,.func fd,FA⟩/\lB K AF AI=true
 kp:aR K (.ref f)=true
section
variable {P:aU}{w:aZ}{K:aB}{mg:Str->Option aC}{base:Heap}
theorem Fun.ok {x AI:Str}{st:Stmt}{f:Addr}{fd:bQ}{N ps:List Str}{k:Nat}{sp:Sp}(F:Fun K x AI st f fd)(S:aw N ps (aj st))(len:∀vs H Q E,sp vs H Q E->vs.length=ps.length)
  (DA:∀(AF:aC)(A:cC) (outer:List Env) (s:aG) (H:Hp) (vs:List V) (Q:VK) (E:XK),Room k (A.deeper (sI AI (aj st) s.heap.objs.size f AF))->sp vs H Q E->∃t,PSs (bh CX0 P w K mg base N AI (aj st) f AF A outer s H E).nox (c8 st) t/\t { nx:=λ_ H'=>Q .non H',rt:=Q } (start N vs) H):FnOk P w K mg base CX0 (k+1) f fd ps sp:=by
 obtain⟨oc,od,kV,BA,pm,an,AF,ct,FA,rfl,lk,EL⟩:=F.ex;refine Sx lk EL S len λA outer s H vs Q E hr AY=>?_;obtain⟨t,h,q⟩:=DA AF A outer s H vs Q E hr AY;exact⟨t,h.nox,q⟩
theorem Fun.binds {x AI:Str}{st:Stmt}{f:Addr}{fd:bQ}{ps:List Str}(F:Fun K x AI st f fd)
  (h:∀(kV BA pm:aC)(an:Option Addr) (AF ct:aC) (us:List aC),us.length=ps.length->pR (gP x AI (dt st) (c8 st) (aj st) .none kV BA pm an AF ct) ⟨us,[]⟩=pure (ps.zip us)):Binds K fd ps []:=by
 obtain⟨oc,od,kV,BA,pm,an,AF,ct,FA,rfl,lk,EL⟩:=F.ex;exact .all (h kV BA pm an AF ct)
theorem sh {x AI:Str}{st:Stmt}{f:Addr}{oc:aC}{od an:Option Addr}{FA:Array (Option aC)}{kV BA pm AF ct:aC}(l:K.lookup f=some ⟨oc,od,.func (gP x AI (dt st) (c8 st) (aj st) .none kV BA pm an AF ct),FA⟩)
  (c:lB K AF AI=true) (k:aR K (.ref f)=true):Fun K x AI st f (gP x AI (dt st) (c8 st) (aj st) .none kV BA pm an AF ct):=⟨⟨oc,od,kV,BA,pm,an,AF,ct,FA,rfl,l,c⟩,k⟩
end
theorem Kf {A:cC}{k:Nat}(hr:Room k A):A.units+1 < jH:=nC (Nat.add_le_add_left (by decide:1<=64) _) hr.units
theorem bj {n:Nat}(h:n<=1000):n < sizeLine:=nC h (by decide)
section
variable {X:Cx}
theorem pv (i:Nat){x:Str}{pos:Pos}(hN:X.N[i]?=some x:=by rfl)(hv:Vis X.env.scope x:=by first | exact cD rfl | exact oV (cD rfl) | exact oV (oV rfl))(hd:(x == ("__debug__":Str))=false:=by decide)
  (EL:(x == ("__classdict__":Str))=false:=by decide):PE X (.Name x pos) (qq i):=L7 hN hv hd EL
end
theorem dh {A B:Prop}(h:B):if false=true then A else B:=by
 rw[if_neg bX];exact h
theorem iz {A B:Prop}(h:A):if true=true then A else B:=by
 rw[if_pos rfl];exact h
theorem fb {c A B:Prop}[Decidable c](h1:c->A)(h2:¬c->B):if c then A else B:=by
 by_cases h:c
 ·rw[if_pos h];exact h1 h
 ·rw[if_neg h];exact h2 h
def Same (H H':Hp):Prop:=∀b o,H b=some o->H' b=some o
theorem Same.refl (H:Hp):Same H H:=λ_ _ h=>h
theorem Same.trans {H H1 H2:Hp}(a:Same H H1)(b:Same H1 H2):Same H H2:=λc o h=>b c o (a c o h)
theorem Same.free {H H':Hp}(e:Same H H'){l:Addr}(h:H' l=Option.none):H l=Option.none:=by
 cases q:H l with
 |none=>rfl
 |some o=>
  rw[e l o q]at h;cases h
theorem Same.seq {K:aB}{H H':Hp}{a:Addr}{xs:List V}(e:Same H H')(h:SqL K H a xs):SqL K H' a xs:=by
 rcases h with(h | ⟨o,h⟩) | h
 ·exact .inl (.inl (e _ _ h))
 ·exact .inl (.inr ⟨o,e _ _ h⟩)
 ·exact .inr h
end L2
set_option maxHeartbeats 4000000
namespace L2
open PySem PySem.Spec PyProof.Rows
section
variable {prog:aU}{w:aZ}{A:cC}{R:xC->aG->Prop}{s:aG}
theorem Mw {EN tg iter:Expr}{DR:List Expr}{sc:gQ}{pos:Pos}{it AL:aC}{env:Env}(J:Nat->aG->Prop)
  (CM:∀n s,J n s->aL (aS prog w) A (jL it) (λr s1=>match r with
    |none=>R (.ok .next) s1
    |some v=>aL (aS prog w) A (tO tg it v) (λ_ s2=>aL (aS prog w) A (uO tg env v) (λ_ s3=>
        aL (aS prog w) A (forIn DR true λc r=>if r=true then do let ok <-xB c env (eval c env);pure (tR ok)else pure (tR r)) (λok s4=>
          if ok=true then aL (aS prog w) A (eval EN env) (λy s5=>aL (aS prog w) A (call (.builtin "list.append") [AL,y]) (λ_ s6=>∃m,m < n/\J m s6) (λ_ _=>False) s5) (λ_ _=>False) s4
          else ∃m,m < n/\J m s4) (λ_ _=>False) s3) (λ_ _=>False) s2) (λ_ _=>False) s1) (λ_ _=>False) s)
  (n:Nat) (h:J n s):oA (aS prog w) A (.compLoop (.ListComp EN [⟨tg,iter,DR,0⟩] sc pos) 0 it AL env) R s:=by
 refine codeAny_loop rfl J (λn s hJ=>?_) n h;show aL _ A ((compTurn (.ListComp EN [⟨tg,iter,DR,0⟩] sc pos) 0 it AL env).onRaise (λx=>do noteFrame x env;theTreesLotGoes x)) _ _ s
 refine wpAny_noted ?_;rw[compTurn_list];refine aA (nN (aA (gB (CM n s hJ) (λr s1 h1=>?_) λ_ _ f=>f.elim)));cases r with
 |none=>exact wpAny_pure h1
 |some v=>
  refine aA (gB h1 (λ_ s2 h2=>?_) λ_ _ f=>f.elim);refine aA (gB h2 (λ_ s3 h3=>aA (gB h3 (λok s4 h4=>?_) λ_ _ f=>f.elim)) λ_ _ f=>f.elim);cases ok with
  |false=>exact wpAny_pure ⟨rfl,h4⟩
  |true=>
   exact aA (aA (gB h4 (λy s5 h5=>aA (gB h5 (λ_ s6 h6=>wpAny_pure (wpAny_pure ⟨rfl,h6⟩)) λ_ _ f=>f.elim)) λ_ _ f=>f.elim))
end
def cxC (X:Cx)(N:List Str)(sc:gQ)(cl:List (Str×Addr))(C:Addr)(s:aG)(H:Hp)(fp:List Addr):Cx where
 prog:=X.prog
 w:=X.w
 K:=X.K
 mg:=X.mg
 base:=X.base
 A:=X.A
 N:=N
 s₀:=s
 H₀:=H
 env:=compEnvC sc cl C X.env
 outer:=X.stack
 stack:=X.stack
 ex:=fp
 fn:=λ_=>false
 calm:=X.calm
 pn:=[]
 xe:=λ_ _=>False
def pick (σ:St)(fr:List Nat):St:=fr.map λi=>(σ[i]?).getD none
structure cp (X:Cx)(ns ys:List Str)(fr:List Nat)(sc:gQ)(cl:List (Str×Addr)):Prop where
 clos:xQ sc X.env=pure cl
 kind:sc.kind=.function
 nocell:∀y∈sc.names,y.2≠.cell
 locs:∀y∈sc.names,y.2=.local->sc.names.lookup y.1=some .local
 sub:∀p∈cl,X.env.cells.lookup p.1=some p.2
 has:∀y,((nJ sc X.env).names.lookup y=some .cell\/(nJ sc X.env).names.lookup y=some .free)->∃c,cl.lookup y=some c
 len:fr.length=ys.length
 outs:∀(j:Nat)(y:Str),ys[j]?=some y->∃i:Nat,fr[j]?=some i/\X.N[i]?=some y/\(X.env.kindOf y=some .cell\/X.env.kindOf y=some .free)/\
  ((nJ sc X.env).names.lookup y=some .cell\/(nJ sc X.env).names.lookup y=some .free)
theorem di {α:Type}:∀{l:List (Str×α)}{x:Str}{c:α},l.lookup x=some c->(x,c)∈l
 | [],_,_,h=>by cases h
 | (y,d)::r,x,c,h=>by
  rw[List.lookup_cons]at h;cases q:x == y with
  |true=>
   rw[q]at h;have e1:x=y:=eq_of_beq q;have e2:d=c:=cZ h;rw[e1,e2];exact eF
  |false=>
   rw[q]at h;exact cX _ (di h)
def PTs (X:Cx)(DR:List Expr)(t:TT):Prop:=
 ∀(f':List (Addr×Obj))(s:aG) (σ:St) (H:Hp) (Q:Bool->Hp->Prop),Inv X f' σ H s->t σ H Q->
  aL (aS X.prog X.w) X.A (forIn DR true λc r=>if r=true then do let ok <-xB c X.env (eval c X.env);pure (tR ok)else pure (tR r)) (TP X f' σ Q) X.xe s
def tYes:TT:=λ_ H Q=>Q true H
theorem cz {X:Cx}:PTs X [] tYes:=λ_ _ _ H _ I h=>wpAny_tests_nil ⟨H,I,h⟩
theorem Ic {X:Cx}{c:Expr}{t:TT}(h:PT X c t):PTs X [c] t:=λf' s σ H Q I q=>wpAny_tests_one (h f' s σ H Q I q)
def uc (k:Nat)(fr:List Nat)(g:TG)(tt:TT)(te:TE)(σ:St)(D:Addr)(ys:List V)(N:List V->Hp->Prop)(x:V)(H:Hp):Prop:=
 g x (dJ k none++pick σ fr) H λσ4 H4=>(∃ts,σ4=ts++pick σ fr/\ts.length=k)/\tt σ4 H4 λb H5=>if b=true then te σ4 H5 λy H6=>H6 D=some (.lst ys)/\N (ys++[y]) (upd H6 D (.lst (ys++[y])))else N ys H5
def qd (k:Nat)(fr:List Nat)(g:TG)(tt:TT)(te:TE)(σ:St)(Q:VK)(J:It)(H:Hp)(D:Addr):Prop:=∃W:Nat->Nat->List V->Hp->Prop,(∃m,W 0 m [] (upd H D (.lst [])))/\
 ∀i m ys H2,W i m ys H2->H2 D=some (.lst ys)/\((J.stop i H2/\Q (.ref D) H2)\/(J.go i H2/\ys.length < sizeLine/\∃N:List V->Hp->Prop,(∀FT H',N FT H'->∃m',m' < m/\W (i+1) m' FT H')/\∀x H3,J.yld i H2 x H3->uc k fr g tt te σ D ys N x H3))
def Sy (k:Nat)(fr:List Nat)(wi:TI)(g:TG)(tt:TT)(te:TE):TE:=λσ H Q=>wi σ H λJ H1=>∀D,H1 D=none->qd k fr g tt te σ Q J H1 D
section
variable {X:Cx}{f':List (Addr×Obj)}{σ:St}{H H':Hp}{s s':aG}{ns ys:List Str}{fr:List Nat}{sc:gQ}{cl:List (Str×Addr)}{C:Addr}{fp:List Addr}
theorem Xn (I:Inv X f' σ H s)(S:cp X ns ys fr sc cl)(hf:∀b∈fp,ij X f' H b)(hl:∀b∈fp,b < s.heap.objs.size)(hC:s.heap.objs.size<=C):(cxC X (ns++ys) sc cl C s H fp).Ok where
 mod:=I.ok.mod
 kind:=S.kind
 glob:=I.ok.glob
 blt:=I.ok.blt
 above:=hC
 inj:=λx y c e1 e2=>I.ok.inj x y c (S.sub _ (di e1)) (S.sub _ (di e2))
 has:=λx h=>S.has x h
 cab:=λx c h=>nomatch h
 hd:=λh=>I.ok.hd h
 frames:=I.ok.frames
 stk:=.inl rfl
 exf:=λb hb=>⟨cE (eI (hl b hb) hC),λx c e=>(hf b hb).2.2.2.2.1 x c (S.sub _ (di e))⟩
 bs:=I.bs
 bsz:=cH I.ok.bsz I.sz
 noex:=λb o e hb=>by
  rcases(hf b hb).2.2.2.1 with z | z
  ·exact I.ok.noex b o e z
  ·exact absurd (eI (aW e) (cH I.ok.bsz z)) (kZ _)
 exfs:=λb hb hs=>by
  rcases aX.mp (I.stkSub b hs)with z | z
  ·exact(hf b hb).2.1 z
  ·exact(hf b hb).2.2.1 z
 funs:=I.stack
 frf:=I.stkFree
theorem Cq {h':Heap}{t':Nat}{n:Nat}{m:Str->Option aC}(I:Inv X f' σ H s)(S:cp X ns ys fr sc cl)(hf:∀b∈fp,ij X f' H b)(hl:∀b∈fp,b < s.heap.objs.size)(hC:s.heap.objs.size < C)
  (k:∀b o,s.heap.get? b=some o->h'.get? b=some o) (hD:h'.get? s.heap.objs.size=some { cls:=.type "list",data:=.seq ([]:List aC).toArray n }) (hn:h'.Ns C m) :
  Inv (cxC X (ns++ys) sc cl C s H fp) [] (dJ ns.length none++pick σ fr) (upd H s.heap.objs.size (.lst [])) { s with heap:=h',toks:=t' }:=by
 have fD:H s.heap.objs.size=none:=I.hok.fresh (aN _);have fC:H C=none:=I.hok.fresh (lF hC);have cLt:∀x c,cl.lookup x=some c->c < s.heap.objs.size:=λx c e=>by
  obtain⟨v,q⟩:=I.cell x c (S.sub _ (di e));exact q.lt
 refine⟨Xn I S hf hl (lF hC),rfl,I.bare,Un.laid k (aN _) fD,⟨m,hn,λi y v e1 e2 e3=>?_⟩,λx c e=>?_,?_,λx c e=>?_,λp hp=>(nomatch hp),?_,?_⟩
 ·have e1:(ns++ys)[i]?=some y:=e1;by_cases hi:i < ns.length
  ·rw[eK (by simpa using hi),mK,if_pos hi]at e2;cases e2
  ·have ED:ns.length<=i:=sR hi;rw[gF ED]at e1;rw[gF (by simpa using ED),iA]at e2;obtain⟨i',f1,f2,f3,f4⟩:=S.outs _ y e1;unfold pick at e2;rw[cQ,f1]at e2;have OP:(σ[i']?).getD none=some v:=cZ e2;have e4:σ[i']?=some (some v):=by
    cases q:σ[i']? with
    |none=>rw[q]at OP;cases OP
    |some o=>
     rw[q]at OP;have e5:o=some v:=OP;rw[e5]
   obtain⟨m0,hn0,FU⟩:=I.loc;obtain⟨u,r,lk⟩:=FU i' y v f2 e4 (f3.elim (λz=>.inr (.inl z)) λz=>.inr (.inr z));refine⟨u,r,.inr ⟨f4,?_⟩⟩;rcases lk with⟨z,_⟩ | ⟨_,c,ec,hc⟩
   ·rcases f3 with z' | z'<;>(rw[z]at z';cases z')
   ·obtain⟨c',UH⟩:=S.has y f4;have ee:=S.sub _ (di UH);rw[ec]at ee;have ecc:c=c':=cZ ee;subst ecc;exact⟨c,UH,hc.keeps k⟩
 ·obtain⟨v,q⟩:=I.cell x c (S.sub _ (di e));exact⟨v,q.keeps k⟩
 ·show upd H s.heap.objs.size (.lst []) C=none;rw[ao (gJ hC)];exact fC
 ·rw[ao (cE (cLt x c e))];exact I.freeC x c (S.sub _ (di e))
 ·exact I.hok.laid k (aN _) ⟨gO _,[],n,.nil,hD⟩
 ·show(dJ ns.length none++pick σ fr).length=(ns++ys).length;rw[aQ,aQ,iA];unfold pick;rw[aJ,S.len]
theorem Ec {σ':St}{h':Heap}(I:Inv X f' σ H s)(hf:∀b∈fp,ij X f' H b)(hC:s.heap.objs.size<=C)(I':Inv (cxC X (ns++ys) sc cl C s H fp) [] σ' H' s')(hs:gI C s'.heap h') :
  Inv X f' σ H' { s' with heap:=h' }:=by
 have U:Un (frs X.stack) fp H H' s.heap s'.heap:=I'.base;have ne:∀b o,s.heap.get? b=some o->b≠C:=λb o e=>cE (eI (aW e) hC);refine I.call' (s':={ s' with heap:=h' }) (ch:=fp) I'.os ⟨λb o e n hb hx=>?_,λb o e n hb hx=>?_,U.free,λb o e hx=>?_,U.tups,U.frzs,U.tbls⟩ (λb u e=>?_) I'.bare λb hb=>?_
 ·exact(hs.2 b (ne b o e)).trans (U.keep b o e n hb hx)
 ·obtain⟨sl,q⟩:=U.slot b o e n hb hx;exact⟨sl,(hs.2 b (ne b o e)).trans q⟩
 ·obtain⟨o',q⟩:=U.there b o e hx;exact⟨o',(hs.2 b (ne b o e)).trans q⟩
 ·have UI:H' C=none:=I'.free;refine(I'.hok b u e).stay (λc v hc q=>(hs.2 c ?_).trans q) (λ_ q=>q) λ_ _ q=>q;intro z;rcases hc with z' | z'
  ·rw[<-z',z,UI]at e;cases e
  ·rw[z,UI]at z';cases z'
 ·obtain⟨f0,f1,f2,f3,f4,f5⟩:=hf b hb;exact⟨f3,f1,f4,f5⟩
end
theorem dz {X:Cx}{EN iter tg:Expr}{DR:List Expr}{sc:gQ}{pos:Pos}{ns ys:List Str}{fr:List Nat}{cl:List (Str×Addr)}{wi:TI}{g:TG}{tt:TT}{te:TE}(S:cp X ns ys fr sc cl)(hc:X.calm=true)
  (hi:PI X tg iter wi) (hg:∀C s H fp,PG (cxC X (ns++ys) sc cl C s H fp) tg g) (ht:∀C s H fp,PTs (cxC X (ns++ys) sc cl C s H fp) DR tt) (he:∀C s H fp,PE (cxC X (ns++ys) sc cl C s H fp) EN te)
  (hs:∀x,vB iter X.env x=pure x:=by intro _;rfl):PE X (.ListComp EN [⟨tg,iter,DR,0⟩] sc pos) (Sy ns.length fr wi g tt te):=by
 intro f' s σ H Q I h;rw[eval_ListComp];refine wpAny_comprehension_free (use:=none) rfl hs S.clos S.kind S.locs (thn (hi f' s σ H _ I h) λv s1 h1=>thn h1 λOJ s2 h2=>?_);obtain⟨it,fp,tn,J,H2,e,I2,T,EM,f2,rest⟩:=h2;subst e;obtain⟨W,⟨m0,w0⟩,CM⟩:=rest s2.heap.objs.size (I2.hok.fresh (aN _));refine gR (wpAny_newFunctionEnv S.nocell (by intro y hy;simp at hy) (λh3 IB EO=>?_) S.kind);dsimp only at IB EO ⊢;generalize hG:s2.heap.push { cls:=.type "list",dict:=none,data:=.seq ([]:List aC).toArray }=G at IB EO ⊢;have zG:G.objs.size=s2.heap.objs.size+1:=(by rw[<-hG,eY]);have DD:s2.heap.objs.size < G.objs.size:=(by rw[zG];exact mX _);have old:∀b o,s2.heap.get? b=some o->h3.get? b=some o:=λb o e=>
  EO.extBut b o (cE (jE (aW e) DD)) (aI _ (hG ▸ aI _ e))
 have hD:=EO.extBut _ _ (cE DD) (aI _ (hG ▸ aY _ rfl));have below:∀b∈fp,b < s2.heap.objs.size:=λb hb=>by
  obtain⟨o,eo,_⟩:=T.obj _ _ EM b hb;exact aW eo
 have I3:=Cq (ns:=ns) (ys:=ys) (fr:=fr) (t':=s2.toks+([]:List (Str×aC)).length) I2 S f2 below DD old hD IB;have BX:∀{H':Hp},(∀b∈fp,H' b=none)->∀b∈fp,ij (cxC X (ns++ys) sc cl G.objs.size s2 H2 fp) [] H' b:=λhn b hb=>
  ⟨hn b hb,cE (jE (below b hb) DD),I3.ok.exfs b hb,.inl hb,λx c e=>(I3.ok.exf b hb).2 x c e,λp hp=>nomatch hp⟩
 have ET:tn 0 h3:=T.keep _ _ _ EM λb _ o e=>old b o e;have KS:∀b∈fp,upd H2 s2.heap.objs.size (.lst []) b=none:=λb hb=>by
  rw[ao (cE (below b hb))];exact(f2 b hb).1
 have FE:∀s3:aG,s3={ s2 with heap:=h3,toks:=s2.toks+([]:List (Str×aC)).length }->
   oA (aS X.prog X.w) X.A (.compLoop (.ListComp EN [⟨tg,iter,DR,0⟩] sc pos) 0 (.ref it) (.ref s2.heap.objs.size) (compEnvC sc cl G.objs.size X.env))
    (compPost (aS X.prog X.w) X.A X.xe none (EP X f' σ Q) (.ref s2.heap.objs.size) G.objs.size) s3:=by
  intro s3 AC;subst AC;refine Mw (λn s'=>∃i zs H',Inv (cxC X (ns++ys) sc cl G.objs.size s2 H2 fp) [] (dJ ns.length none++pick σ fr) H' s'/\tn i s'.heap/\(∀b∈fp,H' b=none)/\W i n zs H') ?_ m0 ⟨0,[],_,I3,ET,KS,w0⟩;intro n s5 AC;obtain⟨i,zs,H5,I5,HA,JH,w5⟩:=AC;obtain⟨d5,QJ⟩:=CM i n zs H5 w5;rcases QJ with⟨stop,q⟩ | ⟨go,hz,N,hN,step⟩
  ·refine thn (T.done (cxC X (ns++ys) sc cl G.objs.size s2 H2 fp) rfl rfl rfl hc i [] s5 _ H5 _ I5 (BX JH) HA stop) λr s6 AD=>?_;obtain⟨hr,I6⟩:=AD;subst hr;obtain⟨m6,QK,_⟩:=I6.loc;exact⟨m6,QK,λh7 hs7=>⟨.ref s2.heap.objs.size,H5,Ec I2 f2 (lF DD) I6 hs7,rfl,q⟩⟩
  ·refine thn (T.item (cxC X (ns++ys) sc cl G.objs.size s2 H2 fp) rfl rfl rfl hc i [] s5 _ H5 _ I5 (BX JH) HA go) λr s6 AD=>?_;obtain⟨u,hr,h6⟩:=AD;subst hr;refine thn h6 λ_ s7 AD=>?_;obtain⟨x,H7,I7,r7,y7,JL,QL⟩:=AD;have QM:=I7.pinned (BX QL) (T.obj _ _ JL);refine thn (hg _ _ _ _ _ s7 _ H7 x u _ QM r7 (step x H7 y7)) λ_ s8 AD=>?_;obtain⟨σ8,H8,I8,⟨ts,eσ,JM⟩,q8⟩:=AD;have again:∀{H9:Hp}{s9:aG}{ER:List V}{m':Nat},m' < n->Inv (cxC X (ns++ys) sc cl G.objs.size s2 H2 fp) ([]++rz fp s7.heap) σ8 H9 s9->W (i+1) m' ER H9->
     ∃m,m < n/\∃i zs H',Inv (cxC X (ns++ys) sc cl G.objs.size s2 H2 fp) [] (dJ ns.length none++pick σ fr) H' s9/\tn i s9.heap/\(∀b∈fp,H' b=none)/\W i m zs H':=λ{H9 s9 ER m'} hm I9 w9=>by
    refine⟨m',hm,i+1,ER,H9,I9.unpinned.weak ?_ ?_,T.keep _ _ _ JL λb hb o e=>(I9.pin (b,o) (fQ _ (fQ _ (je hb e)))).1,λb hb=>?_,w9⟩
    ·rw[eσ,aQ,aQ,iA,JM]
    ·intro j v e;rw[eσ];by_cases hj:j < ns.length
     ·rw[eK (by simpa using hj),mK,if_pos hj]at e;cases e
     ·have FV:ns.length<=j:=sR hj;rw[gF (by simpa using FV),iA]at e;rw[gF (by rw[JM];exact FV),JM];exact e
    ·obtain⟨o,e,d⟩:=T.obj _ _ JL b hb;exact(I9.pin (b,o) (fQ _ (fQ _ (je hb e)))).2.1
   refine thn (ht _ _ _ _ _ s8 σ8 H8 _ I8 q8) λok s9 AD=>?_;obtain⟨H9,I9,q9⟩:=AD;cases ok with
   |false=>
    rw[if_neg bX]at q9 ⊢;obtain⟨m',hm,w9⟩:=hN _ _ q9;exact again hm I9 w9
   |true=>
    rw[if_pos rfl]at q9 ⊢;refine thn (he _ _ _ _ _ s9 σ8 H9 _ I9 q9) λyv IC AD=>?_;obtain⟨y,QN,QO,QP,QQ,MA⟩:=AD;refine thn (gq _ IC σ8 QN (.ref s2.heap.objs.size) [y] (.ref s2.heap.objs.size) [yv] (λ_ MB=>N (zs++[y]) MB) QO rfl (.cons QP .nil) ⟨_,zs,y,rfl,rfl,QQ,hz,MA⟩) λ_ s11 AD=>?_;obtain⟨_,MB,QR,_,QS⟩:=AD;obtain⟨m',hm,QT⟩:=hN _ _ QS;exact again hm QR QT
 exact codeAny_compStart_list (FE _ rfl) (T.self X.A 0 _ _ _ ET (FE _ rfl))
section
variable {k:Nat}{fr:List Nat}{g:TG}{tt:TT}{te:TE}{σ:St}{Q:VK}{D:Addr}{H:Hp}
theorem Ak {lo:Int}{n:Nat}(Pv:Nat->List V->Hp->Prop)(h0:Pv 0 [] (upd H D (.lst [])))(hd:∀i ys H,Pv i ys H->H D=some (.lst ys))
  (hs:∀i ys H,i < n->Pv i ys H->ys.length < sizeLine/\uc k fr g tt te σ D ys (Pv (i+1)) (.int (lo+i)) H) (he:∀ys H,Pv n ys H->Q (.ref D) H):qd k fr g tt te σ Q (Itr lo n) H D:=by
 refine⟨λi m ys H=>i+m=n/\Pv i ys H,⟨n,by lia,h0⟩,?_⟩;intro i m ys H2 AC;obtain⟨e,p⟩:=AC;refine⟨hd i ys H2 p,?_⟩;by_cases hi:i < n
 ·obtain⟨z,q⟩:=hs i ys H2 hi p;refine .inr ⟨hi,z,Pv (i+1),λFT H' p'=>⟨m - 1,by lia,by lia,p'⟩,?_⟩;intro x H3 AC;obtain⟨rfl,rfl⟩:=AC;exact q
 ·have e':i=n:=(by lia);subst e';exact .inl ⟨aN _,he ys H2 p⟩
theorem dy {K:aB}{a:Addr}{xs:List V}(Pv:Nat->List V->Hp->Prop)(h0:Pv 0 [] (upd H D (.lst [])))(hd:∀i ys H,Pv i ys H->H D=some (.lst ys))(hl:∀i ys H,i<=xs.length->Pv i ys H->SqL K H a xs)
  (hs:∀i x ys H,xs[i]?=some x->Pv i ys H->ys.length < sizeLine/\uc k fr g tt te σ D ys (Pv (i+1)) x H) (he:∀ys H,Pv xs.length ys H->Q (.ref D) H):qd k fr g tt te σ Q (Itl K a) H D:=by
 refine⟨λi m ys H=>i+m=xs.length/\Pv i ys H,⟨xs.length,by lia,h0⟩,?_⟩;intro i m ys H2 AC;obtain⟨e,p⟩:=AC;have sq:=hl i ys H2 (by lia) p;refine⟨hd i ys H2 p,?_⟩;by_cases hi:i < xs.length
 ·have hx:xs[i]?=some xs[i]:=aK hi;obtain⟨z,q⟩:=hs i _ ys H2 hx p;refine .inr ⟨⟨xs,_,sq,hx⟩,z,Pv (i+1),λFT H' p'=>⟨m - 1,by lia,by lia,p'⟩,?_⟩;intro x H3 AC;obtain⟨rfl,hy⟩:=AC;have e2:=hy xs sq;rw[hx]at e2;cases e2;exact q
 ·have e':i=xs.length:=(by lia);subst e';exact .inl ⟨⟨xs,sq,aN _⟩,he ys H2 p⟩
theorem Ed {K:aB}{a:Addr}{xs:List V}(Pv:Nat->List V->Hp->Prop)(h0:Pv 0 [] (upd H D (.lst [])))(hd:∀i ys H,Pv i ys H->H D=some (.lst ys))(hl:∀i ys H,i<=xs.length->Pv i ys H->SqT K H a xs)
  (hs:∀i x ys H,xs[i]?=some x->Pv i ys H->ys.length < sizeLine/\uc k fr g tt te σ D ys (Pv (i+1)) x H) (he:∀ys H,Pv xs.length ys H->Q (.ref D) H):qd k fr g tt te σ Q (Itt K a) H D:=by
 refine⟨λi m ys H=>i+m=xs.length/\Pv i ys H,⟨xs.length,by lia,h0⟩,?_⟩;intro i m ys H2 AC;obtain⟨e,p⟩:=AC;have sq:=hl i ys H2 (by lia) p;refine⟨hd i ys H2 p,?_⟩;by_cases hi:i < xs.length
 ·have hx:xs[i]?=some xs[i]:=aK hi;obtain⟨z,q⟩:=hs i _ ys H2 hx p;refine .inr ⟨⟨xs,_,sq,hx⟩,z,Pv (i+1),λFT H' p'=>⟨m - 1,by lia,by lia,p'⟩,?_⟩;intro x H3 AC;obtain⟨rfl,hy⟩:=AC;have e2:=hy xs sq;rw[hx]at e2;cases e2;exact q
 ·have e':i=xs.length:=(by lia);subst e';exact .inl ⟨⟨xs,sq,aN _⟩,he ys H2 p⟩
end
section
variable {X:Cx}{f':List (Addr×Obj)}{σ:St}{H:Hp}{s:aG}{h':Heap}
theorem Inv.track {a:Addr}{o:HO}(I:Inv X f' σ H s)(f:ij X f' H a)(h1:X.s₀.heap.objs.size<=a)(new:ObjOk X.prog X.w (upd H a o) s.heap a o):Inv X f' σ (upd H a o) s:=by
 obtain⟨f0,f1,f2,f3,f4,f5⟩:=f;have old:∀b u,H b=some u->upd H a o b=some u:=λb u e=>by
  rw[ao (aq e f0)];exact e
 refine⟨I.ok,I.os,I.bare,⟨I.base.keep,I.base.slot,λb ob e n hx=>?_,I.base.there,λb xs e=>old _ _ (I.base.tups b xs e),λb ob u e=>old _ _ (I.base.frzs b ob u e),λb ps e=>?_⟩,I.loc,I.cell,?_,λx c e=>?_,λp hp=>?_,λb u e=>?_,I.len⟩
 ·rw[ao (cE (eI (aW e) h1))];exact I.base.free b ob e n hx
 ·obtain⟨more,q⟩:=I.base.tbls b ps e;exact⟨more,old _ _ q⟩
 ·rw[ao (Ne.symm f1)];exact I.free
 ·rw[ao (f4 x c e)];exact I.freeC x c e
 ·obtain⟨p1,p2,p3⟩:=I.pin p hp;refine⟨p1,?_,p3⟩;rw[ao (f5 p hp)];exact p2
 ·by_cases q:b=a
  ·subst q;rw[af]at e;cases e;exact new
  ·rw[ao q]at e;exact(I.hok b u e).stay (λ_ _ _ z=>z) (λc z=>old _ _ z) λc xs z=>old _ _ z
theorem Inv.turnedAll {t':Nat}{ch:List Addr}(I:Inv X f' σ H s)(hf:∀b∈ch,ij X f' H b)(k:∀b o,b ∉ ch->s.heap.get? b=some o->h'.get? b=some o):Inv X f' σ H { s with heap:=h',toks:=t' }:=by
 have nc:∀b u,H b=some u->b ∉ ch:=λb u e z=>by
  rw[(hf b z).1]at e;cases e
 refine I.step (g':=s.gens) (d':=s.drawn) (ch:=ch) (λb hb=>?_) (λb o _ _ hc e _=>k b o hc e) (λb o _ _ hc e _=>⟨o.slots,k b o hc e⟩) (λ_ _ _ _ n=>n) (λb o hc e=>⟨o,k b o hc e⟩)
  (λ_ _ e=>e) (λ_ _ _ e=>e) (λb ps e=>⟨#[],by rw[e];simp⟩) (λm hm=>?_) (λb u e=>?_) I.bare
 ·obtain⟨f0,f1,f2,f3,f4,f5⟩:=hf b hb;exact⟨f3,f1,f4,f5⟩
 ·obtain⟨o,es,ep,ho,r⟩:=hm;exact⟨o,es,ep,k _ o (λz=>(hf _ z).2.1 rfl) ho,r⟩
 ·refine(I.hok b u e).stay (λc v hc q=>k c v ?_ q) (λ_ q=>q) λ_ _ q=>q;rcases hc with z | z
  ·rw[z];exact nc b u e
  ·exact nc c _ z
end
section
variable {X:Cx}
def g0 (K:aB):R2:=λx y H Q=>∃a b ys,x=.ref a/\y=.ref b/\SqT K H a []/\SqT K H b ys/\Q (.ref b) H
theorem P5:OpR X (jY .Add) (g0 X.K):=by
 intro f' s σ H x y v u Q I rx ry h;obtain⟨a,b,ys,rfl,rfl,ha,hb,q⟩:=h;cases rx;cases ry;obtain⟨its,r1,p1,_⟩:=I.tuple ha;obtain⟨AH,r2,p2,_⟩:=I.tuple hb;cases r1;obtain⟨⟨c1,d1,t1,l1⟩,g1,k1,n1,z1⟩:=id p1;obtain⟨⟨c2,d2,t2,l2⟩,g2,k2,n2,z2⟩:=id p2;simp only at k1 z1 k2 z2;subst k1 z1 k2 z2;exact yI ⟨_,g1,rfl⟩ ⟨_,g2,rfl⟩ vU xS sJ rS (qW _ _)
  (tuple_addW0 a b #[] AH.toArray n1 n2 d1 d2 l1 l2 rfl) ⟨g1,g2,⟨.ref b,H,I,rfl,q⟩⟩
theorem pw:OpR X (jY .Add) (λx y H Q=>jf X.K x y H Q\/g0 X.K x y H Q):=Ut.or P5
def rSlS:V->Option Int->Option Int->Hp->VK->Prop:=λx lo hi H Q=>∃z,x=.str z/\z.length<=sizeLine/\Q (.str (wQ z lo hi)) H
theorem Xo:SlR X rSlS:=by
 intro f' s σ H x v vl vu lo hi sl Q I rx hs pl pu h;obtain⟨z,rfl,hz,q⟩:=h;obtain⟨t,rfl⟩:=rx;obtain⟨o,ho,hc,hd⟩:=hs;refine⟨"str",_,F.slot_str_getitem.lookup,zP _ _ _,?_⟩;have AK:∀t' k,EP X f' σ Q (.str (wQ z lo hi) t') { s with toks:=k }:=λt' k=>⟨.str (wQ z lo hi),H,I.tok k,⟨t',rfl⟩,q⟩;cases pl with
 |none=>
  cases pu with
  |none=>exact oM (l:=none) (u:=none) (st:=none) ⟨o,ho,hc,hd⟩ rfl (tS ⟨cH (vX z _ _) hz,AK⟩)
  |int j uj=>exact oM (l:=none) (u:=some (j,uj)) (st:=none) ⟨o,ho,hc,hd⟩ rfl (tS ⟨cH (vX z _ _) hz,AK⟩)
 |int i ui=>
  cases pu with
  |none=>exact oM (l:=some (i,ui)) (u:=none) (st:=none) ⟨o,ho,hc,hd⟩ rfl (tS ⟨cH (vX z _ _) hz,AK⟩)
  |int j uj=>exact oM (l:=some (i,ui)) (u:=some (j,uj)) (st:=none) ⟨o,ho,hc,hd⟩ rfl (tS ⟨cH (vX z _ _) hz,AK⟩)
end
end L2
namespace HT
open PySem PyProof.Rows
section
open PySem.SeqAt
open PySem.AutoSeq1 (wpAny_loadPart')
open PySem.MeetsSeq PySem.MeetsSeq2 PySem.MeetsSeq3
end
end HT
namespace L2
open PySem PySem.Spec PyProof.Rows
section
variable {X:Cx}
end
inductive Da where
 |flat (v:V)
 |tup (xs:List Da)
 |lst (xs:List Da)
mutual
inductive Hold (K:aB)(H:Hp):V->Da->Prop where
 |flat {v:V}:kh v=true->Hold K H v (.flat v)
 |tup {a:Addr}{xs:List V}{ds:List Da}:SqT K H a xs->Holds K H xs ds->Hold K H (.ref a) (.tup ds)
 |lst {a:Addr}{xs:List V}{ds:List Da}:SqL K H a xs->Holds K H xs ds->Hold K H (.ref a) (.lst ds)
inductive Holds (K:aB)(H:Hp):List V->List Da->Prop where
 |nil:Holds K H [] []
 |cons {x:V}{xs:List V}{d:Da}{ds:List Da}:Hold K H x d->Holds K H xs ds->Holds K H (x::xs) (d::ds)
end
mutual
def Da.dep:Da->Nat
 | .flat _=>0
 | .tup xs=>depL xs+1
 | .lst xs=>depL xs+1
def depL:List Da->Nat
 | []=>0
 |d::r=>max d.dep (depL r)
end
theorem md:∀{ds:List Da}{d:Da},d∈ds->d.dep<=depL ds
 |e::r,d,h=>by
  rw[depL];rcases aX.mp h with rfl | h
  ·exact Nat.le_max_left _ _
  ·exact cH (md h) (Nat.le_max_right _ _)
theorem Holds.length {K:aB}{H:Hp}:∀{xs:List V}{ds:List Da},Holds K H xs ds->xs.length=ds.length
 | [],_,h=>by cases h;rfl
 |_::_,_,h=>by
  cases h with
  |cons _ r=>rw[eE,eE,r.length]
theorem Holds.get {K:aB}{H:Hp}:∀{xs:List V}{ds:List Da}{j:Nat}{x:V},Holds K H xs ds->xs[j]?=some x->∃d,ds[j]?=some d/\Hold K H x d
 | [],_,_,_,_,e=>by cases e
 |z::zs,_,0,x,h,e=>by
  cases h with
  |cons hx _=>
   have e':z=x:=(by simpa using e);subst e';exact⟨_,rfl,hx⟩
 |z::zs,_,j+1,x,h,e=>by
  cases h with
  |cons _ r=>
   obtain⟨d,h1,h2⟩:=r.get (j:=j) (x:=x) (by simpa using e);exact⟨d,by simpa using h1,h2⟩
theorem P6 {v:V}(h:kh v=true):eqV v v=true:=by
 cases v with
 |non=>rfl
 |bl b=>exact beq_self_eq_true b
 |int i=>exact beq_self_eq_true i
 |str z=>exact beq_self_eq_true z
 |byt _=>cases h
 |flt _=>cases h
 |ref _=>cases h
 |ty _=>cases h
section
open PySem.SeqAt
variable {X:Cx}{f':List (Addr×Obj)}{σ:St}{H:Hp}{s:aG}{A:cC}
theorem ud {xs ys:List V}{ds:List Da}{its AH:List aC}(h1:Holds X.K H xs ds)(h2:Holds X.K H ys ds)(r1:Vals xs its)(r2:Vals ys AH)
  (el:∀d∈ds,∀(x y:V)(u v:aC),Hold X.K H x d->Hold X.K H y d->RelV x u->RelV y v->EqAt A s u v true) :
  ∀j (q1:j < its.toArray.size) (q2:j < AH.toArray.size),EqAt A s its.toArray[j] AH.toArray[j] true:=by
 intro j q1 q2;have l1:=r1.length;have l2:=r2.length;have j1:j < xs.length:=(by rw[l1];simpa using q1);have j2:j < ys.length:=(by rw[l2];simpa using q2);obtain⟨d,e1,k1⟩:=h1.get (aK j1);obtain⟨d',e2,k2⟩:=h2.get (aK j2);rw[e1]at e2;cases e2;obtain⟨u,f1,ru⟩:=r1.get (aK j1);obtain⟨v,f2,rv⟩:=r2.get (aK j2);have g1:its.toArray[j]=u:=by
  have z:its[j]?=some its.toArray[j]:=(by simp[aK (by simpa using q1:j < its.length)]);rw[f1]at z;exact(cZ z).symm
 have g2:AH.toArray[j]=v:=by
  have z:AH[j]?=some AH.toArray[j]:=(by simp[aK (by simpa using q2:j < AH.length)]);rw[f2]at z;exact(cZ z).symm
 rw[g1,g2];exact el d (bV e1) _ _ _ _ k1 k2 ru rv
theorem Ie (I:Inv X f' σ H s){a b:Addr}{xs ys:List V}{ds:List Da}(ha:SqT X.K H a xs)(hb:SqT X.K H b ys)(h1:Holds X.K H xs ds)(h2:Holds X.K H ys ds)(hu:A.units < jH)
  (el:∀d∈ds,∀(x y:V)(u v:aC),Hold X.K H x d->Hold X.K H y d->RelV x u->RelV y v->EqAt A.in1 s u v true):RcAt A s (.ref a) (.ref b) true:=by
 obtain⟨its,r1,p1,_⟩:=I.tuple ha;obtain⟨AH,r2,p2,_⟩:=I.tuple hb;have q:=RcAt.tuples (s:=s) (e:=λ_=>true) (show s.heap.IsTuple a its.toArray from p1) (show s.heap.IsTuple b AH.toArray from p2) hu (ud h1 h2 r1 r2 el);have e:its.toArray.size=AH.toArray.size:=by
  rw[aO,aO,<-r1.length,<-r2.length,h1.length,h2.length]
 rw[e,vY.mpr (λ_ _=>rfl)]at q;simpa using q
theorem Bp (I:Inv X f' σ H s){a b:Addr}{xs ys:List V}{ds:List Da}(ha:SqL X.K H a xs)(hb:SqL X.K H b ys)(h1:Holds X.K H xs ds)(h2:Holds X.K H ys ds)(hu:A.units < jH)
  (el:∀d∈ds,∀(x y:V)(u v:aC),Hold X.K H x d->Hold X.K H y d->RelV x u->RelV y v->EqAt A.in1 s u v true):RcAt A s (.ref a) (.ref b) true:=by
 obtain⟨its,r1,p1,_⟩:=I.list ha;obtain⟨AH,r2,p2,_⟩:=I.list hb;have e:its.toArray.size=AH.toArray.size:=by
  rw[aO,aO,<-r1.length,<-r2.length,h1.length,h2.length]
 have q:=RcAt.lists (s:=s) (e:=λ_=>true) p1.isList p2.isList e hu (ud h1 h2 r1 r2 el);rw[vY.mpr (λ_ _=>rfl)]at q;exact q
theorem pb (I:Inv X f' σ H s):∀(n:Nat) {d:Da}{x y:V}{u v:aC}{A:cC},d.dep<=n->A.units+n < jH->Hold X.K H x d->Hold X.K H y d->RelV x u->RelV y v->EqAt A s u v true
 |n,.flat w,x,y,u,v,A,_,_,hx,hy,rx,ry=>by
  cases hx with
  |flat f=>
   cases hy;have q:=Ah (A:=A) (s:=s) rx ry f f;rw[P6 f]at q;exact q
 |0,.tup ds,_,_,_,_,_,h,_,_,_,_,_=>by rw[Da.dep]at h;lia
 |0,.lst ds,_,_,_,_,_,h,_,_,_,_,_=>by rw[Da.dep]at h;lia
 |n+1,.tup ds,x,y,u,v,A,h,hu,hx,hy,rx,ry=>by
  rw[Da.dep]at h;cases hx with
  |@tup a xs _ ha h1=>
   cases hy with
   |@tup b ys _ hb h2=>
    cases(show u=bZ a from rx);cases(show v=bZ b from ry);by_cases BR:a=b
    ·rw[BR];exact AE _
    ·refine yM BR (Ie I ha hb h1 h2 (by lia) λd hd x y u v kx ky qx qy=>?_);exact pb I n (cH (md hd) (by lia)) (by rw[iE];lia) kx ky qx qy
 |n+1,.lst ds,x,y,u,v,A,h,hu,hx,hy,rx,ry=>by
  rw[Da.dep]at h;cases hx with
  |@lst a xs _ ha h1=>
   cases hy with
   |@lst b ys _ hb h2=>
    cases(show u=bZ a from rx);cases(show v=bZ b from ry);by_cases BR:a=b
    ·rw[BR];exact AE _
    ·refine yM BR (Bp I ha hb h1 h2 (by lia) λd hd x y u v kx ky qx qy=>?_);exact pb I n (cH (md hd) (by lia)) (by rw[iE];lia) kx ky qx qy
def rEqS (K:aB):R2:=λx y H Q=>∃a b d,x=.ref a/\y=.ref b/\Hold K H x d/\Hold K H y d/\d.dep<=60/\Q (.bl true) H
theorem Xp (hu:X.A.units+64 < jH):OpR X (jX .Eq) (rEqS X.K):=by
 intro f' s σ H x y v u Q I rx ry h;obtain⟨a,b,d,rfl,rfl,hx,hy,hd,q⟩:=h;cases rx;cases ry;have AK:EP X f' σ Q (.bool true) s:=⟨.bl true,H,I,rfl,q⟩;cases hx with
 |flat f=>cases f
 |@tup _ xs ds ha h1=>
  cases hy with
  |@tup _ ys _ hb h2=>
   rw[Da.dep]at hd;exact Ie I ha hb h1 h2 (by lia) (λd hm x y u v kx ky qx qy=>pb I 60 (cH (md hm) (by lia)) (by rw[iE];lia) kx ky qx qy) _ _ _ _ AK
 |@lst _ xs ds ha h1=>
  cases hy with
  |@lst _ ys _ hb h2=>
   rw[Da.dep]at hd;exact Bp I ha hb h1 h2 (by lia) (λd hm x y u v kx ky qx qy=>pb I 60 (cH (md hm) (by lia)) (by rw[iE];lia) kx ky qx qy) _ _ _ _ AK
end
section
variable {K:aB}{H H':Hp}
theorem SqT.same {a:Addr}{xs:List V}(h:SqT K H a xs)(e:Same H H'):SqT K H' a xs:=by
 rcases h with(h | ⟨o,h⟩) | h
 ·exact .inl (.inl (e _ _ h))
 ·exact .inl (.inr ⟨o,e _ _ h⟩)
 ·exact .inr h
mutual
theorem Hold.mono (e:Same H H'):∀{x:V}{d:Da},Hold K H x d->Hold K H' x d
 |_,_,.flat f=>.flat f
 |_,_,.tup h r=>.tup (h.same e) (Holds.mono e r)
 |_,_,.lst h r=>.lst (e.seq h) (Holds.mono e r)
theorem Holds.mono (e:Same H H'):∀{xs:List V}{ds:List Da},Holds K H xs ds->Holds K H' xs ds
 |_,_,.nil=>.nil
 |_,_,.cons h r=>.cons (Hold.mono e h) (Holds.mono e r)
end
theorem Holds.append:∀{xs ys:List V}{ds es:List Da},Holds K H xs ds->Holds K H ys es->Holds K H (xs++ys) (ds++es)
 | [],_,_,_,h,k=>by cases h;exact k
 |_::_,_,_,_,h,k=>by
  cases h with
  |cons a r=>exact .cons a (r.append k)
theorem Holds.one {x:V}{d:Da}(h:Hold K H x d):Holds K H [x] [d]:=.cons h .nil
theorem Hold.tupI {x:V}{ds:List Da}(h:Hold K H x (.tup ds)):∃a xs,x=.ref a/\SqT K H a xs/\Holds K H xs ds:=by
 cases h with
 |tup a r=>exact⟨_,_,rfl,a,r⟩
theorem Hold.lstI {x:V}{ds:List Da}(h:Hold K H x (.lst ds)):∃a xs,x=.ref a/\SqL K H a xs/\Holds K H xs ds:=by
 cases h with
 |lst a r=>exact⟨_,_,rfl,a,r⟩
theorem Hold.flatI {x v:V}(h:Hold K H x (.flat v)):x=v:=by
 cases h;rfl
theorem Holds.getm {α:Type}{f:α->Da}{vs:List V}{ls:List α}{i:Nat}{x:V}(h:Holds K H vs (ls.map f))(e:vs[i]?=some x):∃l,ls[i]?=some l/\Hold K H x (f l):=by
 obtain⟨d,e1,k⟩:=h.get e;rw[cQ]at e1;cases q:ls[i]? with
 |none=>rw[q]at e1;cases e1
 |some l=>
  rw[q]at e1;have e2:f l=d:=cZ e1;rw[<-e2]at k;exact⟨l,rfl,k⟩
theorem Holds.ints:∀{xs:List V}{ns:List Int},Holds K H xs (ns.map λv=>.flat (.int v))->xs=ns.map V.int
 | [],[],_=>rfl
 | [],_::_,h=>by cases h
 |_::_,[],h=>by cases h
 |_::_,_::_,h=>by
  cases h with
  |cons a r=>rw[a.flatI,r.ints];rfl
theorem oy:∀(ns:List Int),Holds K H (ns.map V.int) (ns.map λv=>.flat (.int v))
 | []=>.nil
 |_::r=>.cons (.flat rfl) (oy r)
end
section
variable {X:Cx}
end
mutual
def Da.fix:Da->Bool
 | .flat _=>true
 | .tup xs=>fixL xs
 | .lst _=>false
def fixL:List Da->Bool
 | []=>true
 |d::r=>d.fix && fixL r
end
theorem d8 {α:Type}{f:α->Da}(h:∀a,(f a).fix=true):∀l:List α,fixL (l.map f)=true
 | []=>by rw[yL,fixL]
 |a::r=>by rw[gU,fixL,h a,d8 h r];rfl
def Tups (H H':Hp):Prop:=(∀b xs,H b=some (.tup xs)->H' b=some (.tup xs))/\∀b o u,H b=some (.frz o u)->H' b=some (.frz o u)
theorem Tups.of {H H':Hp}(e:Same H H'):Tups H H':=⟨λ_ _ h=>e _ _ h,λ_ _ _ h=>e _ _ h⟩
theorem Tups.trans {H H1 H2:Hp}(a:Tups H H1)(b:Tups H1 H2):Tups H H2:=⟨λc xs h=>b.1 c xs (a.1 c xs h),λc o u h=>b.2 c o u (a.2 c o u h)⟩
theorem Tups.put {H:Hp}{u:Addr}{xs:List V}(h:H u=some (.lst xs))(o:HO):Tups H (upd H u o):=
 ⟨λb ys e=>by
   rw[ao (ou e h (by intro z;cases z))];exact e,λb ob v e=>by
   rw[ao (ou e h (by intro z;cases z))];exact e⟩
theorem Tups.but {H H':Hp}{u:Addr}{xs:List V}(h:H u=some (.lst xs))(k:∀b o,b≠u->H b=some o->H' b=some o):Tups H H':=
 ⟨λb ys e=>k b _ (ou e h (by intro z;cases z)) e,λb ob v e=>k b _ (ou e h (by intro z;cases z)) e⟩
section
variable {K:aB}{H H':Hp}
theorem SqT.tups {a:Addr}{xs:List V}(h:SqT K H a xs)(e:Tups H H'):SqT K H' a xs:=by
 rcases h with(h | ⟨o,h⟩) | h
 ·exact .inl (.inl (e.1 _ _ h))
 ·exact .inl (.inr ⟨o,e.2 _ _ _ h⟩)
 ·exact .inr h
mutual
theorem Hold.stay (e:Tups H H'):∀{x:V}{d:Da},d.fix=true->Hold K H x d->Hold K H' x d
 |_,_,_,.flat f=>.flat f
 |_,_,q,.tup h r=>.tup (h.tups e) (Holds.stay e (by rw[Da.fix]at q;exact q) r)
 |_,_,q,.lst h r=>by rw[Da.fix]at q;cases q
theorem Holds.stay (e:Tups H H'):∀{xs:List V}{ds:List Da},fixL ds=true->Holds K H xs ds->Holds K H' xs ds
 |_,_,_,.nil=>.nil
 |_,_,q,.cons h r=>by
  rw[fixL,iB]at q;exact .cons (Hold.stay e q.1 h) (Holds.stay e q.2 r)
end
end
open Sem (wp)
section
variable {prog:aU}{w:aZ}{A:cC}{E:aC->aG->Prop}{s:aG}
theorem Dj {it t:Addr}{k:Nat}{its:Array aC}{y:aC}{Q:aC->aG->Prop}(hi:s.heap.IsTupleIter it t k)(ht:s.heap.IsTuple t its)(hy:its[k]?=some y)
  (hQ:∀h',h'.IsTupleIter it t (k+1)->gI it s.heap h'->Q y { s with heap:=h' }):aL (aS prog w) A (fV (.ref it)) Q E s:=by
 obtain⟨ob,g1,g2,g3⟩:=id hi;obtain⟨ot,t1,_,nt,t3⟩:=ht;unfold fV;refine aA (eZ (name:=hX "__next__") hi.typeIs F.slot_tuple_iterator_next (gM F.slot_tuple_iterator_next hi.typeIs F.entry_tuple_iterator_next ?_ (F.args_tuple_iterator_next_1 _)));show aL _ _ (field (.ref it) 0 >>= _) _ _ s;refine aA (cY g1 g3 (x:=.ref t) rfl ?_);show aL _ _ (if (bZ t == iD)=true then _ else _) _ _ s
 rw[if_neg (show ¬((bZ t == iD)=true)from bX)];show aL _ _ (field (.ref it) 1 >>= _) _ _ s;refine aA (cY g1 g3 (x:=.int k 0) rfl ?_);show aL _ _ (seqItems? (.ref t) >>= _) _ _ s;refine aA (iC t1 t3 ?_);simp only[gL,hy];refine aA (mZ g1 g3 (by simp) (wpAny_pure ⟨y,rfl,wpAny_pure (hQ _ ?_ (jA ..))⟩));exact⟨_,iH _ g1 (nK (iO g3 _)),(rX ..).trans g2,by rw[iO g3];simp[iU]⟩
theorem vo {it t:Addr}{k:Nat}{its:Array aC}{Q:aC->aG->Prop}(hh:A.handled=none)(hi:s.heap.IsTupleIter it t k)(ht:s.heap.IsTuple t its)(hy:its[k]?=none)
  (hE:∀h' e,uM it s.heap h'->(∃o,h'.get? e=some o/\o.cls=.type "StopIteration")->E (.ref e) { s with heap:=h' }):aL (aS prog w) A (fV (.ref it)) Q E s:=by
 obtain⟨ob,g1,g2,g3⟩:=id hi;obtain⟨ot,t1,_,nt,t3⟩:=ht;unfold fV;refine aA (eZ (name:=hX "__next__") hi.typeIs F.slot_tuple_iterator_next (gM F.slot_tuple_iterator_next hi.typeIs F.entry_tuple_iterator_next ?_ (F.args_tuple_iterator_next_1 _)));show aL _ _ (field (.ref it) 0 >>= _) _ _ s;refine aA (cY g1 g3 (x:=.ref t) rfl ?_);show aL _ _ (if (bZ t == iD)=true then _ else _) _ _ s
 rw[if_neg (show ¬((bZ t == iD)=true)from bX)];show aL _ _ (field (.ref it) 1 >>= _) _ _ s;refine aA (cY g1 g3 (x:=.int k 0) rfl ?_);show aL _ _ (seqItems? (.ref t) >>= _) _ _ s;refine aA (iC t1 t3 ?_);simp only[gL,hy];refine aA (rL (aA (mZ g1 g3 (by simp) ?_)));show aL _ _ (newExc (.type "StopIteration") [] >>= _) _ _ _;refine aA ?_;simp only[newExc,zI];refine aA (gR ?_ (by size_fits));refine aA (m:=uK _ _) (zD (a:=iD) (by first | rfl | (simp only[uK];rfl)) ?_)
 refine gR ?_ (by size_fits);simp only[raiseNew];refine aA (wpAny_handled ?_)
 first | rw[show A.in1.handled=none from hh] | rw[hh]
 refine aA (wpAny_pure (wpAny_throw ?_));exact hE _ _ (((jA ..).extBut.push _).push _) ⟨_,aY _ rfl,rfl⟩
structure Bq (h:Heap)(z TI TO i1 i2 l1 l2:Addr)(k:Nat):Prop where
 zip:nA h z TI TO .none
 its:jM h TI (.ref i1) (.ref i2)
 out:∃a b,jM h TO a b
 one:h.IsTupleIter i1 l1 k
 two:h.IsTupleIter i2 l2 k
theorem Mx {z TI TO i1 i2 l1 l2:Addr}{k:Nat}{xs ys:Array aC}{x y:aC}{Q:aC->aG->Prop}(D:pS z TI TO i1 i2 l1 l2)(Z:Bq s.heap z TI TO i1 i2 l1 l2 k)
  (BS:s.heap.IsTuple l1 xs) (AR:s.heap.IsTuple l2 ys) (hx:xs[k]?=some x) (hy:ys[k]?=some y)
  (hQ:∀h',nA h' z TI TO (iU s.heap.objs.size)->jM h' TO x y->h'.IsTupleIter i1 l1 (k+1)->h'.IsTupleIter i2 l2 (k+1)->jM h' s.heap.objs.size x y->(∀c o,c≠z->c≠TO->c≠i1->c≠i2->s.heap.get? c=some o->h'.get? c=some o)->Q (.ref s.heap.objs.size) { s with heap:=h' }) :
  aL (aS prog w) A (iI.«zip.__next__» ⟨[.ref z],[]⟩) (λAK s'=>∃v,AK=.done (.ret v)/\Q v s') E s:=by
 obtain⟨hz,JN,⟨a,b,JO⟩,h1,h2⟩:=Z;show aL _ _ (field (.ref z) 2 >>= _) _ _ _;refine aA (cY hz rfl (x:=.bool false) rfl ?_);show aL _ _ (field (.ref z) 3 >>= _) _ _ _;refine aA (cY hz rfl (x:=.ref TI) rfl ?_);refine aA (iC JN rfl ?_);show aL _ _ (eC (.ref z) >>= _) _ _ _;refine aA ?_;unfold eC;refine aA (cY hz rfl (x:=.none) rfl (wpAny_pure ?_));simp only[if_true];refine aA (rL ?_);refine aA (cY hz rfl (x:=.ref TO) rfl ?_);refine aA (eJ hz (by simp) λha za sa=>?_)
 replace za:nA ha z TI TO .ellipsis:=za
 refine aA ?_;simp only[sS,tU,tV,uL];refine aA (aA (lK ?_));show aL _ _ (fV (.ref i1) >>= _) _ _ _;refine aA (Dj (h1.extBut sa.extBut D.i1z) (BS.extBut sa.extBut D.l1z) hx λhb MD sb=>wpAny_pure ?_);have ob:jM hb TO a b:=sb.extBut _ _ D.TOi1 (sa.extBut _ _ D.TOz JO);refine aA (iC ob rfl ?_);refine aA (lV ob λhc oc sc=>?_)
 replace oc:jM hc TO x b:=oc
 refine aA (pG (wpAny_pure ?_));refine aA (aA (lK ?_));show aL _ _ (fV (.ref i2) >>= _) _ _ _;refine aA (Dj (((h2.extBut sa.extBut D.i2z).extBut sb.extBut D.i12.symm).extBut sc.extBut D.TOi2.symm) (((AR.extBut sa.extBut D.l2z).extBut sb.extBut D.l2i1).extBut sc.extBut D.l2TO) hy λhd QU sd=>wpAny_pure ?_);have od:jM hd TO x b:=sd.extBut _ _ D.TOi2 oc;refine aA (iC od rfl ?_);refine aA (lV od λhe oe se=>?_)
 replace oe:jM he TO x y:=oe
 refine aA (pG (wpAny_pure (wpAny_pure ?_)));refine aA (iC oe rfl ?_);refine aA (rM ?_);have zz:he.objs.size=s.heap.objs.size:=(by rw[se.1,sd.1,sc.1,sb.1,sa.1]);have ze:nA he z TI TO .ellipsis:=se.extBut _ _ D.TOz.symm (sd.extBut _ _ D.i2z.symm (sc.extBut _ _ D.TOz.symm (sb.extBut _ _ D.i1z.symm za)));have ke:∀c o,c≠z->c≠TO->c≠i1->c≠i2->s.heap.get? c=some o->he.get? c=some o:=λc o c1 c2 c3 c4 q=>
  se.extBut _ _ c2 (sd.extBut _ _ c4 (sc.extBut _ _ c2 (sb.extBut _ _ c3 (sa.extBut _ _ c1 q))))
 have e1:he.IsTupleIter i1 l1 (k+1):=((MD.extBut sc.extBut D.TOi1.symm).extBut sd.extBut D.i12).extBut se.extBut D.TOi1.symm;have e2:he.IsTupleIter i2 l2 (k+1):=QU.extBut se.extBut D.TOi2.symm;have ME:z < he.objs.size:=aW ze;show aL _ _ (gC (.ref z) (.ref he.objs.size) >>= _) _ _ _;refine aA ?_;unfold gC;have zf:nA (he.push { cls:=.type "tuple",data:=.seq #[x,y] }) z TI TO .ellipsis:=aI _ ze;refine aA (eJ zf (by simp) λhg zg sg=>?_)
 replace zg:nA hg z TI TO (iU he.objs.size):=zg
 refine eJ zg (by simp) λhk zk sk=>?_
 replace zk:nA hk z TI TO (iU he.objs.size):=zk
 have up:∀c o,c≠z->he.get? c=some o->hk.get? c=some o:=λc o c1 q=>sk.extBut _ _ c1 (sg.extBut _ _ c1 (aI _ q));have tk:jM hk he.objs.size x y:=sk.extBut _ _ (gJ ME) (sg.extBut _ _ (gJ ME) (aY _ rfl));rw[zz]at zk tk;refine wpAny_pure ⟨_,rfl,?_⟩;show Q (.ref he.objs.size) _;rw[zz];obtain⟨w1,v1,r1⟩:=e1;obtain⟨w2,v2,r2⟩:=e2;exact hQ hk zk (up _ _ D.TOz oe) ⟨w1,up _ _ D.i1z v1,r1⟩ ⟨w2,up _ _ D.i2z v2,r2⟩ tk λc o c1 c2 c3 c4 q=>up c o c1 (ke c o c1 c2 c3 c4 q)
theorem My {z TI TO i1 i2 l1 l2:Addr}{k:Nat}{xs ys:Array aC}{x y:aC}{Q:Option aC->aG->Prop}(D:pS z TI TO i1 i2 l1 l2)(Z:Bq s.heap z TI TO i1 i2 l1 l2 k)
  (BS:s.heap.IsTuple l1 xs) (AR:s.heap.IsTuple l2 ys) (hx:xs[k]?=some x) (hy:ys[k]?=some y)
  (hQ:∀h',nA h' z TI TO (iU s.heap.objs.size)->jM h' TO x y->h'.IsTupleIter i1 l1 (k+1)->h'.IsTupleIter i2 l2 (k+1)->jM h' s.heap.objs.size x y->(∀c o,c≠z->c≠TO->c≠i1->c≠i2->s.heap.get? c=some o->h'.get? c=some o)->Q (some (.ref s.heap.objs.size)) { s with heap:=h' }):aL (aS prog w) A (jL (.ref z)) Q E s:=by
 have hT:s.TypeIs (.ref z) "zip":=⟨_,Z.zip,rfl⟩;unfold jL;exact aA (lM (eZ (name:=hX "__next__") hT F.slot_zip_next (gM F.slot_zip_next hT F.entry_zip_next (Mx D Z BS AR hx hy λh' a1 a2 a3 a4 a5 a6=>wpAny_pure (hQ h' a1 a2 a3 a4 a5 a6)) (F.args_zip_next_1 _))))
theorem Mz {z TI TO i1 i2 l1 l2:Addr}{k:Nat}{xs ys:Array aC}{Q:Fin->aG->Prop}(hh:A.handled=none)(D:pS z TI TO i1 i2 l1 l2)(Z:Bq s.heap z TI TO i1 i2 l1 l2 k)
  (BS:s.heap.IsTuple l1 xs) (AR:s.heap.IsTuple l2 ys) (BN:xs[k]?=none\/ys[k]?=none)
  (hE:∀h' e,(∀c o,c≠z->c≠TO->c≠i1->c≠i2->s.heap.get? c=some o->h'.get? c=some o)->(∃o,h'.get? e=some o/\o.cls=.type "StopIteration")->E (.ref e) { s with heap:=h' }) :
  aL (aS prog w) A (iI.«zip.__next__» ⟨[.ref z],[]⟩) Q E s:=by
 obtain⟨hz,JN,⟨a,b,JO⟩,h1,h2⟩:=Z;show aL _ _ (field (.ref z) 2 >>= _) _ _ _;refine aA (cY hz rfl (x:=.bool false) rfl ?_);show aL _ _ (field (.ref z) 3 >>= _) _ _ _;refine aA (cY hz rfl (x:=.ref TI) rfl ?_);refine aA (iC JN rfl ?_);show aL _ _ (eC (.ref z) >>= _) _ _ _;refine aA ?_;unfold eC;refine aA (cY hz rfl (x:=.none) rfl (wpAny_pure ?_));simp only[if_true];refine aA (rL ?_);refine aA (cY hz rfl (x:=.ref TO) rfl ?_);refine aA (eJ hz (by simp) λha za sa=>?_)
 replace za:nA ha z TI TO .ellipsis:=za
 refine aA ?_;simp only[sS,tU,tV,uL];refine aA (aA (lK ?_));show aL _ _ (fV (.ref i1) >>= _) _ _ _;cases hx:xs[k]? with
 |none=>
  refine aA (vo hh (h1.extBut sa.extBut D.i1z) (BS.extBut sa.extBut D.l1z) hx λhb e sb he=>?_);obtain⟨oe,DS,FF⟩:=he;have zb:nA hb z TI TO .ellipsis:=sb _ _ D.i1z.symm za;have JP:e≠z:=λq=>(by subst q;rw[zb]at DS;cases DS;simp at FF);refine eJ zb (by simp) λhc _ sc=>hE hc e (λc o c1 _ c3 _ q=>sc.extBut _ _ c1 (sb _ _ c3 (sa.extBut _ _ c1 q))) ⟨oe,sc.extBut _ _ JP DS,FF⟩
 |some x=>
  have hy:ys[k]?=none:=by
   rcases BN with q | q
   ·rw[hx]at q;cases q
   ·exact q
  refine aA (Dj (h1.extBut sa.extBut D.i1z) (BS.extBut sa.extBut D.l1z) hx λhb MD sb=>wpAny_pure ?_);have ob:jM hb TO a b:=sb.extBut _ _ D.TOi1 (sa.extBut _ _ D.TOz JO);refine aA (iC ob rfl ?_);refine aA (lV ob λhc oc sc=>?_);refine aA (pG (wpAny_pure ?_));refine aA (aA (lK ?_));show aL _ _ (fV (.ref i2) >>= _) _ _ _;refine aA (vo hh (((h2.extBut sa.extBut D.i2z).extBut sb.extBut D.i12.symm).extBut sc.extBut D.TOi2.symm) (((AR.extBut sa.extBut D.l2z).extBut sb.extBut D.l2i1).extBut sc.extBut D.l2TO) hy λhd e sd he=>?_);obtain⟨oe,DS,FF⟩:=he;have zd:nA hd z TI TO .ellipsis:=sd _ _ D.i2z.symm (sc.extBut _ _ D.TOz.symm (sb.extBut _ _ D.i1z.symm za));have JP:e≠z:=λq=>(by subst q;rw[zd]at DS;cases DS;simp at FF);refine eJ zd (by simp) λhf _ sf=>hE hf e (λc o c1 c2 c3 c4 q=>sf.extBut _ _ c1 (sd _ _ c4 (sc.extBut _ _ c2 (sb.extBut _ _ c3 (sa.extBut _ _ c1 q))))) ⟨oe,sf.extBut _ _ JP DS,FF⟩
theorem P7 {z TI TO i1 i2 l1 l2:Addr}{k:Nat}{xs ys:Array aC}{Q:Option aC->aG->Prop}(hh:A.handled=none)(D:pS z TI TO i1 i2 l1 l2)(Z:Bq s.heap z TI TO i1 i2 l1 l2 k)
  (BS:s.heap.IsTuple l1 xs) (AR:s.heap.IsTuple l2 ys) (BN:xs[k]?=none\/ys[k]?=none)
  (hQ:∀h',(∀c o,c≠z->c≠TO->c≠i1->c≠i2->s.heap.get? c=some o->h'.get? c=some o)->Q none { s with heap:=h' }):aL (aS prog w) A (jL (.ref z)) Q E s:=by
 have hT:s.TypeIs (.ref z) "zip":=⟨_,Z.zip,rfl⟩;unfold jL;refine aA (lM (eZ (name:=hX "__next__") hT F.slot_zip_next (gM F.slot_zip_next hT F.entry_zip_next (Mz hh D Z BS AR BN λh' e kk he=>?_) (F.args_zip_next_1 _))));obtain⟨o,ho,hc⟩:=he;refine aA (oE (T:="StopIteration") (b:=true) ⟨o,ho,hc⟩ rN ?_);exact wpAny_pure (hQ _ kk)
end
abbrev zT1 (h:Heap)(a:Addr):Heap:=h.push { cls:=.type "tuple_iterator",data:=.fields #[.ref a,.int 0 0] }
abbrev zT2 (h:Heap)(a b:Addr):Heap:=(zT1 h a).push { cls:=.type "tuple_iterator",data:=.fields #[.ref b,.int 0 0] }
abbrev zT3 (h:Heap)(a b:Addr):Heap:=(zT2 h a b).push { cls:=.type "tuple",data:=.seq #[.ref h.objs.size,.ref (zT1 h a).objs.size] }
abbrev zT4 (h:Heap)(a b:Addr):Heap:=(zT3 h a b).push { cls:=.type "tuple",data:=.seq #[.none,.none] }
abbrev zT5 (h:Heap)(a b:Addr):Heap:=(zT4 h a b).push { cls:=.type "zip",data:=.fields #[.none,.bool false,.bool false,.ref (zT2 h a b).objs.size,.ref (zT3 h a b).objs.size] }
theorem Kg (a b:Addr)(xs ys:Array aC) :
  Meets (iI.«zip.__new__» ⟨[.type "zip",.ref a,.ref b],[]⟩) (λ_ R s=>s.heap.IsTuple a xs/\s.heap.IsTuple b ys/\R (.ok (.ret (.ref (zT4 s.heap a b).objs.size))) { s with heap:=zT5 s.heap a b }):=
 .of_wp λprog w A R s h=>by
  obtain⟨hp,gs,dr,tk,os⟩:=s;obtain⟨h1,h2,h⟩:=h;have DE:=sub_zip;have k1:yN (sM ⟨hp,gs,dr,tk,os⟩) a xs:=h1;have k2:yN (sM ⟨hp.push { cls:=.type "tuple_iterator",data:=.fields #[.ref a,.int 0 0] },gs,dr,tk,os⟩) b ys:=Heap.IsTuple.push h2 _
  wp_walk using lO k1,lO k2
  exact⟨_,rfl,h⟩
section
variable {prog:aU}{w:aZ}{A:cC}{E:aC->aG->Prop}{s:aG}
theorem M0 {a b:Addr}{xs ys:Array aC}{Q:aC->aG->Prop}(h1:s.heap.IsTuple a xs)(h2:s.heap.IsTuple b ys)
  (h:∀h',Bq h' (s.heap.objs.size+4) (s.heap.objs.size+2) (s.heap.objs.size+3) s.heap.objs.size (s.heap.objs.size+1) a b 0->(∀c o,s.heap.get? c=some o->h'.get? c=some o)->h'.objs.size=s.heap.objs.size+5->Q (.ref (s.heap.objs.size+4)) { s with heap:=h' }):aL (aS prog w) A (call (.type "zip") [.ref a,.ref b]) Q E s:=by
 refine vZ F.called_zip (by decide) (F.typeCall_zip_2 _ _) (F.newCall_zip_2 _ _) (λobj=>F.args_object_init_3 obj _ _) F.entry_zip_new (Kg a b xs ys) ⟨h1,h2,?_⟩;have z1:(zT1 s.heap a).objs.size=s.heap.objs.size+1:=eY ..;have z2:(zT2 s.heap a b).objs.size=s.heap.objs.size+2:=(by rw[eY,z1]);have z3:(zT3 s.heap a b).objs.size=s.heap.objs.size+3:=(by rw[eY,z2]);have z4:(zT4 s.heap a b).objs.size=s.heap.objs.size+4:=(by rw[eY,z3]);have z5:(zT5 s.heap a b).objs.size=s.heap.objs.size+5:=(by rw[eY,z4]);have g5:(zT5 s.heap a b).get? (zT4 s.heap a b).objs.size=some _:=aY _ rfl;have g4:(zT5 s.heap a b).get? (zT3 s.heap a b).objs.size=some _:=aI _ (aY _ rfl);have g3:(zT5 s.heap a b).get? (zT2 s.heap a b).objs.size=some _:=aI _ (aI _ (aY _ rfl));have g2:(zT5 s.heap a b).get? (zT1 s.heap a).objs.size=some _:=aI _ (aI _ (aI _ (aY _ rfl)));have g1:(zT5 s.heap a b).get? s.heap.objs.size=some _:=aI _ (aI _ (aI _ (aI _ (aY _ rfl))));show _/\_;rw[z2,z3,z4]at g5;rw[z1,z2]at g3;rw[z3]at g4;rw[z1]at g2;rw[z4];exact⟨⟨_,g5,rfl⟩,h _ ⟨g5,g3,⟨_,_,g4⟩,⟨_,g1,rfl,rfl⟩,⟨_,g2,rfl,rfl⟩⟩ (λc o q=>aI _ (aI _ (aI _ (aI _ (aI _ q))))) z5⟩
end
def Itz (K:aB)(a b:Addr):It:=
 ⟨λi H=>∃xs ys x y,SqT K H a xs/\SqT K H b ys/\xs[i]?=some x/\ys[i]?=some y,λi H v H'=>∃p x y,H p=none/\v=.ref p/\(∀xs,SqT K H a xs->xs[i]?=some x)/\(∀ys,SqT K H b ys->ys[i]?=some y)/\H'=upd H p (.tup [x,y]),λi H=>∃xs ys,SqT K H a xs/\SqT K H b ys/\(xs.length<=i\/ys.length<=i)⟩
theorem P8 {P:aU}{w:aZ}{K:aB}{es:List Expr}{j:Nat}{pos:Pos}{z TI TO i1 i2 a b:Addr}(D:pS z TI TO i1 i2 a b) :
  qr P w K (.Tuple es j pos) (Itz K a b) [z,TI,TO,i1,i2] z (λk h=>Bq h z TI TO i1 i2 a b k) where
 mem:=by simp
 obj:=λk h Z c hc=>by
  obtain⟨u1,u2,⟨_,_,u3⟩,⟨o4,u4,_,v4⟩,⟨o5,u5,_,v5⟩⟩:=Z;simp only[aX,dQ,or_false]at hc;rcases hc with q | q | q | q | q
  ·subst q;exact⟨_,u1,λv e=>by cases(show sD _=oS v from e)⟩
  ·subst q;exact⟨_,u2,λv e=>by cases(show xO _ _=oS v from e)⟩
  ·subst q;exact⟨_,u3,λv e=>by cases(show xO _ _=oS v from e)⟩
  ·subst q;exact⟨_,u4,λv e=>by rw[v4]at e;cases e⟩
  ·subst q;exact⟨_,u5,λv e=>by rw[v5]at e;cases e⟩
 keep:=λk h h' Z kk=>by
  obtain⟨u1,u2,⟨c1,c2,u3⟩,⟨o4,u4,r4⟩,⟨o5,u5,r5⟩⟩:=Z;exact⟨kk z (by simp) _ u1,kk TI (by simp) _ u2,⟨c1,c2,kk TO (by simp) _ u3⟩,⟨o4,kk i1 (by simp) _ u4,r4⟩,⟨o5,kk i2 (by simp) _ u5,r5⟩⟩
 item:=by
  intro X hP hw hK hc k f' s σ H E I hf Z hg;subst hP hw hK;obtain⟨xs,ys,x,y,hx,hy,ex,ey⟩:=hg;obtain⟨its,r1,p1,_⟩:=I.tuple hx;obtain⟨AH,r2,p2,_⟩:=I.tuple hy;obtain⟨u,eu,ru⟩:=r1.get ex;obtain⟨v,ev,rv⟩:=r2.get ey;refine My D Z (show s.heap.IsTuple a its.toArray from p1) (show s.heap.IsTuple b AH.toArray from p2) (x:=u) (y:=v) (by simpa using eu) (by simpa using ev) λh1 b1 b2 b3 b4 b5 kk=>?_;refine⟨_,rfl,wpAny_letOwnedTupleGo_zip b1 λh2 c1 sb=>?_⟩;have ks:∀c o,c ∉ [z,TI,TO,i1,i2]->s.heap.get? c=some o->h2.get? c=some o:=λc o hc q=>by
   simp only[aX,dQ,or_false,not_or]at hc;exact sb.extBut _ _ hc.1 (kk c o hc.1 hc.2.2.1 hc.2.2.2.1 hc.2.2.2.2 q)
  have nz:s.heap.objs.size≠z:=gJ (aW Z.zip);have b6:jM h2 s.heap.objs.size u v:=sb.extBut _ _ nz b5;have I2:Inv X f' σ H { s with heap:=h2 }:=I.turnedAll (t':=s.toks) hf ks;have fT:ij X f' H s.heap.objs.size:=I.fpOk (aN _) (I.hok.fresh (aN _));have I3:Inv X f' σ (upd H s.heap.objs.size (.tup [x,y])) { s with heap:=h2 }:=I2.track fT I.sz
   ⟨by show 2<=sizeLine;decide,[u,v],.cons ru (.cons rv .nil),⟨_,b6,rfl,_,rfl⟩⟩
  refine⟨.ref s.heap.objs.size,_,I3,rfl,⟨_,x,y,fT.1,rfl,λus hu=>by rw[I.tuple_inj hu hx];exact ex,λus hu=>by rw[I.tuple_inj hu hy];exact ey,rfl⟩,?_,λc hc=>?_⟩
  ·obtain⟨w3,v3,q3⟩:=b3;obtain⟨w4,v4,q4⟩:=b4;exact⟨c1,sb.extBut _ _ D.TIz (kk _ _ D.TIz D.TITO D.TIi1 D.TIi2 Z.its),⟨_,_,sb.extBut _ _ D.TOz b2⟩,⟨w3,sb.extBut _ _ D.i1z v3,q3⟩,⟨w4,sb.extBut _ _ D.i2z v4,q4⟩⟩
  ·obtain⟨o,q,_⟩:∃o,s.heap.get? c=some o/\True:=by
    obtain⟨u1,u2,⟨_,_,u3⟩,⟨o4,u4,_⟩,⟨o5,u5,_⟩⟩:=Z;simp only[aX,dQ,or_false]at hc;rcases hc with q | q | q | q | q
    ·subst q;exact⟨_,u1,trivial⟩
    ·subst q;exact⟨_,u2,trivial⟩
    ·subst q;exact⟨_,u3,trivial⟩
    ·subst q;exact⟨_,u4,trivial⟩
    ·subst q;exact⟨_,u5,trivial⟩
   rw[ao (cE (aW q))];exact(hf c hc).1
 done:=by
  intro X hP hw hK hc k f' s σ H E I hf Z hg;subst hP hw hK;obtain⟨xs,ys,hx,hy,BN⟩:=hg;obtain⟨its,r1,p1,_⟩:=I.tuple hx;obtain⟨AH,r2,p2,_⟩:=I.tuple hy;have l1:=r1.length;have l2:=r2.length;have en:its.toArray[k]?=none\/AH.toArray[k]?=none:=by
   rcases BN with q | q
   ·exact .inl (by simp;lia)
   ·exact .inr (by simp;lia)
  refine P7 (I.ok.hd hc) D Z (show s.heap.IsTuple a its.toArray from p1) (show s.heap.IsTuple b AH.toArray from p2) en λh1 kk=>⟨rfl,I.turnedAll (t':=s.toks) hf λc o hc q=>?_⟩;simp only[aX,dQ,or_false,not_or]at hc;exact kk c o hc.1 hc.2.2.1 hc.2.2.2.1 hc.2.2.2.2 q
 self:=λ_ _ _ _ _ Z h=>sU Z.zip h
section
variable {X:Cx}
def iZip (K:aB)(ta:TA):TI:=λσ H R=>ta σ H λvs H1=>∃a b xs ys,vs=[.ref a,.ref b]/\SqT K H1 a xs/\SqT K H1 b ys/\R (Itz K a b) H1
theorem M4 {e1 e2:Expr}{ta:TA}{p pos CN:Pos}{es:List Expr}{j:Nat}(hg:Gl X "zip")(hm:X.mg "zip"=none)(ha:PA X [e1,e2] ta)(hs:cJ [e1,e2] X.env=[(false,eval e1 X.env),(false,eval e2 X.env)]:=by rfl)
  (BL:cJ [e2] X.env=[(false,eval e2 X.env)]:=by rfl):PI X (.Tuple es j CN) (.Call (.Name "zip" p) [e1,e2] [] pos) (iZip X.K ta):=by
 intro f' s σ H R I h;refine Call_ (iw I hg hm (by kernel_rfl:jK (hX "zip")=some (.type "zip")) (gW (thn (ha pos f' s σ H _ I h) λus s1 ⟨vs,H1,I1,r1,q1⟩=>?_) (by rw[hs,BL]) (by rw[BL];rfl)));obtain⟨a,b,xs,ys,e,hx,hy,q⟩:=q1;subst e;obtain⟨u,v,rfl,ru,rv⟩:=ua r1;cases(show u=bZ a from ru);cases(show v=bZ b from rv);obtain⟨its,k1,p1,_⟩:=I1.tuple hx;obtain⟨AH,k2,p2,_⟩:=I1.tuple hy;have a1:a < s1.heap.objs.size:=(by obtain⟨_,e,_⟩:=p1;exact aW e);have a2:b < s1.heap.objs.size:=(by obtain⟨_,e,_⟩:=p2;exact aW e);refine M0 (show s1.heap.IsTuple a its.toArray from p1) (show s1.heap.IsTuple b AH.toArray from p2) λh2 Z kk sz=>?_;have I2:Inv X f' σ H1 { s1 with heap:=h2 }:=I1.kept (t':=s1.toks) kk;refine sU Z.zip ⟨_,_,_,_,H1,rfl,I2,P8 (zipApart_new a1 a2),Z,λc hc=>?_,q⟩;refine I1.fpOk ?_ (I1.hok.fresh ?_)
 all_goals
  simp only[aX,dQ,or_false]at hc;rcases hc with q | q | q | q | q<;>subst q<;>lia
end
open Sem (wp)
section
variable {prog:aU}{w:aZ}{A:cC}{E:aC->aG->Prop}
theorem Sz {it l:Addr}{its:Array aC}(ne:l≠it):∀(n k:Nat)(s:aG) (Q:List aC->aG->Prop),s.heap.IsListIter it l k->s.heap.IsList l its->k+n<=its.size->
  (∀h',h'.IsListIter it l (k+n)->gI it s.heap h'->Q ((its.toList.drop k).take n) { s with heap:=h' })->aL (aS prog w) A (draw (.ref it) n) Q E s
 |0,k,s,Q,hi,_,_,q=>by
  show aL _ _ (pure []) Q E s;exact wpAny_pure (by simpa using q s.heap hi (vG ..))
 |n+1,k,s,Q,hi,hl,le,q=>by
  have lt:k < its.size:=(by lia);show aL _ _ (jL (.ref it) >>= _) Q E s;refine aA (wpAny_pyNext_list_item hi hl (x:=its[k]) (by simp[lt]) λh1 i1 s1=>?_);refine aA (hZ (Sz ne n (k+1) _ _ i1 (hl.extBut s1.extBut ne) (by lia) λh2 i2 s2=>wpAny_pure ?_));have e:its.toList.drop k=its[k]::its.toList.drop (k+1):=(by simp[iY,lt]);have z:=q h2 (by rw[show k+(n+1)=k+1+n by lia];exact i2) (s1.trans s2);rw[e,List.take_succ_cons]at z;exact z
theorem Uy {s:aG}{l:Addr}{its:Array aC}{Q:List aC->aG->Prop}(hh:A.handled=none)(hl:s.heap.IsList l its)
  (q:∀h',uM s.heap.objs.size s.heap h'->Q its.toList { s with heap:=h' }):aL (aS prog w) A (unpackItems (.ref l) its.size none) Q E s:=by
 have ne:l≠s.heap.objs.size:=(by obtain⟨o,ho,_⟩:=hl;exact cE (aW ho));unfold unpackItems;refine aA ?_
 ·unfold notIterableAtAll;refine aA (tW hl.typeIs slot_list_iter.lookup ?_);refine wpAny_pure ?_;simp only[eV,if_false];refine aA (hZ (iR hl ?_));refine aA (hZ (Sz ne its.size 0 _ _ ⟨_,aY _ rfl,rfl,rfl⟩ (pT hl _) (by lia) λh1 i1 s1=>?_));have e:List.take its.size (List.drop 0 its.toList)=its.toList:=by
   rw[rO];exact lH (by simp)
  rw[e];rw[if_neg (by simp)];have BS:h1.IsList l its:=(pT hl _).extBut s1.extBut ne;refine aA (hZ (wpAny_pyNext_list_end hh i1 BS (by simp) λh2 e2=>?_));simp only[Option.isSome_none,eV,if_false];refine wpAny_pure (q h2 λb o hb z=>e2 b o hb (s1.extBut b o hb (aI _ z)))
end
section
variable {X:Cx}{pos:Pos}
def gLst (K:aB)(n:Nat)(t:TGs):TG:=λv σ H Q=>∃a xs,v=.ref a/\SqL K H a xs/\xs.length=n/\t xs σ H Q
theorem M5 {es:List Expr}{k:Nat}{t:TGs}{n:Nat}(hc:X.calm=true)(h:PGs X es t)
  (hn:(pP es X.env).length=n:=by rfl) (CZ:(pP es X.env).findIdx? (·.1)=none:=by rfl):PG X (.Tuple es k pos) (gLst X.K n t):=by
 intro f' s σ H v u Q I r hw;obtain⟨a,xs,rfl,hq,hl,hw⟩:=hw;cases r;obtain⟨its,rv,ht,hz⟩:=I.list hq;have hsz:its.toArray.size=n:=(by rw[aO,<-rv.length,hl]);rw[arm_assign_Tuple];refine aA (nN ?_);unfold unpack;rw[hn,CZ,<-hsz];refine aA (hZ (Uy (I.ok.hd hc) ht.isList λh' hx=>?_));have I1:Inv X f' σ H { s with heap:=h' }:=I.kept (t':=s.toks) λb o e=>hx b o (cE (aW e)) e;exact h f' _ σ H xs _ Q I1 (by simpa using rv) hw
theorem Cr {val:Nat->Int}{n:Nat}(h:∀j,j < n->-1000000<=val j/\val j<=1000000):∀j,j<=n->-(1000000 * (j:Int))<=wA val j/\wA val j<=1000000 * (j:Int)
 |0,_=>⟨by show _<=(0:Int);lia,by show(0:Int)<=_;lia⟩
 |j+1,hj=>by
  have z:=Cr h j (by lia);have y:=h j (by lia);show _<=wA val j+val j/\wA val j+val j<=_;lia
def Zl (K:aB):List V->Hp->VK->Prop:=λxs H Q=>∃(a:Addr)(bs:List Bool),xs=[.ref a]/\SqL K H a (bs.map V.bl)/\Q (.bl (bs.all id)) H
theorem M6 (hc:X.calm=true):jw X (.builtin "all") (Zl X.K):=by
 intro f' s σ H xs us Q I r h;obtain⟨a,bs,rfl,hq,q⟩:=h;obtain⟨u,rfl,ru⟩:=j9 r;cases ru;obtain⟨its,rv,pl,hz⟩:=I.list hq;have hl:=pl.isList;have lt:a < s.heap.objs.size:=(by obtain⟨o,ho,_⟩:=hl;exact aW ho);have I1:Inv X f' σ H { s with heap:=s.heap.push { cls:=.type "list_iterator",data:=.fields #[.ref a,.int 0 0] } }:=I.kept (t':=s.toks) λb o e=>aI _ e;have fI:ij X f' H s.heap.objs.size:=I.fpOk (aN _) (I.hok.fresh (aN _));have len:its.length=bs.length:=(by rw[<-rv.length,aJ]);have tr:TruthOf X.prog X.w X.A.in1 (λi v=>its.toArray[i]?=some v) (λi=>bs.getD i true):=λi v s' Q' E' e hQ=>by
  have e':its[i]?=some v:=(by simpa using e);have hi:i < bs.length:=(by rw[<-len];exact(aM.mp e').1);obtain⟨u,f1,ru⟩:=rv.get (i:=i) (x:=.bl bs[i]) (by rw[cQ,aK hi];rfl);rw[e']at f1;cases f1;cases(show v=xJ bs[i]from ru);refine nR ?_;have z:bs.getD i true=bs[i]:=(by rw[gG,aK hi];rfl);have UJ:Q' (bs.getD i true) s':=hQ;rw[z]at UJ;exact UJ
 refine call_all_walk (iR hl ⟨s.heap.objs.size,[s.heap.objs.size,a],[s.heap.objs.size],its.toArray.size,_,_,λi=>bs.getD i true,rfl,zU (show X.A.in1.handled=none from I.ok.hd hc) s.heap.objs.size a (cE lt) its.toArray,⟨⟨_,aY _ rfl,rfl,rfl⟩,pT hl _⟩,tr,λh' tk kk=>?_⟩);have ea:(dG its.toArray.size).all (λi=>bs.getD i true)=bs.all id:=by
  rw[aO,len,qL,List.all_eq_true,List.all_eq_true];constructor
  ·intro z b hb;obtain⟨i,hi,rfl⟩:=List.mem_iff_getElem.mp hb;have y:=z i (iW.mpr hi);rw[gG,aK hi]at y;exact y
  ·intro z i hi;have ED:=iW.mp hi;rw[gG,aK ED];exact z _ (pU ED)
 rw[ea];refine⟨.bl _,H,I1.turnedAll (t':=tk) (ch:=[s.heap.objs.size]) (λb hb=>?_) (λb o hb e=>kk b o hb e),rfl,q⟩;cases eG.mp hb;exact⟨fI.1,fI.2.1,fI.2.2.1,fI.2.2.2.1,fI.2.2.2.2.1,fI.2.2.2.2.2⟩
end
end L2
namespace HT
open PySem PyProof.Rows
section
variable {prog:aU}{w:aZ}{A:cC}{E:aC->aG->Prop}{s:aG}
theorem yp {sl:Addr}{t:Tok}{n:Nat}{Q:Int×Int×Nat->aG->Prop}(hs:s.heap.IsSliceOf sl .none .none (.int (-1) t))
  (h:Q ((n:Int) - 1,-1,n) s):aL (aS prog w) A (nQ (.ref sl) (pure (n:Int))) Q E s:=by
 obtain⟨os,g1,g2,g3⟩:=id hs;unfold nQ Builtin.Slice.sliceFields;refine aA (aA (cY g1 g3 (x:=.none) rfl (aA (cY g1 g3 (x:=.none) rfl (aA (cY g1 g3 (x:=.int (-1) t) rfl (wpAny_pure ?_)))))));refine aA (slicePart_int ?_);show aL _ _ (if ((-1:Int) == 0)=true then _ else _) _ _ s
 rw[if_neg (by decide)];refine aA (uJ (aA (uJ (aA (wpAny_pure ?_)))));show aL _ _ (match jV none none (-1) (n:Int)with | (lo,hi)=>pure (lo,(-1:Int),iM lo hi (-1))) _ _ s
 have e:jV none none (-1) (n:Int)=((n:Int) - 1,-1):=by
  unfold jV;have h1:(-1:Int) < 0:=(by lia);simp only[h1,if_true]
 rw[e];show aL _ _ (pure ((n:Int) - 1,(-1:Int),iM ((n:Int) - 1) (-1) (-1))) _ _ s;have e2:iM ((n:Int) - 1) (-1) (-1)=n:=by
  unfold iM;have h1:¬((-1:Int) > 0):=(by lia);simp only[h1,if_false,Int.neg_neg,yJ]
  split<;>lia
 rw[e2];exact wpAny_pure h
theorem P9 (xs:List aC):((dG xs.length).filterMap λ(m:Nat)=>xs.toArray[(((xs.length:Nat):Int) - 1+(m:Int) * (-1)).toNat]?)=xs.reverse:=by
 have e:∀(l:List Nat),(∀m∈l,m < xs.length)->(l.filterMap λ(m:Nat)=>xs.toArray[(((xs.length:Nat):Int) - 1+(m:Int) * (-1)).toNat]?)=l.filterMap λm=>xs.reverse[m]?:=by
  intro l
  induction l with
  |nil=>intro _;rfl
  |cons m r ih=>
   intro hm;have h1:m < xs.length:=hm m eF;have q:(((xs.length:Nat):Int) - 1+(m:Int) * (-1)).toNat=xs.length - 1 - m:=(by lia);rw[iQ,iQ,ih λk hk=>hm k (cX _ hk),q];have z:xs.toArray[xs.length - 1 - m]?=xs.reverse[m]?:=by
    rw[sX h1];simp
   rw[z]
 rw[e _ λm hm=>iW.mp hm];have f:∀(ys:List aC)(k:Nat),k<=ys.length->(dG k).filterMap (λm=>ys[m]?)=ys.take k:=by
  intro ys k
  induction k with
  |zero=>intro _;rfl
  |succ k ih=>
   intro hk;rw[lW,sY,ih (by lia),eX,aK (by lia:k < ys.length)];simp[aK (by lia:k < ys.length)]
 have g:=f xs.reverse xs.length (by rw[iJ];exact aN _);rw[g,lH (by rw[iJ];exact aN _)]
theorem getItem_tuple_rev {p sl:Addr}{its:List aC}{t:Tok}{Q:aC->aG->Prop}(ht:zJ s.heap p its.toArray)(hs:s.heap.IsSliceOf sl .none .none (.int (-1) t))
  (h:Q (.ref s.heap.objs.size) { s with heap:=s.heap.push { cls:=.type "tuple",data:=.seq its.reverse.toArray } }) (hz:its.length<=sizeLine):aL (aS prog w) A (rH (.ref p) (.ref sl)) Q E s:=by
 have ok:sizeOk (.seq its.reverse.toArray):=by
  show its.reverse.toArray.size<=sizeLine;rw[aO,iJ];exact hz
 obtain⟨os,g1,g2,g3⟩:=id hs;have hT:s.TypeIs (.ref sl) "slice":=⟨os,g1,g2⟩;unfold rH
 try with_reducible refine hZ ?_
 first | refine aA (wpAny_pure ?_) | skip
 refine aA (wpAny_sequenceKey ht.typeIs (by decide) ?_);refine aA (eZ (name:=hX "__getitem__") ht.typeIs lR (gM lR ht.typeIs entry_tuple_getitem ?_ (args_tuple_getitem _ _)));show aL _ _ (Builtin.Tuple.tupleItemsOf (.ref p) >>= _) _ _ s;refine aA (tupleItemsOf_ ht ?_);refine aA (tP hT ?_);rw[if_pos (by decide)];refine aA (yp hs ?_);have no:¬(((((its.toArray.size:Nat):Int) - 1) == 0 && (-1:Int) == 1 && its.toArray.size == its.toArray.size)=true):=by
  intro q;rw[iB,iB]at q;exact absurd q.1.2 (by decide)
 show aL _ _ (if ((((its.toArray.size:Nat):Int) - 1) == 0 && (-1:Int) == 1 && its.toArray.size == its.toArray.size)=true then _ else _) _ _ s
 rw[if_neg no];have pk:((dG its.toArray.size).filterMap λ(m:Nat)=>its.toArray[(((its.toArray.size:Nat):Int) - 1+(m:Int) * (-1)).toNat]?)=its.reverse:=by
  rw[aO];exact P9 its
 rw[pk]
 first
  |exact aA (m:=jC _) (gR (wpAny_pure ⟨_,rfl,wpAny_pure h⟩) ok)
  |exact aA (aA (m:=jC _) (gR (wpAny_pure ⟨_,rfl,wpAny_pure h⟩) ok))
  |exact aA (aA (m:=jC _) (gR (wpAny_pure (wpAny_pure ⟨_,rfl,wpAny_pure h⟩)) ok))
end
end HT
namespace L2
open PySem PySem.Spec PyProof.Rows
section
variable {X:Cx}{e st:Expr}{te ts:TE}{pos p2:Pos}
def tRev (K:aB)(te ts:TE):TE:=λσ H Q=>te σ H λx H1=>ts σ H1 λy H2=>y=.int (-1)/\∃a xs,x=.ref a/\SqT K H2 a xs/\∀p,H2 p=none->Q (.ref p) (upd H2 p (.tup xs.reverse))
theorem Uz (he:PE X e te)(hs:PE X st ts):PE X (.Subscript e (.Slice none none (some st) p2) pos) (tRev X.K te ts):=by
 intro f' s σ H Q I h;refine Subscript_ (thn (he f' s σ H _ I h) λv s1 AD=>?_);obtain⟨x,H1,I1,r1,q1⟩:=AD;refine wpAny_Slice ?_;rw[xU];refine wpAny_pure (wpAny_pure ?_);rw[evalPart_some];refine thn (hs f' s1 σ H1 _ I1 q1) λvs s3 AD=>?_;obtain⟨y,H3,I3,r3,q3⟩:=AD;obtain⟨rfl,a,xs,rfl,hx,q⟩:=q3;obtain⟨t,rfl⟩:=r3;cases(show v=bZ a from r1);have I4:Inv X f' σ H3 { s3 with heap:=s3.heap.push { cls:=.type "slice",data:=.fields #[.none,.none,.int (-1) t] } }:=I3.kept (t':=s3.toks) λb ob q=>aI _ q;obtain⟨its,r4,ht,hz⟩:=I4.tuple hx;have lz:its.length<=sizeLine:=(by rw[<-r4.length];exact hz);show aL (aS X.prog X.w) X.A (uU e (.Slice none none (some st) p2) (.ref a) (.ref s3.heap.objs.size)) (EP X f' σ Q) X.xe { s3 with heap:=s3.heap.push { cls:=.type "slice",data:=.fields #[.none,.none,.int (-1) t] } };refine tail_any (ops:=[.ref a,.ref s3.heap.objs.size]) ht.typeIs PyProof.Rows.slot_tuple_getitem.lookup (HT.getItem_tuple_rev ht (Heap.IsSliceOf.new ..) ?_ lz) (by with_unfolding_all rfl)
 refine⟨.ref _,_,I4.laid (t':=s3.toks) (o:=.tup xs.reverse) (λb ob q=>aI _ q) (aN _) ?_,rfl,q _ (I4.hok.fresh (aN _))⟩;exact⟨by rw[iJ];exact hz,_,r4.reverse,yK _ _⟩
theorem U0 (l b:Addr)(xs ys:Array aC)(n k:Nat)(dd:Option Addr)(sl:Array (Option aC))(UK:¬(!xs.isEmpty && kK (xs.size+ys.size))=true)(FW:xs.size<=sizeLine)(BL:xs.size+ys.size<=sizeLine+1) :
  Meets (iI.«list.extend» ⟨[.ref l,.ref b],[]⟩) (λ_ R s=>s.heap.get? l=some { cls:=.type "list",dict:=none,data:=.seq xs n,slots:=#[] }/\s.heap.get? b=some { cls:=.type "tuple",dict:=dd,data:=.seq ys k,slots:=sl }/\R (.ok (.ret iD)) { s with heap:=s.heap.update l (jB λx=>x++ys),toks:=s.toks }):=
 .of_wp λprog w A R s h=>by
  obtain⟨hp,gs,dr,tk,os⟩:=s;obtain⟨hl,hb,h⟩:=h;have f1:=AutoSeq1.idx_int;have f2:=AutoSeq1.sub_tuple_tuple;have f3:=AutoSeq1.sub_list_list;have f4:=AutoSeq1.sub_tuple_list;have f5:=AutoSeq1.sub_list_tuple;have OQ:(xs++ys).size<=sizeLine+1:=by rw[Array.size_append];exact BL
  wp_walk using(wpAny_updateSeq hl rfl (hz:=FW) (_hz':=OQ)),AutoSeq1.wpAny_loadPart' hl,AutoSeq1.wpAny_loadPart' hb
  exact⟨_,rfl,h⟩
def Zm (K:aB):V->List V->Hp->VK->Prop:=λx vs H Q=>∃l b xs zs,x=.ref l/\vs=[.ref b]/\H l=some (.lst xs)/\SqT K H b zs/\xs.length+zs.length<=sizeLine/\Q .non (upd H l (.lst (xs++zs)))
theorem U5:MtM X "list.extend" (Zm X.K):=by
 intro f' s σ H x vs v us Q I rx rv h;obtain⟨l,b,xs,zs,rfl,rfl,hH,hB,hz,q⟩:=h;cases rx;obtain⟨u,rfl,ru⟩:=rv.one;cases ru;obtain⟨z,its,n,r,hl,e⟩:=I.lstM hH;obtain⟨AH,r2,p2,_⟩:=I.tuple hB;have AR:=r2.length;obtain⟨⟨c2,d2,t2,l2⟩,g2,k2,n2,z2⟩:=id p2;simp only at k2 z2;subst k2 z2;have hsz:its.toArray.size+AH.toArray.size<=sizeLine:=(by rw[aO,aO];lia);have DC:¬(!its.toArray.isEmpty && kK (its.toArray.size+AH.toArray.size))=true:=by
  rw[yo hsz,rK];exact bX
 refine rJ F.slot_list_extend ⟨_,e,rfl⟩ F.entry_list_extend (F.args_list_extend_2 _ _) (U0 l b its.toArray AH.toArray n n2 d2 l2 DC (by rw[aO];lia) (by lia)) ⟨e,g2,?_⟩;refine⟨.non,_,I.lset (its':=its++AH) hH e (by simp) (r.append r2) ?_,rfl,q⟩;rw[aQ];lia
end
theorem Br {K:aB}{H:Hp}{a:Addr}{o:Obj}{its:Array aC}{n:Nat}{xs:List V}(l:K.lookup a=some o)(c:o.cls=.type "tuple")(d:o.data=.seq its n)(z:its.size<=sizeLine)(r:Vals xs its.toList):SqT K H a xs:=
 .inr ⟨o,its,n,l,c,d,z,r⟩
section
variable {X:Cx}{es:List Expr}{te:TE}{t:TA}
theorem bq {c:Const}{k:Nat}{p:Pos}(ha:PE X (.Constant c k p) te)(hr:PA X es t):PA X (.Constant c k p::es) (xn te t):=aa ha hr
theorem qu {x:Str}{p:Pos}(ha:PE X (.Name x p) te)(hr:PA X es t):PA X (.Name x p::es) (xn te t):=aa ha hr
theorem i8 {l:List Expr}{k:Nat}{p:Pos}(ha:PE X (.Tuple l k p) te)(hr:PA X es t):PA X (.Tuple l k p::es) (xn te t):=aa ha hr
end
end L2
namespace Fly
open PySem
open Sem (wp)
def Tb (B h:Heap)(e:Addr)(vs:Array aC):Option aC->Prop
 |none=>vs[1]?=some .none
 |some f=>∃T oT ts,vs[1]?=some (.ref T)/\B.get? T=none/\T≠e/\h.get? T=some oT/\oT.data=.fields ts/\ts[3]?=some f
structure XAt (B:Heap)(l:List Env)(e:Addr)(cls:aC)(AS:Option Addr)(fl:Option aC)(h:Heap):Prop where
 stays:B.StaysIn h
 new:B.get? e=none
 frames:h.FunFrames B l
 obj:∃oe vs,h.get? e=some oe/\oe.cls=cls/\oe.dict=AS/\oe.data=.fields vs/\1 < vs.size/\Tb B h e vs fl
theorem XAt.drop {B:Heap}{env:Env}{l:List Env}{e:Addr}{cls:aC}{AS:Option Addr}{fl:Option aC}{h:Heap}(x:XAt B (env::l) e cls AS fl h):XAt B l e cls AS fl h:=
 ⟨x.stays,x.new,x.frames.2.2,x.obj⟩
theorem U6 (o:Obj)(f):(o.mapFields f).dict=o.dict:=by
 unfold oP;split<;>rfl
section
variable {M:sO}{A:cC}{E:aC->aG->Prop}{s:aG}
theorem entry {B:Heap}{env:Env}{outer:List Env}{L e:Addr}{oe:Obj}{vs:Array aC}{head:aC}{more:Bool}{Q:Unit->aG->Prop}
  (FX:A.frames=some (env::outer)) (hl:s.heap.FunFrames B (env::outer)) (hf:env.frame=some L) (he:s.heap.get? e=some oe) (B':B.StaysIn s.heap) (UL:B.get? e=none) (hd:oe.data=.fields vs) (hsz:1 < vs.size)
  (h:∀h',XAt B (env::outer) e oe.cls oe.dict (some (iU L)) h'->s.heap.UpToSlots h'->Q () { s with heap:=h' }) :
  aL M A (do let a <-frameOf env;let pl <-entryPlaceOf L more;let b <-EntryCells.newEntry head a .none (iU L) .none pl;xR (.ref e) 1 b) Q E s:=by
 have nf:e ∉ (env::outer).filterMap (·.frame):=by
  intro hm;obtain⟨_,o,ho,z⟩:=hl.mem hm;rw[he]at ho;cases ho;exact z vs hd
 refine aA (wpAny_frameOf_fun FX hl hf λh1 FW=>?_);refine aA (wpAny_entryPlaceOf λpl BK=>?_);unfold EntryCells.newEntry newFields;refine aA (gR ?_ (BK.sizeOk5 _ _ _ _ _));have UM:(([head,.ref L,.none,iU L,.none]++(if pl.isEmpty then dJ 6 iD else pl)).toArray:Array aC)[3]?=some (iU L):=by
  first | (simp;done) | (rcases BK with rfl | ⟨_,_,_,_,_,_,_,rfl⟩<;>simp)
 generalize ([head,.ref L,.none,iU L,.none]++(if pl.isEmpty then dJ 6 iD else pl)).toArray=ts at UM ⊢
 have e1:h1.get? e=some oe:=(FW.2.1 e nf).trans he;have k1:B.StaysIn h1:=λb o q=>(FW.2.1 b λhm=>by rw[(hl.mem hm).1]at q;cases q).trans (B' b o q);have e2:=aI (h:=h1) { cls:=.type "traceback",dict:=none,data:=.fields ts } e1;refine mZ e2 hd hsz ?_;have ne:h1.objs.size≠e:=gJ (aW e1);have d3:=iO hd (·.setIfInBounds 1 (bZ h1.objs.size));have e3:=iH (oP (·.setIfInBounds 1 (bZ h1.objs.size))) e2 (nK d3);have t3:=(jP (h1.push { cls:=.type "traceback",dict:=none,data:=.fields ts }) (oP (·.setIfInBounds 1 (bZ h1.objs.size))) (Ne.symm ne)).trans (aY h1 rfl);have kp:∀b o,b≠e->h1.get? b=some o->((h1.push { cls:=.type "traceback",dict:=none,data:=.fields ts }).update e (oP (·.setIfInBounds 1 (bZ h1.objs.size)))).get? b=some o:=by
  intro b o hb q;rw[jP _ _ (Ne.symm hb)];exact aI _ q
 have nr:∀b o,s.heap.get? b=some o->(∀vs,o.data≠.fields vs)->b≠e:=by
  intro b o q z w;subst w;rw[he]at q;cases q;exact z vs hd
 refine h _ ⟨λb o q=>kp b o (λw=>by rw[w,UL]at q;cases q) (k1 b o q),UL,hl.of_keeps λb o q z=>?_,?_⟩ λb o q z=>?_
 ·obtain⟨sl,hs⟩:=FW.2.2 b o q;exact⟨_,kp b _ (nr b o q z) hs,rfl⟩
 ·exact⟨_,_,e3,rX _ _,U6 _ _,d3,by simpa using hsz,h1.objs.size,_,_,by simp[hsz],k1.fresh,ne,t3,rfl,UM⟩
 ·obtain⟨sl,hs⟩:=FW.2.2 b o q;exact⟨sl,kp b _ (nr b o q z) hs⟩
theorem note {B:Heap}{env:Env}{outer:List Env}{L e:Addr}{cls:aC}{AS:Option Addr}{fl:Option aC}{Q:Unit->aG->Prop}
  (FX:A.frames=some (env::outer)) (hf:env.frame=some L) (x:XAt B (env::outer) e cls AS fl s.heap) (QV:fl=none\/fl=some .none)
  (h:∀h',XAt B (env::outer) e cls AS (some (iU L)) h'->s.heap.UpToSlots h'->Q () { s with heap:=h' }):aL M A (noteFrame (.ref e) env) Q E s:=by
 obtain⟨k,en,l,oe,vs,he,rfl,rfl,hd,hsz,tb⟩:=x;unfold noteFrame;simp only[hf];rcases QV with rfl | rfl
 ·refine aA (cY he hd (show vs[1]?=some .none from tb) ?_);rw[if_neg (by decide)];exact entry FX l hf he k en hd hsz h
 ·obtain⟨T,oT,ts,h1,nT,ne,hT,dT,h3⟩:=(show ∃T oT ts,vs[1]?=some (.ref T)/\B.get? T=none/\T≠e/\s.heap.get? T=some oT/\oT.data=.fields ts/\ts[3]?=some .none from tb);refine aA (cY he hd h1 ?_);rw[if_pos (show(bZ T != iD)=true from by simp)];refine aA (cY hT dT h3 ?_);rw[if_neg (show ¬((iD == iU L)=true)from by simp[iU])];refine aA (mZ hT dT (iK.mp h3).1 ?_);have ot:∀b,b≠T->(s.heap.update T (oP (·.setIfInBounds 3 iD))).get? b=s.heap.get? b:=λb hb=>jP _ _ (Ne.symm hb);have nr:∀b o,s.heap.get? b=some o->(∀vs,o.data≠.fields vs)->b≠T:=by
   intro b o q z w;subst w;rw[hT]at q;cases q;exact z ts dT
  refine entry FX (l.of_keeps λb o q z=>⟨o,(ot b (nr b o q z)).trans q,rfl⟩) hf ((ot e (Ne.symm ne)).trans he) (λb o q=>(ot b λw=>by rw[w,nT]at q;cases q).trans (k b o q)) en hd hsz λh' y u=>?_;exact h h' y λb o q z=>u b o ((ot b (nr b o q z)).trans q) z
theorem land {B:Heap}{l:List Env}{e:Addr}{cls f:aC}{AS:Option Addr}{Q:Unit->aG->Prop}(x:XAt B l e cls AS (some f) s.heap)
  (h:∀h',XAt B l e cls AS (some .none) h'->s.heap.UpToSlots h'->Q () { s with heap:=h' }):aL M A (setFlight (.ref e) none) Q E s:=by
 obtain⟨k,en,hl,oe,vs,he,rfl,rfl,hd,hsz,tb⟩:=x;obtain⟨T,oT,ts,h1,nT,ne,hT,dT,h3⟩:=(show ∃T oT ts,vs[1]?=some (.ref T)/\B.get? T=none/\T≠e/\s.heap.get? T=some oT/\oT.data=.fields ts/\ts[3]?=some f from tb);have z3:3 < ts.size:=(iK.mp h3).1;have ot:∀b,b≠T->(s.heap.update T (oP (·.setIfInBounds 3 ((none:Option Addr).elim iD λf=>iU f)))).get? b=s.heap.get? b:=λb hb=>jP _ _ (Ne.symm hb);have nr:∀b o,s.heap.get? b=some o->(∀vs,o.data≠.fields vs)->b≠T:=by
  intro b o q z w;subst w;rw[hT]at q;cases q;exact z ts dT
 unfold setFlight;refine aA (cY he hd h1 ?_);rw[if_pos (show(bZ T != iD)=true from by simp)];refine mZ hT dT z3 (h _ ⟨λb o q=>(ot b λw=>by rw[w,nT]at q;cases q).trans (k b o q),en,hl.of_keeps λb o q z=>⟨o,(ot b (nr b o q z)).trans q,rfl⟩,?_⟩ λb o q z=>⟨o.slots,(ot b (nr b o q z)).trans q⟩);exact⟨oe,vs,(ot e (Ne.symm ne)).trans he,rfl,rfl,hd,hsz,T,_,_,h1,nT,ne,iH _ hT (nK (iO dT _)),iO dT _,by simp[z3]⟩
theorem leave {B:Heap}{env:Env}{outer:List Env}{L e:Addr}{cls:aC}{AS:Option Addr}{fl:Option aC}{Q:Unit->aG->Prop}
  (FX:A.frames=some (env::outer)) (hf:env.frame=some L) (x:XAt B (env::outer) e cls AS fl s.heap) (QV:fl=none\/fl=some .none)
  (h:∀h',XAt B outer e cls AS (some .none) h'->s.heap.UpToSlots h'->Q () { s with heap:=h' }):aL M A (leaving env (.ref e)) Q E s:=by
 unfold leaving;refine aA (note FX hf x QV λh1 x1 u1=>land x1 λh2 x2 u2=>?_);exact h h2 x2.drop (u1.trans u2)
end
open Sem (wp)
abbrev km {α:Type}(M:sO)(h:Heap)(t:Sem α)(r:α):Prop:=
 ∀(A:cC)(Q:α->aG->Prop) (E:aC->aG->Prop) (s:aG),(∀b o,h.get? b=some o->s.heap.get? b=some o)->Q r s->aL M A t Q E s
section
variable {prog:aU}{w:aZ}{A:cC}{E:aC->aG->Prop}{h:Heap}{g:Array pO}{d:zL}{t:Nat}{os:AB}
variable {nm q:Str}{C N:Addr}{bs bm EV:List aC}{hdct:Bool}{sn:List Str}{sub:List aC}{ab:Bool}{col:Option Bool}{dd:Option Addr}{k0 k1 k2 k3 k5:Option aC}{B newId BB:String}
theorem U7 (F:qX B newId BB EV)(cB:bm.contains (.type B)=true){M:sO}{rest:List aC}{Q:Unit->aG->Prop}
  (hC:h.get? C=some (gX nm q C N bs bm hdct sn sub ab col dd k0 k1 k2 k3 k5 newId)) (hq:Q () ⟨h,g,d,t,os⟩):aL M A (iX newId ⟨.ref C::rest,[]⟩) Q E ⟨h,g,d,t,os⟩:=by
 have c1:(bZ C::bm).contains (.type B)=true:=(by rw[gS,cB,lX]);have c2:=F.noStar;simp only[iX,F.newKind,F.newSplit,F.newRow]
 repeat (first
   |refine eQ hC ?_
   | (refine jT hC ?_;rw[c1])
   |refine wpAny_staticBase_exc hC ?_
   |refine wpAny_madeBy_exc hC ?_
   |simp only[bne_self_eq_false,eV,if_false]
   |wp_step)
 exact hq
theorem U8 {R:xC->aG->Prop}(F:qX B newId BB EV)(cB:bm.contains (.type B)=true)(cA:bm.contains (.type "AttributeError")=false)(cN:bm.contains (.type "NameError")=false){rest:List aC}
  (hC:h.get? C=some (gX nm q C N bs bm hdct sn sub ab col dd k0 k1 k2 k3 k5 newId))
  (hq:R (.ok (.ret (.ref (h.objs.size+1)))) ⟨(h.push { cls:=.type "tuple",data:=.seq rest.toArray }).push { cls:=.ref C,data:=.fields #[.ref h.objs.size,.none,.none,.none,.bool false,.none] },g,d,t,os⟩) (hrest:rest.length<=sizeLine) :
  oA (aS prog w) A (.builtin newId ⟨.ref C::rest,[]⟩) R ⟨h,g,d,t,os⟩:=by
 have f1:=F.ends;have c1:(bZ C::bm).contains (.type B)=true:=(by rw[gS,cB,lX]);have c2:(bZ C::bm).contains (.type "AttributeError")=false:=(by rw[gS,cA];rfl);have c3:(bZ C::bm).contains (.type "NameError")=false:=(by rw[gS,cN];rfl);refine codeAny_builtinAt F.entry ?_;unfold iI.«BaseException.__new__»;refine wpAt_bind ?_;show wpAt _ _ _ (stack >>= _) _ _ _;refine wpAt_bind (wpAt_stack λp below=>wpAt_of_wpAny ?_)
 wp_walk
 refine wpAt_of_wpAny ?_;rw[F.owner]
 repeat (first
   |with_reducible refine wpAny_madeHere_exc F.canon hC ?_
   |with_reducible refine eQ hC ?_
   | (with_reducible refine jT hC ?_;first | rw[c1] | rw[c2] | rw[c3])
   |wp_step)
 show R _ _;rw[eY];exact hq
theorem Kh (F:qX B newId BB EV)(cB:bm.contains (.type B)=true)(cA:bm.contains (.type "AttributeError")=false)(cN:bm.contains (.type "NameError")=false){rest:List aC}{fI:Addr}{oI:Obj}{Q:Fin->aG->Prop}
  (hC:h.get? C=some (gX nm q C N bs bm hdct sn sub ab col dd k0 k1 k2 k3 k5 newId)) (hi:km (aS prog w) h (jI (.ref C) "__init__") (some (.ref fI)))
  (QW:h.get? fI=some oI) (QX:oI.cls=.type "function")
  (hq:∀h' e,h.objs.size<=e->Heap.MadeExcOf h h' e (.ref C) rest->aL (aS prog w) A (call (.ref fI) (.ref e::rest)) (λr s'=>r=.none/\Q (.done (.ret (.ref e))) s') E ⟨h',g,d,t,os⟩) (hrest:rest.length<=sizeLine) :
  aL (aS prog w) A (iI.«type.__call__» ⟨.ref C::rest,[]⟩) Q E ⟨h,g,d,t,os⟩:=by
 repeat (first
   |with_reducible refine eQ hC ?_
   |with_reducible refine wpAny_madeBy_exc hC ?_
   |wp_step)
 refine codeAny_call_builtin_code (oW _ F.quiet) (U7 F cB hC ?_);refine U8 F cB cA cN hC ?_ hrest;show aL _ _ _ _ _ _;have kp:∀b o,h.get? b=some o->((h.push { cls:=.type "tuple",data:=.seq rest.toArray }).push { cls:=.ref C,data:=.fields #[.ref h.objs.size,.none,.none,.none,.bool false,.none] }).get? b=some o:=
  λb o z=>aI _ (aI _ z)
 have hC1:=kp _ _ hC;have hfI1:=kp _ _ QW;have he:((h.push { cls:=.type "tuple",data:=.seq rest.toArray }).push { cls:=.ref C,data:=.fields #[.ref h.objs.size,.none,.none,.none,.bool false,.none] }).get? (h.objs.size+1)
   = some { cls:=.ref C,data:=.fields #[.ref h.objs.size,.none,.none,.none,.bool false,.none] }:=by heap_get
 have c3:(bZ C::bm).contains (.ref C)=true:=(by simp);unfold zV
 repeat (first
   |with_reducible refine eQ he ?_
   | (with_reducible refine jT hC1 ?_;rw[c3])
   |wp_step)
 show aL _ _ (jI (.ref C) _) _ _ _;refine hi _ _ _ _ kp ?_;refine hZ (aA ?_);unfold bindSpecial;refine aA (tP (T:="function") ⟨_,hfI1,QX⟩ ?_);rw[if_pos (by decide)];refine wpAny_pure (aA (gB (hq _ (h.objs.size+1) (sF _) ⟨kp,pN (sF _),h.objs.size,he,pN (aN _),?_⟩) (λr s' hr=>?_) λ_ _ x=>x))
 ·exact aI _ (Heap.get?_push_at rfl rfl)
 ·obtain⟨rfl,hQ⟩:=hr
  wp_walk
  exact hQ
theorem M7 (F:qX B newId BB EV)(cB:bm.contains (.type B)=true)(cA:bm.contains (.type "AttributeError")=false)(cN:bm.contains (.type "NameError")=false){rest:List aC}{fI:Addr}{oI:Obj}{Q:aC->aG->Prop}
  (hC:h.get? C=some (gX nm q C N bs bm hdct sn sub ab col dd k0 k1 k2 k3 k5 newId)) (hi:km (aS prog w) h (jI (.ref C) "__init__") (some (.ref fI)))
  (QW:h.get? fI=some oI) (QX:oI.cls=.type "function")
  (hq:∀h' e,h.objs.size<=e->Heap.MadeExcOf h h' e (.ref C) rest->aL (aS prog w) (A.under (.builtin "type.__call__" ⟨.ref C::rest,[]⟩)) (call (.ref fI) (.ref e::rest)) (λr s'=>r=.none/\Q (.ref e) s') E ⟨h',g,d,t,os⟩) (hrest:rest.length<=sizeLine) :
  aL (aS prog w) A (call (.ref C) rest) Q E ⟨h,g,d,t,os⟩:=by
 have f1:=tc_lookup;have f2:=tc_bind (.ref C);have hT:(⟨h,g,d,t,os⟩:aG).TypeIs (.ref C) "type":=⟨_,hC,rfl⟩;refine rG (wR ?_);show aL _ _ (callAny (.ref C) _) _ _ _
 repeat (any_goals (first
   |assumption
   |with_reducible refine eQ hC ?_
   |wp_step))
 refine⟨rfl,?_⟩;refine codeAny_call_builtin_at (oW _ (by decide +kernel)) entry_typeCall (wpAny_check_type_call_sub hC (Kh (hrest:=hrest) F cB cA cN hC hi QW QX λh' e sz hm=>?_));exact hq h' e sz hm
theorem Qa (F:qX B newId BB EV)(cB:bm.contains (.type B)=true){M:sO}{e:Addr}{oe:Obj}{rest:List aC}{Q:Unit->aG->Prop}{QY:String}
  (hC:h.get? C=some (gX nm q C N bs bm hdct sn sub ab col dd k0 k1 k2 k3 k5 QY)) (he:h.get? e=some oe) (JF:oe.cls=.ref C) (hq:Q () ⟨h,g,d,t,os⟩) :
  aL M A (iX BB ⟨.ref e::rest,[]⟩) Q E ⟨h,g,d,t,os⟩:=by
 have c1:(bZ C::bm).contains (.type B)=true:=(by rw[gS,cB,lX]);have c2:=F.noStar;simp only[iX,F.initKind,F.initSplit,F.initRow]
 repeat (first
   | (with_reducible refine eQ he ?_;rw[JF])
   |with_reducible refine eQ hC ?_
   | (with_reducible refine jT hC ?_;rw[c1])
   |wp_step)
 refine lK ?_;rw[show ∀(a b:String)(n:Nat),Bind.check ⟨.positional,"*",B,.self,[⟨"args",.varPos,false⟩]⟩ a b n (List.map (λx=>x.fst) ({ pos:=.ref e::rest }:Args).kw)=pure ()from λa b n=>check_star_args _ _ _ _ _ _];exact wpAny_pure hq
theorem M8 (F:qX B newId BB EV)(cB:bm.contains (.type B)=true){e t0:Addr}{AS:Option Addr}{rest:List aC}{Q:aC->aG->Prop}{QY:String}
  (hC:h.get? C=some (gX nm q C N bs bm hdct sn sub ab col dd k0 k1 k2 k3 k5 QY)) (he:h.get? e=some { cls:=.ref C,dict:=AS,data:=.fields #[.ref t0,.none,.none,.none,.bool false,.none] }) (hrest:rest.length<=sizeLine)
  (hq:∀h' t1,(∀b o,b≠e->h.get? b=some o->h'.get? b=some o)->h'.get? e=some { cls:=.ref C,dict:=AS,data:=.fields #[.ref t1,.none,.none,.none,.bool false,.none] }->Q .none ⟨h',g,d,t,os⟩) :
  aL (aS prog w) A (call (.builtin BB) (.ref e::rest)) Q E ⟨h,g,d,t,os⟩:=by
 refine rG (lY F.init.plain F.initEntry (Qa F cB hC he rfl ?_))
 wp_walk
 refine hq _ h.objs.size (λb o hb z=>?_) ?_
 ·rw[jP _ _ (Ne.symm hb)];exact aI _ z
 ·rw[iH _ (aI _ he) rfl];rfl
end
open Sem (wp)
open Builtin Builtin.ObjectAttr
section
variable {prog:aU}{w:aZ}{A:cC}{E:aC->aG->Prop}{h:Heap}{g:Array pO}{d:zL}{t:Nat}{os:AB}
variable {nm q:Str}{C N x:Addr}{bs bm EV:List aC}{sn:List Str}{sub:List aC}{ab:Bool}{col:Option Bool}{dd:Option Addr}{k0 k1 k2 k3 k5:Option aC}{B newId sa owner:String}{name:Str}{v:aC}
theorem U9 {o:Obj}{tk:Tok}{Q:Fin->aG->Prop}(pass:∀self:aC,zW self "__setattr__" bm=pure ())
  (hC:h.get? C=some (gX nm q C N bs bm true sn sub ab col dd k0 k1 k2 k3 k5 newId)) (JQ:km (aS prog w) h (jI (.ref C) name) none)
  (hx:h.get? x=some o) (hc:o.cls=.ref C) (hnc:∀c,o.data≠.cls c) (MF:o.dict=none)
  (hq:∀h' t' dx,h.get? dx=none->dx≠x->h.objs.size<=dx->h'.get? x=some { o with dict:=some dx }->h'.Ns1 dx (λy=>if y=name then some v else none)->(∀b u,b≠x->h.get? b=some u->h'.get? b=some u)->Q (.done (.ret .none)) ⟨h',g,d,t',os⟩) :
  aL (aS prog w) A (iI.«object.__setattr__» ⟨[.ref x,.str name tk,v],[]⟩) Q E ⟨h,g,d,t,os⟩:=by
 have ps:=pass (.ref x);have kk:∀b u,h.get? b=some u->h.get? b=some u:=λ_ _ z=>z;unfold iI.«object.__setattr__»
 repeat (first
   |rw[refuse_eq]
   | (rw[xE,ps])
   | (with_reducible refine eQ hx ?_;rw[hc])
   |with_reducible refine wpAny_mroOf_exc hC ?_
   |refine JQ _ _ _ _ kk ?_
   |wp_step)
 rw[MF,if_neg (by simp[typeHasDict])]
 split
 ·rename_i z
  cases z
 split
 ·rename_i c z
  exact absurd z (hnc c)
 ·have EE:(h.push { cls:=.type "dict",data:=.dict #[] }).get? x=some o:=aI _ hx;have hs:x≠h.objs.size:=cE (aW hx);refine aA (wpAny_alloc' (aA (wpAny_update' EE (wpAny_pure ?_))));have gd:((h.push { cls:=.type "dict",data:=.dict #[] }).update x λo=>{ cls:=o.cls,dict:=some h.objs.size,data:=o.data,slots:=o.slots }).get? h.objs.size=some { cls:=.type "dict",data:=.dict #[] }:=
   (Heap.get?_update_ne _ _ _ _ hs.symm).trans (Heap.get?_push_at rfl rfl)
  have nd:((h.push { cls:=.type "dict",data:=.dict #[] }).update x λo=>{ cls:=o.cls,dict:=some h.objs.size,data:=o.data,slots:=o.slots }).Ns h.objs.size (λ_=>none):=⟨_,#[],_,gd,rfl,λe he=>absurd he (by simp),λ_=>rfl⟩;show aL _ _ (storeInDict h.objs.size (.str name tk) name v) _ _ _;unfold storeInDict newKeyGuard;refine aA (wpAny_pure (aA (yE (Heap.Ns1.of_empty nd) λh' GZ sz=>?_)));obtain⟨oD,UB,UC,LQ,LR,LS⟩:=GZ.count (Within.cons name v Within.nil);refine aA (vQ LQ (by rw[LR];exact vR (cH LS (by rw[eE,oX,iN];lia))) ?_)
  wp_walk
  refine hq h' _ h.objs.size (pN (aN _)) hs.symm (aN _) ?_ GZ λb u hb z=>?_
  ·refine(sz.2 x hs).trans (iH _ EE ?_);have fr:=(Heap.get?_some_iff.mp hx).2;obtain⟨oc,od,QZ,FA⟩:=o;cases QZ<;>first | rfl | exact fr
  ·exact(sz.2 b (cE (aW z))).trans ((Heap.get?_update_ne _ _ _ _ hb).trans (aI _ z))
theorem Qb {o:Obj}{tk:Tok}{dx:Addr}{mA:Str->Option aC}{ns:List Str}{Q:Fin->aG->Prop}(pass:∀self:aC,zW self "__setattr__" bm=pure ())
  (hC:h.get? C=some (gX nm q C N bs bm true sn sub ab col dd k0 k1 k2 k3 k5 newId)) (JQ:km (aS prog w) h (jI (.ref C) name) none)
  (hx:h.get? x=some o) (hc:o.cls=.ref C) (FY:o.dict=some dx) (IA:h.Ns1 dx mA) (hw:Within mA ns) (hsz:ns.length < sizeLine)
  (hq:∀h' t',h'.Ns1 dx (λy=>if y=name then some v else mA y)->(∀b u,b≠dx->h.get? b=some u->h'.get? b=some u)->Q (.done (.ret .none)) ⟨h',g,d,t',os⟩) :
  aL (aS prog w) A (iI.«object.__setattr__» ⟨[.ref x,.str name tk,v],[]⟩) Q E ⟨h,g,d,t,os⟩:=by
 have ps:=pass (.ref x);have kk:∀b u,h.get? b=some u->h.get? b=some u:=λ_ _ z=>z;unfold iI.«object.__setattr__»
 repeat (first
   |rw[refuse_eq]
   | (rw[xE,ps])
   | (with_reducible refine eQ hx ?_;rw[hc])
   |with_reducible refine wpAny_mroOf_exc hC ?_
   |refine JQ _ _ _ _ kk ?_
   |wp_step)
 rw[FY];refine wpAny_pure ?_;show aL _ _ (storeInDict dx (.str name tk) name v) _ _ _;unfold storeInDict newKeyGuard;refine aA (wpAny_pure (aA (yE IA λh' GZ sz=>?_)));obtain⟨oD,UB,UC,LQ,LR,LS⟩:=GZ.count (Within.cons name v hw);refine aA (vQ LQ (by rw[LR];exact vR (cH LS (by rw[eE];lia))) ?_)
 wp_walk
 exact hq h' _ GZ λb u hb z=>(sz.2 b hb).trans z
theorem M9 {o:Obj}{Q:Unit->aG->Prop}(SF:StoreFacts B EV sa owner)(cO:bm.contains (.type owner)=true)
  (hC:h.get? C=some (gX nm q C N bs bm true sn sub ab col dd k0 k1 k2 k3 k5 newId)) (OR:km (aS prog w) h (jI (.ref C) "__setattr__") (some (.builtin sa)))
  (hx:h.get? x=some o) (hc:o.cls=.ref C)
  (hq:∀tk t',aL (aS prog w) A.in1 (iI.«object.__setattr__» ⟨[.ref x,.str name tk,v],[]⟩) (λAK s'=>∃r,AK=.done (.ret r)/\Q () s') (λ_ _=>False) ⟨h,g,d,t',os⟩) :
  aL (aS prog w) A (AA (.ref x) name v) Q E ⟨h,g,d,t,os⟩:=by
 have f3:=SF.slot.bind (.ref x);have c1:(bZ C::bm).contains (.type owner)=true:=(by rw[gS,cO,lX]);have kk:∀b o,h.get? b=some o->h.get? b=some o:=λ_ _ z=>z;unfold AA callSpecial? specialOf
 repeat (any_goals (first
   |assumption
   | (with_reducible refine eQ hx ?_;rw[hc])
   |refine OR _ _ _ _ kk ?_
   |wp_step))
 refine lY SF.slot.plain SF.entry ?_;show aL _ _ (iX sa ⟨[.ref x,.str name t,v],[]⟩) _ _ _;have ha:=SF.args (.ref x) (.str name t) v;have go:aL (aS prog w) A.in1 (iI.«object.__setattr__» ⟨[.ref x,.str name t,v],[]⟩) (λAK s'=>match AK with
     | .done f=>(λr s'=>match r with | .ok (.ret v)=>aL (aS prog w) A (pure (some v)) (λa s'=>aL (aS prog w) A (match a with | some val=>pure PUnit.unit | x=>wZ "internal:no-__setattr__") Q E s') E s' | .ok a=>False | .error e=>E e s') (Except.ok f) s'
     | .again c'=>c'.quiet=true/\oA (aS prog w) A c' (λr s'=>match r with | .ok (.ret v)=>aL (aS prog w) A (pure (some v)) (λa s'=>aL (aS prog w) A (match a with | some val=>pure PUnit.unit | x=>wZ "internal:no-__setattr__") Q E s') E s' | .ok a=>False | .error e=>E e s') s') (λe s'=>E e s') ⟨h,g,d,t+1,os⟩:=by
  refine gB (hq t (t+1)) (λAK s' z=>?_) λ_ _ z=>z.elim;obtain⟨r,rfl,z⟩:=z;exact wpAny_pure (wpAny_pure z)
 simp only[iX,SF.kind,SF.split];refine aA ?_;unfold zV
 repeat (first
   | (with_reducible refine eQ hx ?_;rw[hc])
   | (with_reducible refine jT hC ?_;rw[c1])
   |wp_step)
 cases hsig:Manifest.signature? sa with
 |none=>exact wpAny_pure go
 |some UN=>
  simp only[yO,hsig]at ha;have h2:Bind.checkArgs sa UN ⟨[.ref x,.str name t,v],[]⟩=pure ():=ha;show aL _ _ (Bind.checkArgs sa UN ⟨[.ref x,.str name t,v],[]⟩) _ _ _;rw[h2];exact wpAny_pure go
end
open Sem (wp)
section
variable {prog:aU}{w:aZ}{A:cC}{E:aC->aG->Prop}{h:Heap}{g:Array pO}{d:zL}{t:Nat}{os:AB}
variable {nm q:Str}{C N x:Addr}{bs bm EV:List aC}{hdct:Bool}{sn:List Str}{sub:List aC}{ab:Bool}{col:Option Bool}{dd:Option Addr}{k0 k1 k2 k3 k5:Option aC}{B newId:String}{name:Str}{v:aC}
theorem Zn {o:Obj}{tk:Tok}{dx:Addr}{mA:Str->Option aC}{vs:Array aC}{Q:Fin->aG->Prop}
  (hC:h.get? C=some (gX nm q C N bs bm true sn sub ab col dd k0 k1 k2 k3 k5 newId)) (JQ:km (aS prog w) h (jI (.ref C) name) none)
  (hx:h.get? x=some o) (hc:o.cls=.ref C) (hd:o.data=.fields vs) (FY:o.dict=some dx) (IA:h.Ns dx mA) (hv:mA name=some v) (ho:handedOut v=pure v) (hq:Q (.done (.ret v)) ⟨h,g,d,t,os⟩) :
  aL (aS prog w) A (iI.«object.__getattribute__» ⟨[.ref x,.str name tk],[]⟩) Q E ⟨h,g,d,t,os⟩:=by
 have kk:∀b u,h.get? b=some u->h.get? b=some u:=λ_ _ z=>z
 repeat (any_goals (first
   |assumption
   | (with_reducible refine eQ hx ?_;rw[hc])
   |refine JQ _ _ _ _ kk ?_
   |wp_step))
 rw[hd];dsimp only;unfold instanceDict
 repeat (any_goals (first
   |assumption
   | (with_reducible refine eQ hx ?_;rw[hc])
   |wp_step))
 rw[FY];refine wpAny_pure ?_;refine wpAny_nsGet IA ?_;rw[hv]
 repeat (any_goals (first
   |assumption
   |wp_step))
theorem Na {M:sO}{o:Obj}{ID:aC}{Q:Unit->aG->Prop}(hC:h.get? C=some (gX nm q C N bs bm hdct sn sub ab col dd k0 k1 k2 k3 k5 newId))(cB:bm.contains (.type "BaseException")=true)
  (hx:h.get? x=some o) (hc:o.cls=.ref C) (hq:Q () ⟨h,g,d,t,os⟩):aL M A (iX "BaseException.__getattribute__" ⟨[.ref x,ID],[]⟩) Q E ⟨h,g,d,t,os⟩:=by
 have f1:builtinKind "BaseException.__getattribute__"=some .slot:=(by decide +kernel);have f2:splitId "BaseException.__getattribute__"=some ("BaseException","__getattribute__"):=(by decide +kernel);have c1:(bZ C::bm).contains (.type "BaseException")=true:=(by rw[gS,cB];rfl);have ha:=F.args_bexc_ga (.ref x) ID;simp only[iX,f1,f2];refine aA ?_;unfold zV
 repeat (first
   | (with_reducible refine eQ hx ?_;rw[hc])
   | (with_reducible refine jT hC ?_;rw[c1])
   |wp_step)
 exact hq
theorem Zo {o:Obj}{dx:Addr}{mA:Str->Option aC}{vs:Array aC}{expr:Bool}{Q:aC->aG->Prop}(FB:ExcAttrBase B EV)(cB:bm.contains (.type "BaseException")=true)
  (hC:h.get? C=some (gX nm q C N bs bm true sn sub ab col dd k0 k1 k2 k3 k5 newId)) (JQ:km (aS prog w) h (jI (.ref C) name) none)
  (MG:km (aS prog w) h (jI (.ref C) "__getattribute__") (some (.builtin "BaseException.__getattribute__"))) (RA:km (aS prog w) h (jI (.ref C) "__getattr__") none)
  (hx:h.get? x=some o) (hc:o.cls=.ref C) (hd:o.data=.fields vs) (FY:o.dict=some dx) (IA:h.Ns dx mA) (hv:mA name=some v) (ho:handedOut v=pure v) (hq:Q v ⟨h,g,d,t+1,os⟩) :
  aL (aS prog w) A (yZ (.ref x) name expr) Q E ⟨h,g,d,t,os⟩:=by
 have f3:=FB.ga.bind (.ref x);have z0:(expr && yP (lN "BaseException.__getattribute__"))=false:=(by cases expr<;>rfl);have z2:(lN "BaseException.__getattribute__" == lN "object.__getattribute__")=false:=(by decide +kernel);have z1:(yP (bZ C) && lN "BaseException.__getattribute__" == lN "object.__getattribute__")=false:=(by rw[z2];rfl);have kk:∀b u,h.get? b=some u->h.get? b=some u:=λ_ _ z=>z;unfold yZ;refine aA (wpAny_mkText ?_);have RB:∀tk,aL (aS prog w) A (getAttrBy (.ref x) (.str name tk) true expr) Q E ⟨h,g,d,t+1,os⟩:=by
  intro tk
  repeat (any_goals (first
    |assumption
    | (with_reducible refine eQ hx ?_;rw[hc])
    | (with_reducible refine MG _ _ _ _ kk ?_)
    | (with_reducible refine RA _ _ _ _ kk ?_)
    |wp_step))
  refine lY FB.ga.plain F.entry_bexc_ga ?_;show aL _ _ (iX "BaseException.__getattribute__" ⟨[.ref x,.str name tk],[]⟩) _ _ _;refine Na hC cB hx hc ?_;show aL _ _ (iI.«object.__getattribute__» ⟨[.ref x,.str name tk],[]⟩) _ _ _;refine Zn hC JQ hx hc hd FY IA hv ho ?_
  repeat (any_goals (first
    |assumption
    |wp_step))
 exact RB _
end
open Sem (wp)
section
variable {M:sO}{A:cC}{E:aC->aG->Prop}{env:Env}{s:aG}
variable {nm q:Str}{C N:Addr}{bs bm:List aC}{hdct:Bool}{sn:List Str}{sub:List aC}{ab:Bool}{col:Option Bool}{dd:Option Addr}{k0 k1 k2 k3 k5:Option aC}{newId:String}
theorem Ig {x:Sem aC}{Q:Flow->aG->Prop}(cB:bm.contains (.type "BaseException")=true)(hh:A.handled=none)
  (h:aL M A x (λv s1=>∃e t0 AS,v=.ref e/\s1.heap.get? C=some (gX nm q C N bs bm hdct sn sub ab col dd k0 k1 k2 k3 k5 newId)/\s1.heap.get? e=some { cls:=.ref C,dict:=AS,data:=.fields #[.ref t0,.none,.none,.none,.bool false,.none] }/\E (.ref e) s1) E s) :
  aL M A (raiseStmt env (some x) none) Q E s:=by
 have c1:(bZ C::bm).contains (.type "BaseException")=true:=(by rw[gS,cB,lX]);unfold raiseStmt;refine aA (gB h (λv s1 h1=>?_) λ_ _ z=>z);obtain⟨e,t0,AS,rfl,hC,he,hE⟩:=h1;obtain⟨hp,g,d,tk,os⟩:=s1
 repeat (first
   |with_reducible refine eQ he ?_
   |with_reducible refine eQ hC ?_
   | (with_reducible refine jT hC ?_;rw[c1])
   |wp_step)
 exact wpAny_raiseNew_none hh hE
theorem Ki {e:Expr}{pos:Pos}{Q:Flow->aG->Prop}(cB:bm.contains (.type "BaseException")=true)(hh:A.handled=none)
  (h:aL M A (eval e env) (λv s1=>∃x t0 AS,v=.ref x/\s1.heap.get? C=some (gX nm q C N bs bm hdct sn sub ab col dd k0 k1 k2 k3 k5 newId)/\s1.heap.get? x=some { cls:=.ref C,dict:=AS,data:=.fields #[.ref t0,.none,.none,.none,.bool false,.none] }/\E (.ref x) s1) E s) :
  aL M A (exec (.Raise (some e) none pos) env) Q E s:=by
 rw[arm_exec_Raise]
 first
  |exact aA (nN (Ig cB hh (aA (gB h (λv s3 h3=>aA (nN (wpAny_pure h3))) λ_ _ z=>z))))
  | (simp only[evalOpt,pV];exact aA (nN (Ig cB hh (aA (gB h (λv s3 h3=>aA (nN (wpAny_pure h3))) λ_ _ z=>z)))))
end
open Sem (wp)
section
variable {prog:aU}{w:aZ}{A:cC}{E:aC->aG->Prop}{s:aG}{env:Env}
theorem Nb {e:Addr}{t:Expr}{n:Str}{b0:Stmt}{IE:List Stmt}{pos:Pos}{rest:List ExceptHandler}{Q:Flow->aG->Prop}
  (h:aL (aS prog w) (A.mark (some (.ref e))) (eval t env) (λc s1=>km (aS prog w) s1.heap (excMatches (.ref e) c) true/\
    aL (aS prog w) (A.mark (some (.ref e))) (setFlight (.ref e) none) (λ_ s2=>
      aL (aS prog w) (A.mark (some (.ref e))) (yC env n (.ref e)) (λ_ s3=>
        aL (aS prog w) (A.mark (some (.ref e))) (execs (b0::IE) env) (λf s4=>aL (aS prog w) A (do bindName env n .none;tX env n pos) (λ_ s5=>Q f s5) (λ_ _=>False) s4) (λ_ _=>False) s3) (λ_ _=>False) s2) (λ_ _=>False) s1) (λ_ _=>False) s) :
  aL (aS prog w) A (handleBy (.ref e) env (.ExceptHandler (some t) (some n) (b0::IE) pos::rest)) Q E s:=by
 refine wpAny_handleBy_cons (codeAny_handlers_test (gB h (λc s1 h1=>?_) λ_ _ z=>z.elim)) (by intro q;cases q);obtain⟨hm,h1⟩:=h1;refine hm _ _ _ _ (λ_ _ z=>z) ?_;refine codeAny_handlers_suite_as (gB h1 (λ_ s2 h2=>gB h2 (λ_ s3 h3=>gB h3 (λf s4 h4=>?_) λ_ _ z=>z.elim) λ_ _ z=>z.elim) λ_ _ z=>z.elim);exact gB h4 (λ_ _ z=>z) λ_ _ z=>z.elim
theorem gone {n:Str}{pos:Pos}{m:Str->Option aC}{Q:Unit->aG->Prop}(hl:env.kindOf n=some .local)(hn:s.heap.Ns env.locals m)
  (hp:(env.scope.kind == .class || (env.scope.kind == .module && env.locals != env.globals))=false)
  (h:∀h' u,h'.Ns env.locals (λx=>if x=n then u else m x)->gI env.locals s.heap h'->Q () { s with heap:=h',toks:=s.toks+1 }) :
  aL (aS prog w) A (do bindName env n .none;tX env n pos) Q E s:=by
 refine aA (wpAny_bindName (wpAny_storeName_local hl hn (λh1 hn1 FW=>?_) hp));unfold tX;refine lK (gB (wpAny_unbindName_local (E:=λ_ _=>False) (v:=.none) hl hn1 (by simp) hp λh2 u EA BL=>?_) (λ_ _ z=>z) λ_ _ z=>z.elim);refine h h2 u ?_ ?_
 ·obtain⟨o,es,ep,a,b,c,e⟩:=EA;refine⟨o,es,ep,a,b,c,λy=>?_⟩;rw[e y];by_cases q:y=n<;>simp[q]
 ·exact FW.trans BL
end
end Fly
namespace L2
open PySem PySem.Spec PyProof.Rows Fly
def ft (e C:Addr)(AS:Option Addr):HO:=.ext λh=>∃t0,h.get? e=some { cls:=.ref C,dict:=AS,data:=.fields #[.ref t0,.none,.none,.none,.bool false,.none] }
def qv (e C:Addr)(AS:Option Addr):HO:=.ext λh=>∃oe vs,h.get? e=some oe/\oe.cls=.ref C/\oe.dict=AS/\oe.data=.fields vs
def XAs (H:Hp)(e C:Addr)(fs:List (Str×V)):Prop:=∃dx,(H e=some (ft e C (some dx))\/H e=some (qv e C (some dx)))/\H dx=some (.xd fs)
section
variable {P:aU}{w:aZ}{H H':Hp}{h h':Heap}{e C dx:Addr}{AS:Option Addr}
theorem Bs {t0:Addr}(q:h.get? e=some { cls:=.ref C,dict:=AS,data:=.fields #[.ref t0,.none,.none,.none,.bool false,.none] }):ObjOk P w H h e (ft e C AS):=
 ⟨⟨t0,q⟩,⟨_,q⟩,λ_ _ AD k=>by obtain⟨t,z⟩:=AD;exact⟨t,k _ z⟩⟩
theorem Va {oe:Obj}{vs:Array aC}(q:h.get? e=some oe)(hc:oe.cls=.ref C)(hd:oe.dict=AS)(hv:oe.data=.fields vs):ObjOk P w H h e (qv e C AS):=
 ⟨⟨oe,vs,q,hc,hd,hv⟩,⟨_,q⟩,λ_ _ AD k=>by obtain⟨o,v,z,r⟩:=AD;exact⟨o,v,k _ z,r⟩⟩
theorem jy (x:HOk P w H h)(q:H e=some (ft e C AS)):∃t0,h.get? e=some { cls:=.ref C,dict:=AS,data:=.fields #[.ref t0,.none,.none,.none,.bool false,.none] }:=(x e _ q).1
theorem Ee (x:HOk P w H h)(q:H e=some (qv e C AS)):∃oe vs,h.get? e=some oe/\oe.cls=.ref C/\oe.dict=AS/\oe.data=.fields vs:=(x e _ q).1
end
def del (H:Hp)(e:Addr):Hp:=λb=>if b=e then none else H b
theorem Ef {H:Hp}{e:Addr}:del H e e=none:=if_pos rfl
theorem ko {H:Hp}{e b:Addr}(h:b≠e):del H e b=H b:=if_neg h
def Sub (H H':Hp):Prop:=∀b o,H b=some o->H' b=some o
def CXx (P:aU)(w:aZ):CXT:=λouter H s E ev s'=>∃(e C:Addr)(dx:Option Addr) (H':Hp) (B:Heap),ev=.ref e/\s'.os=s.os/\qG s'.gens/\XAt B outer e (.ref C) dx (some .none) s'.heap/\HOk P w H' B/\H' e=none/\
 s.heap.get? e=none/\Un (frs outer) [] H H' s.heap s'.heap/\(∀b o,s.heap.get? b=some o->b ∉ frs outer->∃o',B.get? b=some o'/\(H b=none->o'=o))/\E (.ref C) dx H'
theorem no0 {b:Addr}:b ∉ ([]:List Addr):=by simp
theorem Vb {X:Cx}{f':List (Addr×Obj)}{σ:St}{H H':Hp}{s s':aG}{B h2:Heap}{e C:Addr}{dx:Option Addr}{l:List Env}(I:Inv X f' σ H s)(hex:X.ex=[])(CZ:X.stack=X.env::X.outer)(FX:X.env.frame=some X.env.locals)
  (xa:XAt B X.stack e (.ref C) dx (some .none) s'.heap) (x2:XAt B l e (.ref C) dx (some .none) h2) (up:s'.heap.UpToSlots h2) (hn:s.heap.get? e=none)
  (un:Un (frs X.stack) [] H H' s.heap s'.heap) (old:∀b o,s.heap.get? b=some o->b ∉ frs X.stack->∃o',B.get? b=some o'/\(H b=none->o'=o)) :
  X.s₀.heap.get? e=none/\Un (frs X.outer) [] X.H₀ H' X.s₀.heap h2/\(∀b o,X.s₀.heap.get? b=some o->b ∉ frs X.outer->∃o',B.get? b=some o'/\(X.H₀ b=none->o'=o)):=by
 have nx:∀b:Addr,b ∉ X.ex:=λb=>(by rw[hex];exact no0);have KU:frs X.stack=X.env.locals::frs X.outer:=(by rw[CZ];show List.filterMap _ (_::_)=_;rw[iQ,FX];rfl);have nl:∀b o,X.s₀.heap.get? b=some o->b≠X.env.locals:=λb o q=>cE (eI (aW q) I.ok.above);have out:∀b o,X.s₀.heap.get? b=some o->b ∉ frs X.outer->b ∉ frs X.stack:=λb o q hb z=>by
  rw[KU]at z;rcases aX.mp z with z | z
  ·exact nl b o q z
  ·exact hb z
 have ins:∀b,b∈frs X.outer->b∈frs X.stack:=λb hb=>(by rw[KU];exact cX _ hb);have fr:∀b o,b∈frs X.outer->s'.heap.get? b=some o->∃sl,h2.get? b=some { o with slots:=sl }:=λb o hb q=>by
  obtain⟨_,o',q',nf⟩:=xa.frames.mem (ins b hb);rw[q]at q';cases q';exact up b o q nf
 have JR:∀b o,X.s₀.heap.get? b=some o->b ∉ frs X.outer->∃o',B.get? b=some o'/\(X.H₀ b=none->o'=o):=λb o q hb=>by
  obtain⟨o1,q1⟩:=I.base.there b o q (nx b);obtain⟨o2,q2,k2⟩:=old b o1 q1 (out b o q hb);refine⟨o2,q2,λn=>?_⟩;have q3:=I.base.keep b o q n hb (nx b);rw[q1]at q3;cases q3;exact k2 (I.base.free b o q n (nx b))
 refine⟨?_,⟨λb o q n hb _=>?_,λb o q n hb _=>?_,λb o q n _=>?_,λb o q _=>?_,λb xs q=>un.tups b xs (I.base.tups b xs q),λb o u q=>un.frzs b o u (I.base.frzs b o u q),λb ps q=>?_⟩,JR⟩
 ·cases q:X.s₀.heap.get? e with
  |none=>rfl
  |some o=>
   obtain⟨o1,q1⟩:=I.base.there e o q (nx e);rw[hn]at q1;cases q1
 ·obtain⟨o',q',k'⟩:=JR b o q hb;rw[k' n]at q';exact x2.stays b o q'
 ·obtain⟨sl1,q1⟩:=I.base.slot b o q n hb (nx b);obtain⟨HZ,q2⟩:=un.slot b _ q1 (I.base.free b o q n (nx b)) (ins b hb) no0;obtain⟨sl3,q3⟩:=fr b _ hb q2;exact⟨sl3,q3⟩
 ·obtain⟨o1,q1⟩:=I.base.there b o q (nx b);exact un.free b o1 q1 (I.base.free b o q n (nx b)) no0
 ·by_cases hb:b∈frs X.outer
  ·obtain⟨o1,q1⟩:=I.base.there b o q (nx b);obtain⟨o2,q2⟩:=un.there b o1 q1 no0;obtain⟨sl,q3⟩:=fr b o2 hb q2;exact⟨_,q3⟩
  ·obtain⟨o',q',_⟩:=JR b o q hb;exact⟨o',x2.stays b o' q'⟩
 ·obtain⟨m1,q1⟩:=I.base.tbls b ps q;obtain⟨m2,q2⟩:=un.tbls b _ q1;exact⟨m1++m2,by rw[q2,Array.append_assoc]⟩
section
variable {P:aU}{w:aZ}{K:aB}{mg:Str->Option aC}{base:Heap}{N:List Str}{AI:Str}{scope:gQ}{f:Addr}{cd:aC}{A:cC}{outer:List Env}{s0:aG}{H0:Hp}{E:XK}
theorem qe:n8 (CXx P w) (bh (CXx P w) P w K mg base N AI scope f cd A outer s0 H0 E) E:=by
 intro f' σ H s ev s' I hx;obtain⟨e,C,dx,H',B,rfl,os,bare,xa,hok,he,hn,un,old,hE⟩:=hx;refine Fly.leave (s:=s') I.ok.frames rfl xa (.inr rfl) λh2 x2 up=>?_;obtain⟨z1,z2,z3⟩:=Vb I rfl rfl rfl xa x2 up hn un old;exact⟨e,C,dx,H',B,rfl,os.trans I.os,bare,x2,hok,he,z1,z2,z3,hE⟩
theorem Cs {h b1 b2:Heap}:∀{l:List Env},h.FunFrames b1 l->(∀L∈frs l,b2.get? L=none)->h.FunFrames b2 l
 | [],_,_=>trivial
 |env::l,⟨k,⟨L,o,hf,_,ho,hd⟩,r⟩,n=>by
  have e:frs (env::l)=L::frs l:=(by show List.filterMap _ (_::_)=_;rw[iQ,hf];rfl);rw[e]at n;exact⟨k,⟨L,o,hf,n L (eF ..),ho,hd⟩,Cs r λL' z=>n L' (cX _ z)⟩
theorem Xq {f':List (Addr×Obj)}{σ:St}{H:Hp}{s:aG}{e C:Addr}{dx:Option Addr}(I:Inv (bh (CXx P w) P w K mg base N AI scope f cd A outer s0 H0 E) f' σ H s)(he:H e=some (ft e C dx))(h0:H0 e=none)
  (hE:E (.ref C) dx (del H e)):(bh (CXx P w) P w K mg base N AI scope f cd A outer s0 H0 E).xe (.ref e) s:=by
 obtain⟨t0,q⟩:=jy I.hok he;have hs:∀o,s0.heap.get? e=some o->False:=λo z=>by
  have:=I.base.free e o z h0 no0;rw[he]at this;cases this
 have UK:s0.heap.get? e=none:=by
  cases z:s0.heap.get? e with
  |none=>rfl
  |some o=>exact(hs o z).elim
 let st:=sI AI scope s0.heap.objs.size f cd::outer
 let M:Hp:=λb=>if b=e\/b∈frs st then some (.own 0)else none
 have Mn:∀{b},b≠e->b ∉ frs st->M b=none:=λh1 h2=>if_neg λz=>z.elim h1 h2;have Me:M e≠none:=by show(if e=e\/_ then _ else _)≠none;rw[if_pos (.inl rfl)];simp
 have Mf:∀b∈frs st,M b≠none:=λb hb=>by show(if b=e\/b∈frs st then _ else _)≠none;rw[if_pos (.inr hb)];simp
 have MH:∀b,M b≠none->(jo s.heap M).get? b=none:=λb n=>by
  cases z:(jo s.heap M).get? b with
  |none=>rfl
  |some o=>exact absurd (Bi z).2 n
 have stay:(jo s.heap M).StaysIn s.heap:=λb o z=>(Bi z).1;have fr:s.heap.FunFrames (jo s.heap M) st:=Cs I.stack λL hL=>MH L (Mf L hL);have xa:XAt (jo s.heap M) st e (.ref C) dx none s.heap:=⟨stay,MH e Me,fr,_,_,q,rfl,rfl,rfl,(by show 1 < 6;decide),rfl⟩;have trk:∀b o,H b=some o->b ∉ frs st:=λb o z hb=>by
  have:=I.stkFree b hb;rw[z]at this;cases this
 have hok:HOk P w (del H e) (jo s.heap M):=λb o z=>by
  by_cases hb:b=e
  ·subst hb;rw[Ef]at z;cases z
  ·rw[ko hb]at z;refine(I.hok b o z).stay (λc u hc y=>yj y ?_) (λc y=>?_) λc xs y=>?_
   ·rcases hc with rfl | hc
    ·exact Mn hb (trk _ _ z)
    ·exact Mn (λw=>by rw[w,he]at hc;cases hc) (trk _ _ hc)
   ·rw[ko λw=>by rw[w,he]at y;cases y];exact y
   ·rw[ko λw=>by rw[w,he]at y;cases y];exact y
 have nb:∀b o,s0.heap.get? b=some o->b≠e:=λb o z w=>hs o (w ▸ z);have nl:∀b o,s0.heap.get? b=some o->b≠s0.heap.objs.size:=λb o z=>cE (aW z);have KU:frs st=s0.heap.objs.size::frs outer:=rfl;have out:∀b o,s0.heap.get? b=some o->b ∉ frs outer->b ∉ frs st:=λb o z hb y=>by
  rw[KU]at y;rcases aX.mp y with y | y
  ·exact nl b o z y
  ·exact hb y
 have old:∀b o,s0.heap.get? b=some o->b ∉ frs outer->∃o',(jo s.heap M).get? b=some o'/\(H0 b=none->o'=o):=λb o z hb=>by
  obtain⟨o1,z1⟩:=I.base.there b o z no0;refine⟨o1,yj z1 (Mn (nb b o z) (out b o z hb)),λn=>?_⟩;have:=I.base.keep b o z n hb no0;rw[z1]at this;cases this;rfl
 refine Fly.leave (s:=s) I.ok.frames rfl xa (.inl rfl) λh2 x2 up=>?_;refine⟨e,C,dx,del H e,_,rfl,I.os,I.bare,x2,hok,Ef,UK,⟨λb o z n hb _=>?_,λb o z n hb _=>?_,λb o z n _=>?_,λb o z _=>?_,λb xs z=>?_,λb o u z=>?_,λb ps z=>?_⟩,old,hE⟩
 ·obtain⟨o',z',k'⟩:=old b o z hb;rw[k' n]at z';exact x2.stays b o z'
 ·obtain⟨sl,z1⟩:=I.base.slot b o z n hb no0;obtain⟨_,o',z',nf⟩:=fr.mem (b:=b) (by show b∈frs st;rw[KU];exact cX _ hb);rw[z1]at z';cases z';obtain⟨HZ,z2⟩:=up b _ z1 nf;exact⟨HZ,z2⟩
 ·rw[ko (nb b o z)];exact I.base.free b o z n no0
 ·by_cases hb:b∈frs outer
  ·obtain⟨o1,z1⟩:=I.base.there b o z no0;obtain⟨_,o',z',nf⟩:=fr.mem (b:=b) (by show b∈frs st;rw[KU];exact cX _ hb);rw[z1]at z';cases z';obtain⟨HZ,z2⟩:=up b _ z1 nf;exact⟨_,z2⟩
  ·obtain⟨o',z',_⟩:=old b o z hb;exact⟨o',x2.stays b o' z'⟩
 ·have z1:=I.base.tups b xs z;rw[ko λw=>by rw[w,he]at z1;cases z1];exact z1
 ·have z1:=I.base.frzs b o u z;rw[ko λw=>by rw[w,he]at z1;cases z1];exact z1
 ·obtain⟨m,z1⟩:=I.base.tbls b ps z;exact⟨m,by rw[ko λw=>by rw[w,he]at z1;cases z1];exact z1⟩
end
theorem Xr {H:Hp}{a:Addr}{o:HO}(h:H a=some o):upd H a o=H:=by
 funext b;unfold upd;split
 ·rename_i q;rw[q,h]
 ·rfl
abbrev bmV:List aC:=[.type "ValueError",.type "Exception",.type "BaseException",.type "object"]
structure Kj (bm:List aC):Prop where
 hV:bm.contains (.type "ValueError")=true
 hA:bm.contains (.type "AttributeError")=false
 hN:bm.contains (.type "NameError")=false
 hB:bm.contains (.type "BaseException")=true
 hO:bm.contains (.type "object")=true
 pass:∀self:aC,zW self "__setattr__" bm=pure ()
theorem si:Kj bmV:=⟨by decide,by decide,by decide,by decide,by decide,PySem.F.store_ValueError.passes⟩
theorem Al (c:Addr):Kj (.ref c::bmV):=⟨by rw[gS,si.hV,lX],by rw[gS,si.hA];rfl,by rw[gS,si.hN];rfl,by rw[gS,si.hB,lX],by rw[gS,si.hO,lX],λself=>by rw[xE];exact si.pass self⟩
structure i5 (K:aB)(C:Addr):Prop where
 obj:∃nm q N bs bm sn sub ab col dd k0 k1 k2 k3 k5,K.lookup C=some (gX nm q C N bs bm true sn sub ab col dd k0 k1 k2 k3 k5 "ValueError.__new__")/\Kj bm
 sa:bK K (.ref C) "__setattr__"=some (some (.builtin "object.__setattr__"))
 ga:bK K (.ref C) "__getattribute__"=some (some (.builtin "BaseException.__getattribute__"))
 gt:bK K (.ref C) "__getattr__"=some none
 kp:aR K (.ref C)=true
section
variable {X:Cx}{f':List (Addr×Obj)}{σ:St}{H:Hp}{s:aG}{e C:Addr}{AS:Option Addr}
theorem Inv.xsame {h':Heap}{t1:Addr}(I:Inv X f' σ H s)(he:H e=some (ft e C AS))(kp:∀b o,b≠e->s.heap.get? b=some o->h'.get? b=some o)
  (hq:h'.get? e=some { cls:=.ref C,dict:=AS,data:=.fields #[.ref t1,.none,.none,.none,.bool false,.none] }) {t':Nat}:Inv X f' σ H { s with heap:=h',toks:=t' }:=by
 have:=I.write (x:=e) (e:=e) (o:=ft e C AS) (t':=t') (h':=h') (by rw[he];exact rF) (.inl rfl) kp ⟨_,hq⟩ (Bs hq)
 rwa [Xr he]at this
theorem ue {x:Str}{SW:Addr}{a:Expr}{es:List Expr}{t:TA}{p ap pos:Pos}{pl:Sem Bool}(hg:Gl X x)(hm:X.mg x=some (.ref SW))(MG:pJ X.K (.ref SW) "__getattribute__"=some (some (.builtin "type.__getattribute__")))
  (hr:qN X.K SW (.type "type")=true) (hf:qO X.K (.ref SW) (.type "type") "__init__"=some (.val (.builtin "ValueError.__init__"))) (ha:PA X (a::es) t)
  (C':(x == ("__debug__":Str))=false:=by decide) (he:cJ (a::es) X.env=(false,eval a X.env)::cJ es X.env:=by rfl) (BK:(jU pos (cJ es X.env)).any (·.1)=false:=by rfl)
  (ht:eval (.Call (.Attribute (.Name x p) "__init__" ap) (a::es) [] pos) X.env=(do
    let ov <-eval (.Name x p) X.env
    vL ap.atName
    let (f,first) <-rE [ov] (wK ov "__init__" pl)
    callWith pos f first (jU pos (cJ (a::es) X.env)) (vS pos (sE [] X.env))):=by rfl) :
  PE X (.Call (.Attribute (.Name x p) "__init__" ap) (a::es) [] pos) (λσ H Q=>t σ H λvs H1=>∃e C AS y,vs=[.ref e,y]/\H1 e=some (ft e C AS)/\i5 X.K C/\Q .non H1):=by
 intro f' s σ H Q I h;refine sW (pl:=pl) (j3 I hg hm ?_ C') ht;refine PySem.W.method_cls I.kIn MG (PySem.W.cls_value I.kIn hr hf (by decide +kernel) ?_);refine callWith_builtin1 (thn (ha pos f' _ σ H _ (I.tok (s.toks+1)) h) λus s1 AD=>?_) he BK;obtain⟨vs,H1,I1,r1,e,C,AS,y,ev,q1,c,q2⟩:=AD;subst ev;obtain⟨u1,u2,rfl,r2,r3⟩:=ua r1;obtain rfl:u1=bZ e:=r2;obtain⟨nm,q,N,bs,bm,sn,sub,ab,col,dd,k0,k1,k2,k3,k5,lk,T⟩:=c.obj;have hC:=I1.kIn _ _ lk;obtain⟨t0,hq⟩:=jy I1.hok q1;obtain⟨hh,g,d,tk,os⟩:=s1;refine M8 PySem.F.excBase_ValueError T.hV hC hq sz1 λh' t1 kp KW=>⟨.non,H1,I1.xsame q1 kp KW,rfl,q2⟩
theorem xo {o value:Expr}{f:Str}{pos BH:Pos}{ta tv:TE}(ha:PE X o ta)(hv:PE X value tv)(hs:qU value (some (.Attribute o f BH)) pos.line X.env=pure false) :
  PS X (.Assign [.Attribute o f BH] value pos) (λD σ H=>tv σ H λy H1=>ta σ H1 λx H2=>∃e C,x=.ref e/\i5 X.K C/\NoAttr X.K C f/\((H2 e=some (ft e C none)/\∀dx,H2 dx=none->dx≠e->D.nx σ (upd (upd H2 dx (.xd [(f,y)])) e (ft e C (some dx))))\/(∃dx fs,H2 e=some (ft e C (some dx))/\H2 dx=some (.xd fs)/\fs.length < 1000/\D.nx σ (upd H2 dx (.xd (ik f y fs)))))):=by
 intro f' s σ H D I h;refine plainObj_wpAny_Assign_Attribute (thn (hv f' s σ H _ I h) λu s1 AD=>?_) hs;obtain⟨y,H1,I1,ry,q⟩:=AD;refine thn (ha f' s1 σ H1 _ I1 q) λov s2 AD=>?_;obtain⟨x,H2,I2,rx,e,C,ex,c,n,q2⟩:=AD;subst ex;obtain rfl:ov=bZ e:=rx;obtain⟨nm,q,N,bs,bm,sn,sub,ab,col,dd,k0,k1,k2,k3,k5,lk,T⟩:=c.obj;have hC:=I2.kIn _ _ lk;have UO:=iL (M:=aS X.prog X.w) I2.kIn c.sa;have OS:=iL (M:=aS X.prog X.w) I2.kIn n;rcases q2 with⟨h1,q2⟩ | ⟨dx,fs,h1,h2,hl,q2⟩
 ·obtain⟨t0,hq⟩:=jy I2.hok h1;obtain⟨hh,g,d,tk,os⟩:=s2;refine M9 PySem.F.store_ValueError T.hO hC UO hq rfl λCS t'=>?_;refine U9 T.pass hC OS hq rfl (λc z=>by cases z) rfl λh' t2 dx nd ne sz hx ns kp=>⟨_,rfl,σ,_,?_,q2 dx (I2.hok.fresh sz) ne⟩;have OT:H2 dx=none:=I2.hok.fresh sz;have une:∀b u,hh.get? b=some u->b≠dx:=λb u z w=>(by rw[w,nd]at z;cases z);have FG:∀b u,H2 b=some u->u≠ft e C none->b≠e:=λb u z w y=>(by rw[y,h1]at z;exact w (cZ z).symm);have MI:∀b,b≠e->b≠dx->upd (upd H2 dx (.xd [(f,y)])) e (ft e C (some dx)) b=H2 b:=λb w z=>(by rw[ao w,ao z]);have AU:∀b u,H2 b=some u->u≠ft e C none->upd (upd H2 dx (.xd [(f,y)])) e (ft e C (some dx)) b=some u:=λb u z w=>by
   rw[MI b (FG b u z w) (aq z OT)];exact z
  refine I2.un (t':=t2) (h':=h') ⟨λb u z m _ _=>kp b u (λw=>by rw[w,h1]at m;cases m) z,λb u z m _ _=>⟨u.slots,kp b u (λw=>by rw[w,h1]at m;cases m) z⟩,λb u z m _=>by rw[MI b (λw=>by rw[w,h1]at m;cases m) (une b u z)];exact m,λb u z _=>?_,λb xs z=>AU b _ z (by intro w;cases w),λb u v z=>AU b _ z (by intro w;cases w),λb ps z=>⟨#[],by rw[AU b _ z (by intro w;cases w)];simp⟩⟩ λb u z=>?_
  ·by_cases w:b=e
   ·rw[w];exact⟨_,hx⟩
   ·exact⟨u,kp b u w z⟩
  ·by_cases w:b=e
   ·subst w;rw[af]at z;cases z;exact Bs hx
   ·rw[ao w]at z;by_cases w2:b=dx
    ·subst w2;rw[af]at z;cases z;refine⟨_,ns,λy'=>?_⟩;show RelO (lG y' [(f,y)]) (if y'=f then some u else none)
     by_cases w3:y'=f
     ·rw[if_pos w3,w3];simp[lG];exact ry
     ·rw[if_neg w3];have:lG y' [(f,y)]=none:=by
       show(match y' == f with | true=>some y | false=>none)=none
       rw[beq_eq_false_iff_ne.mpr w3]
      rw[this];trivial
    ·rw[ao w2]at z;refine(I2.hok b u z).stay (λc v hc z2=>kp c v ?_ z2) (λc z2=>AU c _ z2 (by intro w;cases w)) λc xs z2=>AU c _ z2 (by intro w;cases w);rcases hc with rfl | hc
     ·exact w
     ·exact FG c _ hc (by intro w;cases w)
 ·obtain⟨t0,hq⟩:=jy I2.hok h1;obtain⟨mA,ns,CK⟩:=(show ObjOk X.prog X.w H2 s2.heap dx (.xd fs)from I2.hok dx _ h2);obtain⟨hh,g,d,tk,os⟩:=s2;have wi:Within mA (fs.map (·.1)):=λy' hy=>by
   cases w:fs.lookup y' with
   |none=>
    have:=CK y';rw[w]at this;cases w2:mA y' with
    |none=>exact absurd w2 hy
    |some v=>rw[w2]at this;exact this.elim
   |some v=>exact List.mem_map.mpr ⟨(y',v),mQ w,rfl⟩
  refine M9 PySem.F.store_ValueError T.hO hC UO hq rfl λCS t'=>?_;refine Qb T.pass hC OS hq rfl rfl ns wi (by rw[aJ,iN];lia) λh' t2 UP kp=>⟨_,rfl,σ,_,?_,q2⟩;have hd:∃o,h'.get? dx=some o:=let ⟨o,_,_,z,_⟩:=UP;⟨o,z⟩;have FG:∀b u,H2 b=some u->u≠HO.xd fs->b≠dx:=λb u z w y=>(by rw[y,h2]at z;exact w (cZ z).symm);have AU:∀b u,H2 b=some u->u≠HO.xd fs->upd H2 dx (.xd (ik f y fs)) b=some u:=λb u z w=>(by rw[ao (FG b u z w)];exact z);have nd:∀b,H2 b=none->b≠dx:=λb m w=>(by rw[w,h2]at m;cases m);refine I2.un (t':=t2) (h':=h') ⟨λb u z m _ _=>kp b u (nd b m) z,λb u z m _ _=>⟨u.slots,kp b u (nd b m) z⟩,λb u z m _=>by rw[ao (nd b m)];exact m,λb u z _=>?_,λb xs z=>AU b _ z (by intro w;cases w),λb u v z=>AU b _ z (by intro w;cases w),λb ps z=>⟨#[],by rw[AU b _ z (by intro w;cases w)];simp⟩⟩ λb v z=>?_
  ·by_cases w:b=dx
   ·rw[w];exact hd
   ·exact⟨u,kp b u w z⟩
  ·by_cases w:b=dx
   ·subst w;rw[af]at z;cases z;refine⟨_,UP,λy'=>?_⟩;show RelO ((ik f y fs).lookup y') (if y'=f then some u else mA y')
    rw[qt];by_cases w:y'=f
    ·rw[if_pos w,if_pos w];exact ry
    ·rw[if_neg w,if_neg w];exact CK y'
   ·rw[ao w]at z;refine(I2.hok b v z).stay (λc v' hc z2=>kp c v' ?_ z2) (λc z2=>AU c _ z2 (by intro w;cases w)) λc xs z2=>AU c _ z2 (by intro w;cases w);rcases hc with rfl | hc
    ·exact w
    ·exact FG c _ hc (by intro w;cases w)
theorem Bt {o:Expr}{f:Str}{pos:Pos}{ta:TE}(ho:PE X o ta)(hb:nP o f X.env (eval o X.env)=eval o X.env) :
  PE X (.Attribute o f pos) (λσ H Q=>ta σ H λx H1=>∃e C fs v,x=.ref e/\i5 X.K C/\NoAttr X.K C f/\XAs H1 e C fs/\fs.lookup f=some v/\Q v H1):=by
 intro f' s σ H Q I h;refine Hz hb (thn (ho f' s σ H _ I h) λu s1 AD=>?_);obtain⟨x,H1,I1,rx,e,C,fs,v,ex,c,n,⟨dx,xa,hd⟩,lf,q⟩:=AD;subst ex;obtain rfl:u=bZ e:=rx;obtain⟨nm,qn,N,bs,bm,sn,sub,ab,col,dd,k0,k1,k2,k3,k5,lk,T⟩:=c.obj;have hC:=I1.kIn _ _ lk;have lga:=iL (M:=aS X.prog X.w) I1.kIn c.ga;have lgt:=iL (M:=aS X.prog X.w) I1.kIn c.gt;have OS:=iL (M:=aS X.prog X.w) I1.kIn n;have ob:∃oe vs,s1.heap.get? e=some oe/\oe.cls=.ref C/\oe.dict=some dx/\oe.data=.fields vs:=by
  rcases xa with xa | xa
  ·obtain⟨t0,z⟩:=jy I1.hok xa;exact⟨_,_,z,rfl,rfl,rfl⟩
  ·exact Ee I1.hok xa
 obtain⟨oe,vs,z1,z2,z3,z4⟩:=ob;obtain⟨mA,ns,CK⟩:=(show ObjOk X.prog X.w H1 s1.heap dx (.xd fs)from I1.hok dx _ hd);obtain⟨u',hu,ru⟩:=RelO.some_of (v:=v) (o:=mA f) (by rw[<-lf];exact CK f);have tk:=I1.tok (s1.toks+1);obtain⟨hh,g,d,t,os⟩:=s1;refine Zo PySem.F.attrBase_ValueError T.hB hC OS lga lgt z1 z2 z4 z3 ns.ns hu (PySem.W.handedOut_of (Ci ru)) ⟨v,H1,tk,ru,q⟩
end
section
variable {X:Cx}{x:Str}{C fI:Addr}{k:Nat}{fd:bQ}{ps:List Str}{sp:Sp}{a:Expr}{es:List Expr}{t:TA}{p pos:Pos}
theorem uf (c:i5 X.K C)(hi:bK X.K (.ref C) "__init__"=some (some (.ref fI)))(lf:∃oI,X.K.lookup fI=some oI/\oI.cls=.type "function")(F:FnOk X.prog X.w X.K X.mg X.base CX0 k fI fd ps sp)(hr:Room (k+1) X.A)
  (hg:Gl X x) (hm:X.mg x=some (.ref C)) (hb:Binds X.K fd ps []) (ha:PA X (a::es) t) (C':(x == ("__debug__":Str))=false:=by decide)
  (he:cJ (a::es) X.env=(false,eval a X.env)::cJ es X.env:=by rfl) (BK:(jU pos (cJ es X.env)).any (·.1)=false:=by rfl) :
  PE X (.Call (.Name x p) (a::es) [] pos) (λσ H Q=>t σ H λvs H1=>vs.length<=100/\∀e,H1 e=none->sp (.ref e::vs) (upd H1 e (ft e C none)) (λv H2=>v=.non/\Q (.ref e) H2) E0):=by
 intro f' s σ H Q I h;refine jZ (j3 I hg hm ?_ C');refine nB (h₀:=X.base) I.ok.mod.kin c.kp (thn (ha pos f' s σ H _ I h) λus s1 AD=>?_) he BK;obtain⟨vs,H1,I1,r,hl,q⟩:=AD;refine⟨I1.kIn,?_⟩;show aL _ _ (call (.ref C) us) _ _ _;obtain⟨nm,qn,N,bs,bm,sn,sub,ab,col,dd,k0,k1,k2,k3,k5,lk,T⟩:=c.obj;obtain⟨oI,lI,cI⟩:=lf;have hC:=I1.kIn _ _ lk;have hI:=I1.kIn _ _ lI;have li:=iL (M:=aS X.prog X.w) I1.kIn hi;have hz:us.length<=sizeLine:=(by rw[<-r.length,iN];lia);obtain⟨hh,g,d,tk,os⟩:=s1;refine M7 PySem.F.excBase_ValueError T.hV T.hA T.hN hC li hI cI (λh' e sz me=>?_) hz;obtain⟨t0,JS,_⟩:=me.there;have fr:H1 e=none:=I1.hok.fresh sz;have I2:Inv X f' σ (upd H1 e (ft e C none)) ⟨h',g,d,tk,os⟩:=I1.laid (t':=tk) (h':=h') me.keeps sz (Bs JS);have hq:=q e fr;have r2:Vals (V.ref e::vs) (bZ e::us):=.cons rfl r;have AR:(bZ e::us++[]).length=ps.length:=by
  have z:=r2.length;rw[F.len _ _ _ _ hq]at z;rw[nI];exact z.symm
 have bd:=hb _ (bZ e::us) I2.kIn AR;rw[nI]at bd;refine rG (lU (F.run _ X.stack _ _ ⟨bZ e::us,[]⟩ (bZ e::us) _ _ E0 (hr.make C us []) (I2.env0.make C us []) bd r2 hq) λr s' DP=>?_);cases r with
 |error e=>exact iG DP
 |ok fl=>
  cases fl with
  |ret u=>
   obtain⟨v,H',I3,rv,ev,q3⟩:=I2.after DP;subst ev;exact⟨rv,⟨V.ref e,H',I3,rfl,q3⟩⟩
  |next=>exact iG DP
  |brk=>exact iG DP
  |cont=>exact iG DP
theorem Am {M:sO}{A:cC}{E:aC->aG->Prop}{Q Q':Str->aG->Prop}(hQ:∀o s,Q o s->Q' o s):∀(parts:List (Sem aC))(AL:Str) (s:aG),Joins M A E parts AL Q s->Joins M A E parts AL Q' s
 | [],_,_,h=>hQ _ _ h
 |_::rest,_,_,h=>gB h (λ_ s1 ⟨y,t,e,l,r⟩=>⟨y,t,e,l,Am hQ rest _ s1 r⟩) λ_ _ z=>z
def so:V->Prop
 | .int i=>i.natAbs.log2 < 1000
 | .str x=>(qY x).length<=2000
 |_=>False
def PJ (X:Cx)(es:List Expr)(t:St->Hp->(Hp->Prop)->Prop):Prop:=
 ∀(f':List (Addr×Obj))(s:aG) (σ:St) (H:Hp) (AL:Str) (R:Hp->Prop),Inv X f' σ H s->AL.length+3000 * es.length<=1000000->t σ H R->
  Joins (aS X.prog X.w) X.A X.xe (wB es X.env) AL (λout s1=>out.length<=sizeLine/\∃H',Inv X f' σ H' s1/\R H') s
theorem Nc:PJ X [] (λ_ H R=>R H):=λ_ s _ H AL R I hl h=>⟨by rw[iN];simp at hl;lia,H,I,h⟩
theorem Eg {z:Str}{j:Nat}{q:Pos}{t:St->Hp->(Hp->Prop)->Prop}(hz:z.length<=2000)(hr:PJ X es t)(hs:wB (.Constant (.str z) j q::es) X.env=eval (.Constant (.str z) j q) X.env::wB es X.env:=by rfl):PJ X (.Constant (.str z) j q::es) t:=by
 intro f' s σ H AL R I hl h;rw[hs];have LP:AL.length+3000 * (es.length+1)<=1000000:=hl;have e1:(AL++z).length=AL.length+z.length:=oQ AL z;refine Calls.Constant_str ⟨z,_,rfl,by rw[e1,iN];lia,hr f' _ σ H (AL++z) R (I.tok _) (by rw[e1];lia) h⟩
theorem Ih {v:Expr}{tv:TE}{q:Pos}{t:St->Hp->(Hp->Prop)->Prop}(hv:PE X v tv)(hr:PJ X es t)(hs:wB (.FormattedValue v 114 none q::es) X.env=eval (.FormattedValue v 114 none q) X.env::wB es X.env:=by rfl) :
  PJ X (.FormattedValue v 114 none q::es) (λσ H R=>tv σ H λy H1=>so y/\t σ H1 R):=by
 intro f' s σ H AL R I hl h;rw[hs];have LP:AL.length+3000 * (es.length+1)<=1000000:=hl;have AK:∀(z:Str)(H1:Hp) (s1:aG) (tk:Tok),Inv X f' σ H1 s1->z.length<=2000->t σ H1 R->
   aL (aS X.prog X.w) X.A (formatField (.str z tk) yF) (λw s2=>∃y t',w=.str y t'/\(AL++y).length<=sizeLine/\Joins (aS X.prog X.w) X.A X.xe (wB es X.env) (AL++y) (λout s1=>out.length<=sizeLine/\∃H',Inv X f' σ H' s1/\R H') s2) X.xe s1:=by
  intro z H1 s1 tk I1 hz h1;have e1:(AL++z).length=AL.length+z.length:=oQ AL z;have UQ:(AL++z).length<=sizeLine:=(by rw[e1,iN];lia);refine wpAny_formatField_str ⟨z,_,rfl,UQ,hr f' _ σ H1 (AL++z) R I1 (by rw[e1];lia) h1⟩ ⟨z,_,rfl,UQ,hr f' _ σ H1 (AL++z) R (I1.tok _) (by rw[e1];lia) h1⟩ (by rw[iN];lia)
 refine wpAny_FormattedValue_repr (thn (hv f' s σ H _ I h) λu s1 AD=>?_);obtain⟨y,H1,I1,ry,rk,h1⟩:=AD;cases y with
 |int i=>
  obtain⟨tk,rfl⟩:=(show ∃t,u=oR i t from ry);have rk:i.natAbs.log2 < 1000:=rk;have len:(hX (toString i)).length<=2000:=by
   rw[PySem.ofString_length];have:=int_text_length_le (k:=1000) (by decide) rk;lia
  refine wpAny_pyReprObj_gives (T:="int") (vK _ i tk) PySem.F.slot_int_repr PySem.F.entry_int_repr (by unfold yO;kernel_rfl) (gives_int_repr i tk (by lia)) ?_ rfl (by rw[iN];lia);exact AK _ H1 _ _ (I1.tok _) len h1
 |str z=>
  obtain⟨tk,rfl⟩:=(show ∃t,u=wH z t from ry);have rk:(qY z).length<=2000:=rk;exact wpAny_pyReprObj_str (AK _ H1 _ _ (I1.tok _) rk h1) (by rw[iN];lia)
 |_=>exact iG rk
theorem Ii {v1 v2:Expr}{rest:List Expr}{t:St->Hp->(Hp->Prop)->Prop}(h:PJ X (v1::v2::rest) t)(hl:rest.length<=100):PE X (.JoinedStr (v1::v2::rest) pos) (λσ H Q=>t σ H λH1=>∀z:Str,Q (.str z) H1):=by
 intro f' s σ H Q I q;refine wpAny_JoinedStr ?_;have e0:Str.empty.length=0:=rfl;have:=h f' s σ H yF _ I (by rw[e0];show 0+3000 * (rest.length+1+1)<=_;lia) q;exact Am (λout s1 AD=>by obtain⟨z,H',I',q'⟩:=AD;exact⟨z,.str out,H',I'.tok _,⟨_,rfl⟩,q' out⟩) _ _ _ this
end
section
variable {P:aU}{w:aZ}{K:aB}{mg:Str->Option aC}{base:Heap}{N:List Str}{AI:Str}{scope:gQ}{f:Addr}{cd:aC}{A:cC}{outer:List Env}{s0:aG}{H0:Hp}{E:XK}{C:Addr}{ex:Expr}{te:TE}{pos:Pos}
theorem ug (c:i5 K C)(he:PE (bh (CXx P w) P w K mg base N AI scope f cd A outer s0 H0 E) ex te) :
  PS (bh (CXx P w) P w K mg base N AI scope f cd A outer s0 H0 E) (.Raise (some ex) none pos) (λ_ σ H=>te σ H λx H1=>∃e dx,x=.ref e/\H1 e=some (ft e C dx)/\H0 e=none/\E (.ref C) dx (del H1 e)):=by
 intro f' s σ H D I h;obtain⟨nm,qn,Nn,bs,bm,sn,sub,ab,col,dd,k0,k1,k2,k3,k5,lk,T⟩:=c.obj;refine Ki (C:=C) (nm:=nm) (q:=qn) (N:=Nn) (bs:=bs) (bm:=bm) (hdct:=true) (sn:=sn) (sub:=sub) (ab:=ab) (col:=col) (dd:=dd) (k0:=k0) (k1:=k1) (k2:=k2) (k3:=k3) (k5:=k5) (newId:="ValueError.__new__") T.hB (I.ok.hd rfl) (thn (he f' s σ H _ I h) λu s1 AD=>?_);obtain⟨x,H1,I1,rx,e,dx,ex,h1,h0,hE⟩:=AD;subst ex;obtain rfl:u=bZ e:=rx;obtain⟨t0,q⟩:=jy I1.hok h1;exact⟨e,t0,_,rfl,I1.kIn _ _ lk,q,Xq I1 h1 h0 hE⟩
end
end L2
namespace Fly
open PySem
open Sem (wp)
section
variable {prog:aU}{w:aZ}{A:cC}{E:aC->aG->Prop}{h:Heap}{g:Array pO}{d:zL}{t:Nat}{os:AB}
variable {nm q:Str}{C N x:Addr}{bs bm EV:List aC}{hdct:Bool}{sn:List Str}{sub:List aC}{ab:Bool}{col:Option Bool}{dd:Option Addr}{k0 k1 k2 k3 k5:Option aC}{B newId:String}{o:Obj}
theorem Vc {R:xC->aG->Prop}(cO:bm.contains (.type "object")=true)(hC:h.get? C=some (gX nm q C N bs bm hdct sn sub ab col dd k0 k1 k2 k3 k5 newId))(hx:h.get? x=some o)(hc:o.cls=.ref C)(hq:R (.ok (.ret (.ref C))) ⟨h,g,d,t,os⟩) :
  oA (aS prog w) A (.call (.builtin "getset_descriptor.__get__") ⟨[.builtin "object.__class__",.ref x,.ref C],[]⟩) R ⟨h,g,d,t,os⟩:=by
 have f5:(⟨h,g,d,t,os⟩:aG).TypeIs (.builtin "object.__class__") "getset_descriptor":=F.typeOf_object_class;have c1:(bZ C::bm).contains (.type (".".intercalate ("object.__class__".cutAt '.').dropLast))=true:=(by rw[F.owner_object_class,gS,cO,lX]);refine lY F.slot_gs_get.plain F.entry_gs_get (F.slot_gs_get.check _ _ _ _ _ _ _ _ f5 (F.args_gs_get _ _ _) ?_)
 repeat (any_goals (first
   |assumption
   | (with_reducible refine eQ hx ?_;rw[hc])
   | (with_reducible refine jT hC ?_;rw[c1])
   |wp_step))
 refine⟨oW _ (by decide +kernel),nL F.entry_object_class ?_⟩
 repeat (any_goals (first
   |assumption
   | (with_reducible refine eQ hx ?_;rw[hc])
   |wp_step))
theorem Nd {tk:Tok}{Q:Fin->aG->Prop}(cO:bm.contains (.type "object")=true)(hC:h.get? C=some (gX nm q C N bs bm hdct sn sub ab col dd k0 k1 k2 k3 k5 newId))(EW:km (aS prog w) h (jI (.ref C) "__class__") (some (.builtin "object.__class__")))
  (hx:h.get? x=some o) (hc:o.cls=.ref C) (hq:Q (.done (.ret (.ref C))) ⟨h,g,d,t,os⟩):aL (aS prog w) A (iI.«object.__getattribute__» ⟨[.ref x,.str "__class__" tk],[]⟩) Q E ⟨h,g,d,t,os⟩:=by
 have f5:(⟨h,g,d,t,os⟩:aG).TypeIs (.builtin "object.__class__") "getset_descriptor":=F.typeOf_object_class;have f4:=F.typeOf_object_class;have f6:=F.slot_gs_get.lookup;have f7:=F.slot_gs_set.lookup;have kk:∀b u,h.get? b=some u->h.get? b=some u:=λ_ _ z=>z
 repeat (any_goals (first
   |assumption
   | (with_reducible refine eQ hx ?_;rw[hc])
   | (with_reducible refine EW _ _ _ _ kk ?_)
   |wp_step))
 refine Vc cO hC hx hc ?_
 repeat (any_goals (first | assumption | wp_step))
theorem Qc {Q:Option aC->aG->Prop}(FB:ExcAttrBase B EV)(cB:bm.contains (.type "BaseException")=true)(cO:bm.contains (.type "object")=true)
  (hC:h.get? C=some (gX nm q C N bs bm hdct sn sub ab col dd k0 k1 k2 k3 k5 newId)) (EW:km (aS prog w) h (jI (.ref C) "__class__") (some (.builtin "object.__class__")))
  (MG:km (aS prog w) h (jI (.ref C) "__getattribute__") (some (.builtin "BaseException.__getattribute__"))) (RA:km (aS prog w) h (jI (.ref C) "__getattr__") none)
  (hx:h.get? x=some o) (hc:o.cls=.ref C) (hq:Q (some (.ref C)) ⟨h,g,d,t+1,os⟩):aL (aS prog w) A (getAttr? (.ref x) "__class__") Q E ⟨h,g,d,t,os⟩:=by
 have f3:=FB.ga.bind (.ref x);have z0:(false && yP (lN "BaseException.__getattribute__"))=false:=rfl;have z2:(lN "BaseException.__getattribute__" == lN "object.__getattribute__")=false:=(by decide +kernel);have z1:(yP (bZ C) && lN "BaseException.__getattribute__" == lN "object.__getattribute__")=false:=(by rw[z2];rfl);have kk:∀b u,h.get? b=some u->h.get? b=some u:=λ_ _ z=>z;have RB:∀{tk:Tok}{Q:aC->aG->Prop}{E:aC->aG->Prop}{t':Nat},Q (.ref C) ⟨h,g,d,t',os⟩->aL (aS prog w) A (getAttrBy (.ref x) (.str "__class__" tk) false) Q E ⟨h,g,d,t',os⟩:=by
  intro tk Q E t' hq
  repeat (any_goals (first
    |assumption
    | (with_reducible refine eQ hx ?_;rw[hc])
    | (with_reducible refine MG _ _ _ _ kk ?_)
    | (with_reducible refine RA _ _ _ _ kk ?_)
    |wp_step))
  refine lY FB.ga.plain F.entry_bexc_ga ?_;show aL _ _ (iX "BaseException.__getattribute__" ⟨[.ref x,.str "__class__" tk],[]⟩) _ _ _;refine Na hC cB hx hc ?_;show aL _ _ (iI.«object.__getattribute__» ⟨[.ref x,.str "__class__" tk],[]⟩) _ _ _;refine Nd cO hC EW hx hc ?_
  repeat (any_goals (first
    |assumption
    |wp_step))
 unfold getAttr? getAttrBy?
 repeat (any_goals (first | assumption | with_reducible apply RB | wp_step))
end
end Fly
namespace L2
open PySem PySem.Spec PyProof.Rows Fly
section
variable {X:Cx}{f':List (Addr×Obj)}{σ:St}{H H':Hp}{s s':aG}{e C:Addr}{dx:Option Addr}{B h2:Heap}
theorem Inv.caught (I:Inv X f' σ H s)(os:s'.os=s.os)(bare:qG s'.gens)(xa:XAt B X.stack e (.ref C) dx (some .none) s'.heap)(x2:XAt B X.stack e (.ref C) dx (some .none) h2)(up:s'.heap.UpToSlots h2)
  (hok:HOk X.prog X.w H' B) (he:H' e=none) (hn:s.heap.get? e=none) (un:Un (frs X.stack) [] H H' s.heap s'.heap)
  (old:∀b o,s.heap.get? b=some o->b ∉ frs X.stack->∃o',B.get? b=some o'/\(H b=none->o'=o)) {t':Nat}:Inv X f' σ (upd H' e (qv e C dx)) { s' with heap:=h2,toks:=t' }:=by
 have ne:∀b o,s.heap.get? b=some o->b≠e:=λb o z w=>(by rw[w,hn]at z;cases z);have FG:∀b o,H' b=some o->b≠e:=λb o z=>aq z he;have fr:∀b o,b∈frs X.stack->s'.heap.get? b=some o->∃sl,h2.get? b=some { o with slots:=sl }:=λb o hb q=>by
  obtain⟨_,o',q',nf⟩:=xa.frames.mem hb;rw[q]at q';cases q';exact up b o q nf
 obtain⟨oe,vs,z1,z2,z3,z4,_⟩:=x2.obj;refine I.call' (s':={ s' with heap:=h2,toks:=t' }) (ch:=[]) os ⟨λb o q n hb _=>?_,λb o q n hb _=>?_,λb o q n _=>?_,λb o q _=>?_,λb xs q=>?_,λb o u q=>?_,λb ps q=>?_⟩ (λb o z=>?_) bare λb hb=>absurd hb no0
 ·obtain⟨o',q',k'⟩:=old b o q hb;rw[k' n]at q';exact x2.stays b o q'
 ·obtain⟨sl,q1⟩:=un.slot b o q n hb no0;obtain⟨HZ,q2⟩:=fr b _ hb q1;exact⟨HZ,q2⟩
 ·rw[ao (ne b o q)];exact un.free b o q n no0
 ·by_cases hb:b∈frs X.stack
  ·obtain⟨o1,q1⟩:=un.there b o q no0;obtain⟨sl,q2⟩:=fr b o1 hb q1;exact⟨_,q2⟩
  ·obtain⟨o',q',_⟩:=old b o q hb;exact⟨o',x2.stays b o' q'⟩
 ·have z:=un.tups b xs q;rw[ao (FG b _ z)];exact z
 ·have z:=un.frzs b o u q;rw[ao (FG b _ z)];exact z
 ·obtain⟨m,z⟩:=un.tbls b ps q;exact⟨m,by rw[ao (FG b _ z)];exact z⟩
 ·by_cases hb:b=e
  ·subst hb;rw[af]at z;cases z;exact Va z1 z2 z3 z4
  ·rw[ao hb]at z;exact(hok b o z).stay (λc u _ y=>x2.stays c u y) (λc y=>by rw[ao (FG c _ y)];exact y) λc xs y=>by rw[ao (FG c _ y)];exact y
theorem Inv.unset {i:Nat}{n:Str}{m:Str->Option aC}{u:Option aC}{h':Heap}{t':Nat}(I:Inv X f' σ H s)(hN:X.N.Nodup)(hi:X.N[i]?=some n)(hn:s.heap.Ns X.env.locals m)
  (hl:∀(j:Nat)(y:Str) (v:V),X.N[j]?=some y->σ[j]?=some (some v)->Vis X.env.scope y->∃u,RelV v u/\W7 X.env s.heap m y u)
  (GZ:h'.Ns X.env.locals (λx=>if x=n then u else m x)) (hs:gI X.env.locals s.heap h'):Inv X f' (σ.set i none) H { s with heap:=h',toks:=t' }:=by
 have cne:=I.cne;have ab:∀b o,X.s₀.heap.get? b=some o->b≠X.env.locals:=λb o e=>cE (eI (aW e) I.ok.above);refine⟨I.ok,I.os,I.bare,⟨λb o e n hb hx=>(hs.2 b (ab b o e)).trans (I.base.keep b o e n hb hx),λb o e n hb hx=>?_,I.base.free,λb o e hx=>?_,I.base.tups,I.base.frzs,I.base.tbls⟩,⟨_,GZ,λj y v e1 e2 e3=>?_⟩,λy c e=>?_,I.free,I.freeC,λp hp=>?_,λb o e=>?_,by simpa using I.len⟩
 ·obtain⟨sl,e1⟩:=I.base.slot b o e n hb hx;exact⟨sl,(hs.2 b (ab b o e)).trans e1⟩
 ·obtain⟨o',e1⟩:=I.base.there b o e hx;exact⟨o',(hs.2 b (ab b o e)).trans e1⟩
 ·by_cases hj:j=i
  ·subst hj;have hz:j < σ.length:=(by rw[I.len];exact(aM.mp hi).1);rw[pF hz]at e2;cases e2
  ·rw[tM (Ne.symm hj)]at e2;obtain⟨u',r',q⟩:=hl j y v e1 e2 e3;refine⟨u',r',?_⟩;rcases q with⟨k,z⟩ | ⟨k,c,z,w⟩
   ·refine .inl ⟨k,?_⟩;have:y≠n:=λe=>hj (yk hN e1 (e ▸ hi));simp[this,z]
   ·exact .inr ⟨k,c,z,w.sameBut hs (cne y c z)⟩
 ·obtain⟨v,z⟩:=I.cell y c e;exact⟨v,z.sameBut hs (cne y c e)⟩
 ·obtain⟨e,n,ne,nf,d⟩:=I.pin p hp;exact⟨(hs.2 p.1 ne).trans e,n,ne,nf,d⟩
 ·refine(I.hok b o e).stay (λc v hc q=>(hs.2 c ?_).trans q) (λ_ q=>q) λ_ _ q=>q;intro AC;subst AC;rcases hc with w | hc
  ·rw[<-w,I.free]at e;cases e
  ·rw[I.free]at hc;cases hc
end
section
variable {X:Cx}{x c n y:Str}{f SW:Addr}{fd:bQ}{k i j:Nat}{ps:List Str}{sp:Sp}{a:Expr}{es:List Expr}{t:TA}{p pos pe pc py pn pa ph tp:Pos}
end
theorem Nf {K:aB}{e C:Addr}(c:i5 K C)(EW:bK K (.ref C) "__class__"=some (some (.builtin "object.__class__"))) :
  PySem.W.KitX K (.ref e) (.ref C) (λh=>∃oe vs,h.get? e=some oe/\oe.cls=.ref C/\oe.data=.fields vs) where
 ty:=λM h X ⟨oe,vs,z1,z2,_⟩=>by
  rw[<-z2];exact(PySem.W.Looks.ld z1).andThen .now
 it:=λM h X _=>by
  obtain⟨nm,q,N,bs,bm,sn,sub,ab,col,dd,k0,k1,k2,k3,k5,lk,T⟩:=c.obj;intro A' Q' E' s' k q;unfold isType loadHead;exact aA (wpAny_loadPart (k _ _ (X _ _ lk)) (wpAny_pure q))
 ne:=λh tp dd its n sl X htp=>by
  obtain⟨nm,q,N,bs,bm,sn,sub,ab,col,MJ,k0,k1,k2,k3,k5,lk,T⟩:=c.obj;refine vH.mpr λz=>?_;have w:C=tp:=Value.ref.inj (beq_iff_eq.mp z);subst w;have z:=congrArg (pV Obj.cls) ((X _ _ lk).symm.trans htp);have z':some (pM "type")=some (pM "tuple"):=z;exact absurd z' (by decide)
 ca:=λ{prog w A E Q s} X ⟨oe,vs,z1,z2,_⟩ hq=>by
  obtain⟨nm,q,N,bs,bm,sn,sub,ab,col,dd,k0,k1,k2,k3,k5,lk,T⟩:=c.obj;obtain⟨hh,g,d,t,os⟩:=s;exact Qc PySem.F.attrBase_ValueError T.hB T.hO (X _ _ lk) (iL X EW) (iL X c.ga) (iL X c.gt) z1 z2 hq
def IsX (H:Hp)(e C:Addr):Prop:=(∃AS,H e=some (ft e C AS))\/∃dx,H e=some (qv e C dx)
theorem IsX.get {P:aU}{w:aZ}{H:Hp}{h:Heap}{e C:Addr}(x:HOk P w H h)(i:IsX H e C):∃oe vs,h.get? e=some oe/\oe.cls=.ref C/\oe.data=.fields vs:=by
 rcases i with⟨AS,i⟩ | ⟨dx,i⟩
 ·obtain⟨t0,z⟩:=jy x i;exact⟨_,_,z,rfl,rfl⟩
 ·obtain⟨oe,vs,z1,z2,_,z3⟩:=Ee x i;exact⟨oe,vs,z1,z2,z3⟩
theorem XAs.isX {H:Hp}{e C:Addr}{fs:List (Str×V)}(x:XAs H e C fs):IsX H e C:=by
 obtain⟨dx,i | i,_⟩:=x
 ·exact .inl ⟨_,i⟩
 ·exact .inr ⟨_,i⟩
section
variable {X:Cx}
def Qd:V->Option aC
 | .ref a=>some (.ref a)
 | .ty n=>some (.type n)
 |_=>none
theorem Eh {v:V}{u c:aC}(r:RelV v u)(e:Qd v=some c):u=c:=by
 cases v with
 |ref a=>cases e;exact r
 |ty n=>cases e;exact r
 |_=>cases e
def rIsx (K:aB):List V->Hp->VK->Prop:=λxs H Q=>∃e C y c b,xs=[.ref e,y]/\IsX H e C/\i5 K C/\bK K (.ref C) "__class__"=some (some (.builtin "object.__class__"))/\Qd y=some c/\eP K (.ref C) c=some b/\Q (.bl b) H
theorem px:jw X (.builtin "isinstance") (rIsx X.K):=by
 intro f' s σ H xs us Q I r ⟨e,C,y,c,b,ex,ix,cl,EW,hc,hk,q⟩;subst ex;obtain⟨u1,u2,rfl,r1,r2⟩:=ua r;obtain rfl:u1=bZ e:=r1;obtain rfl:=Eh r2 hc;refine PySem.W.kia_one (Nf cl EW) I.kIn (ix.get I.hok) hk ?_ λtk=>⟨.bl b,H,I.tok tk,rfl,q⟩;intro z;cases y<;>cases hc<;>cases z
def S0:List V->List aC->Prop:=Paired λv c=>Qd v=some c
theorem Ct:∀{xs:List V}{us cs:List aC},Vals xs us->S0 xs cs->us=cs
 | [],_,_,.nil,.nil=>rfl
 |_::_,_,_,.cons r rs,.cons e es=>by rw[Eh r e,Ct rs es]
def Zp (K:aB):List V->Hp->VK->Prop:=λxs H Q=>∃e C tp ys cs b,xs=[.ref e,.ref tp]/\IsX H e C/\i5 K C/\bK K (.ref C) "__class__"=some (some (.builtin "object.__class__"))/\H tp=some (.tup ys)/\S0 ys cs/\pK K (.ref C) cs=some b/\Q (.bl b) H
theorem Ng:jw X (.builtin "isinstance") (Zp X.K):=by
 intro f' s σ H xs us Q I r ⟨e,C,tp,ys,cs,b,ex,ix,cl,EW,ht,hc,hk,q⟩;subst ex;obtain⟨u1,u2,rfl,r1,r2⟩:=ua r;obtain rfl:u1=bZ e:=r1;obtain rfl:u2=bZ tp:=r2;obtain⟨_,its,rv,o,h1,h2,n,h3⟩:=(show ObjOk X.prog X.w H s.heap tp (.tup ys)from I.hok tp _ ht);obtain rfl:=Ct rv hc;obtain⟨oc,od,QZ,FA⟩:=o;obtain rfl:oc=.type "tuple":=h2;obtain rfl:QZ=.seq its.toArray n:=h3;exact PySem.W.kia_tup (Nf cl EW) I.kIn (ix.get I.hok) h1 hk (λz=>nomatch z) λtk=>⟨.bl b,H,I.tok tk,rfl,q⟩
end
open Sem (wp)
open AutoSeq1 (wpAny_loadPart')
theorem Hh (l:Addr)(items:Array aC) :
  Meets (iI.«enumerate.__new__» ⟨[.type "enumerate",.ref l],[]⟩) (λ_ R s=>s.heap.IsTuple l items/\R (.ok (.ret (.ref (s.heap.push { cls:=.type "tuple_iterator",data:=.fields #[.ref l,.int 0 0] }).objs.size))) { s with heap:=(s.heap.push { cls:=.type "tuple_iterator",data:=.fields #[.ref l,.int 0 0] }).push { cls:=.type "enumerate",data:=.fields #[.none,.bool false,.ref s.heap.objs.size,iU 0,.none,.none] } }):=
 .of_wp λprog w A R s h=>by
  obtain⟨hp,g,d,tk,os⟩:=s;obtain⟨hL,h⟩:=h;have DE:=sub_enumerate;have HD:yN (sM ⟨hp,g,d,tk,os⟩) l items:=hL
  wp_walk using lO HD
  refine wpAny_stack_any λst=>wpAny_pure ?_
  split
  ·rename_i c _ _ _ _ _
   cases(c == pM "enumerate")
   ·wp_walk using lO HD
    exact⟨_,rfl,h⟩
   ·wp_walk using lO HD
    exact⟨_,rfl,h⟩
  ·wp_walk using lO HD
   exact⟨_,rfl,h⟩
section
variable {prog:aU}{w:aZ}{A:cC}{E:aC->aG->Prop}{s:aG}
theorem Kk {l:Addr}{items:Array aC}{Q:aC->aG->Prop}(hL:s.heap.IsTuple l items)
  (h:∀h',lJ h' (s.heap.objs.size+1) s.heap.objs.size 0 .none->h'.IsTupleIter s.heap.objs.size l 0->h'.objs.size=s.heap.objs.size+2->(∀b o,s.heap.get? b=some o->h'.get? b=some o)->Q (.ref (s.heap.objs.size+1)) { s with heap:=h' }) :
  aL (aS prog w) A (call (.type "enumerate") [.ref l]) Q E s:=by
 refine vZ F.called_enumerate (by decide) (F.typeCall_enumerate_1 _) (F.newCall_enumerate_1 _) (λobj=>F.args_object_init_2 obj _) F.entry_enumerate_new (Hh l items) ⟨hL,?_⟩;have hz:(s.heap.push { cls:=.type "tuple_iterator",data:=.fields #[.ref l,.int 0 0] }).objs.size=s.heap.objs.size+1:=eY ..;show _/\_;rw[hz];have he:lJ ((s.heap.push { cls:=.type "tuple_iterator",data:=.fields #[.ref l,.int 0 0] }).push { cls:=.type "enumerate",data:=.fields #[.none,.bool false,.ref s.heap.objs.size,iU 0,.none,.none] }) (s.heap.objs.size+1) s.heap.objs.size 0 .none:=by
  have z:=aY (s.heap.push { cls:=.type "tuple_iterator",data:=.fields #[.ref l,.int 0 0] }) (o:={ cls:=.type "enumerate",data:=.fields #[.none,.bool false,.ref s.heap.objs.size,iU 0,.none,.none] }) rfl;rw[hz]at z;exact z
 exact⟨⟨_,he,rfl⟩,h _ he ⟨_,aI _ (aY _ rfl),rfl,rfl⟩ (by rw[eY,hz]) λb o x=>aI _ (aI _ x)⟩
theorem Kl {e it l:Addr}{i:Nat}{items:Array aC}{x old:aC}{Q:aC->aG->Prop}(he:lJ s.heap e it i old)(DF:s.heap.IsTupleIter it l i)(hl:s.heap.IsTuple l items)(hx:items[i]?=some x)(AO:e≠it)
  (hQ:∀h',qZ h' e it ((i:Int)+1) x s.heap.objs.size->h'.IsTupleIter it l (i+1)->h'.get? s.heap.objs.size=some { cls:=.type "tuple",data:=.seq #[.int i s.toks,x] }->h'.objs.size=s.heap.objs.size+1->(∀b o,b≠e->b≠it->s.heap.get? b=some o->h'.get? b=some o)->Q (.ref s.heap.objs.size) { s with heap:=h',toks:=s.toks+1 }) :
  aL (aS prog w) A (iI.«enumerate.__next__» ⟨[.ref e],[]⟩) (λAK s'=>∃v,AK=.done (.ret v)/\Q v s') E s:=by
 obtain⟨hp,g,d,tk,os⟩:=s;show aL _ _ (field (.ref e) 2 >>= _) _ _ _;refine aA (cY he rfl (x:=.ref it) rfl ?_);refine aA (Dj DF hl hx λh1 i1 s1=>?_)
 replace s1:gI it hp h1:=s1
 have e1:lJ h1 e it i old:=(s1.2 e AO).trans he;show aL _ _ (field (.ref e) 3 >>= _) _ _ ⟨h1,g,d,tk,os⟩;refine aA (cY e1 rfl (x:=iU i) rfl ?_);show aL _ _ (field (.ref e) 4 >>= _) _ _ ⟨h1,g,d,tk,os⟩;refine aA (cY e1 rfl (x:=.none) rfl ?_);show aL _ _ (mkInt i >>= _) _ _ ⟨h1,g,d,tk,os⟩;refine aA (wpAny_mkInt ?_);show aL _ _ (xR (.ref e) 3 (iU ((i:Int)+1)) >>= _) _ _ ⟨h1,g,d,tk+1,os⟩;refine aA (eJ e1 (by simp) λh2 e2 s2=>?_)
 replace s2:gI e h1 h2:=s2
 replace e2:lJ h2 e it ((i:Int)+1) old:=e2
 show aL _ _ (xR (.ref e) 4 .none >>= _) _ _ ⟨h2,g,d,tk+1,os⟩;refine aA (eJ e2 (by simp) λh3 e3 s3=>?_)
 replace s3:gI e h2 h3:=s3
 replace e3:lJ h3 e it ((i:Int)+1) old:=e3
 show aL _ _ (zI [.int i tk,x] >>= _) _ _ ⟨h3,g,d,tk+1,os⟩;refine aA (rM ?_);have e4:lJ (h3.push { cls:=.type "tuple",data:=.seq #[.int i tk,x] }) e it ((i:Int)+1) old:=aI _ e3;generalize FH:h3.push { cls:=.type "tuple",data:=.seq #[.int i tk,x] }=h4 at e4;have hsz:h3.objs.size=hp.objs.size:=(by rw[s3.1,s2.1,s1.1]);have JT:e < hp.objs.size:=aW he;have t4:h4.get? hp.objs.size=some { cls:=.type "tuple",data:=.seq #[.int i tk,x] }:=(by rw[<-FH,<-hsz];exact aY _ rfl);have z4:h4.objs.size=hp.objs.size+1:=(by rw[<-FH,eY,hsz]);have k4:∀b o,b≠e->b≠it->hp.get? b=some o->h4.get? b=some o:=λb o BW IF hb=>by
  rw[<-FH];exact aI _ (s3.extBut b o BW (s2.extBut b o BW (s1.extBut b o IF hb)))
 have i4:h4.IsTupleIter it l (i+1):=by
  rw[<-FH];obtain⟨o,ho,r⟩:=(i1.extBut s2.extBut (Ne.symm AO)).extBut s3.extBut (Ne.symm AO);exact⟨o,aI _ ho,r⟩
 show aL _ _ (eC (.ref e) >>= _) _ _ ⟨h4,g,d,tk+1,os⟩;rw[hsz];clear FH e3 s3 e2 s2 e1 s1 i1 hsz h3 h2 h1;refine aA ?_;unfold eC;refine aA (cY e4 rfl (x:=.none) rfl (wpAny_pure ?_));simp only[if_true];refine aA (rL ?_);refine aA (cY e4 rfl (x:=old) rfl ?_);refine aA (eJ e4 (by simp) λh5 e5 s5=>?_)
 replace s5:gI e h4 h5:=s5
 replace e5:lJ h5 e it ((i:Int)+1) x:=e5
 show aL _ _ (gC (.ref e) (.ref hp.objs.size) >>= _) _ _ ⟨h5,g,d,tk+1,os⟩;refine aA ?_;unfold gC;refine aA (eJ e5 (by simp) λh6 e6 s6=>?_)
 replace s6:gI e h5 h6:=s6
 replace e6:qZ h6 e it ((i:Int)+1) x hp.objs.size:=e6
 refine eJ e6 (by simp) λh7 e7 s7=>?_
 replace s7:gI e h6 h7:=s7
 replace e7:qZ h7 e it ((i:Int)+1) x hp.objs.size:=e7
 refine aA (pG (wpAny_pure ⟨_,rfl,hQ h7 e7 ?_ ?_ ?_ ?_⟩))
 ·exact((i4.extBut s5.extBut (Ne.symm AO)).extBut s6.extBut (Ne.symm AO)).extBut s7.extBut (Ne.symm AO)
 ·exact s7.extBut _ _ (gJ JT) (s6.extBut _ _ (gJ JT) (s5.extBut _ _ (gJ JT) t4))
 ·rw[s7.1,s6.1,s5.1,z4]
 ·exact λb o BW IF hb=>s7.extBut b o BW (s6.extBut b o BW (s5.extBut b o BW (k4 b o BW IF hb)))
theorem Km {e it l:Addr}{i:Nat}{items:Array aC}{x old:aC}{Q:Option aC->aG->Prop}(he:lJ s.heap e it i old)(DF:s.heap.IsTupleIter it l i)(hl:s.heap.IsTuple l items)(hx:items[i]?=some x)(AO:e≠it)
  (hQ:∀h',qZ h' e it ((i:Int)+1) x s.heap.objs.size->h'.IsTupleIter it l (i+1)->h'.get? s.heap.objs.size=some { cls:=.type "tuple",data:=.seq #[.int i s.toks,x] }->h'.objs.size=s.heap.objs.size+1->(∀b o,b≠e->b≠it->s.heap.get? b=some o->h'.get? b=some o)->Q (some (.ref s.heap.objs.size)) { s with heap:=h',toks:=s.toks+1 }):aL (aS prog w) A (jL (.ref e)) Q E s:=by
 have hT:s.TypeIs (.ref e) "enumerate":=⟨_,he,rfl⟩;unfold jL;exact aA (lM (eZ (name:=hX "__next__") hT F.slot_enumerate_next (gM F.slot_enumerate_next hT F.entry_enumerate_next (Kl he DF hl hx AO λh' a b c d k=>wpAny_pure (hQ h' a b c d k)) (F.args_enumerate_next_1 _))))
theorem Nh {e it l:Addr}{i:Nat}{items:Array aC}{old:aC}{Q:Option aC->aG->Prop}(hh:A.handled=none)(he:lJ s.heap e it i old)(DF:s.heap.IsTupleIter it l i)(hl:s.heap.IsTuple l items)(hx:items[i]?=none)
  (hQ:∀h',uM it s.heap h'->Q none { s with heap:=h' }):aL (aS prog w) A (jL (.ref e)) Q E s:=by
 have hT:s.TypeIs (.ref e) "enumerate":=⟨_,he,rfl⟩;unfold jL;refine aA (lM (eZ (name:=hX "__next__") hT F.slot_enumerate_next (gM F.slot_enumerate_next hT F.entry_enumerate_next ?_ (F.args_enumerate_next_1 _))));show aL _ _ (field (.ref e) 2 >>= _) _ _ _;refine aA (cY he rfl (x:=.ref it) rfl ?_);refine aA (vo hh DF hl hx λh' x ex DL=>?_);obtain⟨o,ho,hc⟩:=DL;refine aA (oE (T:="StopIteration") (b:=true) ⟨o,ho,hc⟩ rN ?_);exact wpAny_pure (hQ _ ex)
end
structure Zq (h:Heap)(e it l:Addr)(k:Nat):Prop where
 en:∃old,lJ h e it k old
 one:h.IsTupleIter it l k
def Ite (K:aB)(a:Addr):It:=
 ⟨λi H=>∃xs x,SqT K H a xs/\xs[i]?=some x,λi H v H'=>∃p x,H p=none/\v=.ref p/\(∀xs,SqT K H a xs->xs[i]?=some x)/\H'=upd H p (.tup [.int (i:Int),x]),λi H=>∃xs,SqT K H a xs/\xs.length<=i⟩
theorem Ni {P:aU}{w:aZ}{K:aB}{es:List Expr}{j:Nat}{pos:Pos}{e it a:Addr}(AO:e≠it)(hae:a≠e)(hai:a≠it) :
  qr P w K (.Tuple es j pos) (Ite K a) [e,it] e (λk h=>Zq h e it a k) where
 mem:=by simp
 obj:=λk h Z c hc=>by
  obtain⟨⟨old,u1⟩,⟨o4,u4,_,v4⟩⟩:=Z;simp only[aX,dQ,or_false]at hc;rcases hc with q | q
  ·subst q;exact⟨_,u1,λv e=>by cases(show sD _=oS v from e)⟩
  ·subst q;exact⟨_,u4,λv e=>by rw[v4]at e;cases e⟩
 keep:=λk h h' Z kk=>by
  obtain⟨⟨old,u1⟩,⟨o4,u4,r4⟩⟩:=Z;exact⟨⟨old,kk e (by simp) _ u1⟩,⟨o4,kk it (by simp) _ u4,r4⟩⟩
 item:=by
  intro X hP hw hK hc k f' s σ H E I hf Z hg;subst hP hw hK;obtain⟨xs,x,hx,ex⟩:=hg;obtain⟨its,r1,p1,_⟩:=I.tuple hx;obtain⟨u,eu,ru⟩:=r1.get ex;obtain⟨⟨old,u1⟩,u2⟩:=Z;refine Km u1 u2 (show s.heap.IsTuple a its.toArray from p1) (x:=u) (by simpa using eu) AO λh1 b1 b2 b3 b4 kk=>?_;refine⟨_,rfl,wpAny_letOwnedTupleGo_enum b1 λh2 c1 sb=>?_⟩;have ks:∀c o,c ∉ [e,it]->s.heap.get? c=some o->h2.get? c=some o:=λc o hc q=>by
   simp only[aX,dQ,or_false,not_or]at hc;exact sb.extBut _ _ hc.1 (kk c o hc.1 hc.2 q)
  have ne:s.heap.objs.size≠e:=gJ (aW u1);have b5:=sb.extBut _ _ ne b3;have I2:Inv X f' σ H { s with heap:=h2,toks:=s.toks+1 }:=I.turnedAll (t':=s.toks+1) hf ks;have fT:ij X f' H s.heap.objs.size:=I.fpOk (aN _) (I.hok.fresh (aN _));have I3:Inv X f' σ (upd H s.heap.objs.size (.tup [.int (k:Int),x])) { s with heap:=h2,toks:=s.toks+1 }:=I2.track fT I.sz
   ⟨by show 2<=sizeLine;decide,[.int k s.toks,u],.cons ⟨_,rfl⟩ (.cons ru .nil),⟨_,b5,rfl,_,rfl⟩⟩
  refine⟨.ref s.heap.objs.size,_,I3,rfl,⟨_,x,fT.1,rfl,λus hu=>by rw[I.tuple_inj hu hx];exact ex,rfl⟩,?_,λc hc=>?_⟩
  ·obtain⟨w3,v3,q3⟩:=b2;exact⟨⟨_,c1⟩,⟨w3,sb.extBut _ _ (Ne.symm AO) v3,q3⟩⟩
  ·obtain⟨o,q⟩:∃o,s.heap.get? c=some o:=by
    obtain⟨o4,u4,_⟩:=u2;simp only[aX,dQ,or_false]at hc;rcases hc with q | q
    ·subst q;exact⟨_,u1⟩
    ·subst q;exact⟨_,u4⟩
   rw[ao (cE (aW q))];exact(hf c hc).1
 done:=by
  intro X hP hw hK hc k f' s σ H E I hf Z hg;subst hP hw hK;obtain⟨xs,hx,BN⟩:=hg;obtain⟨its,r1,p1,_⟩:=I.tuple hx;obtain⟨⟨old,u1⟩,u2⟩:=Z;have l1:=r1.length;refine Nh (I.ok.hd hc) u1 u2 (show s.heap.IsTuple a its.toArray from p1) (by simp;lia) λh1 kk=>⟨rfl,I.turnedAll (t':=s.toks) hf λc o hc q=>?_⟩;simp only[aX,dQ,or_false,not_or]at hc;exact kk c o hc.2 q
 self:=λ_ _ _ _ _ Z h=>let ⟨_,u⟩:=Z.en;rY u h
section
variable {X:Cx}
def Zr (K:aB)(ta:TA):TI:=λσ H R=>ta σ H λvs H1=>∃a xs,vs=[.ref a]/\SqT K H1 a xs/\R (Ite K a) H1
theorem Vd {e1:Expr}{ta:TA}{p pos CN:Pos}{es:List Expr}{j:Nat}(hg:Gl X "enumerate")(hm:X.mg "enumerate"=none)(ha:PA X [e1] ta)(hs:cJ [e1] X.env=[(false,eval e1 X.env)]:=by rfl)
  (BL:cJ [] X.env=[]:=by rfl):PI X (.Tuple es j CN) (.Call (.Name "enumerate" p) [e1] [] pos) (Zr X.K ta):=by
 intro f' s σ H R I h;refine Call_ (iw I hg hm (by kernel_rfl:jK (hX "enumerate")=some (.type "enumerate")) (gW (thn (ha pos f' s σ H _ I h) λus s1 ⟨vs,H1,I1,r1,q1⟩=>?_) (by rw[hs,BL]) (by rw[BL];rfl)));obtain⟨a,xs,e,hx,q⟩:=q1;subst e;obtain⟨u,rfl,ru⟩:=j9 r1;cases(show u=bZ a from ru);obtain⟨its,k1,p1,_⟩:=I1.tuple hx;have a1:a < s1.heap.objs.size:=(by obtain⟨_,e,_⟩:=p1;exact aW e);refine Kk (show s1.heap.IsTuple a its.toArray from p1) λh2 Z1 Z2 sz kk=>?_;have I2:Inv X f' σ H1 { s1 with heap:=h2 }:=I1.kept (t':=s1.toks) kk;refine rY Z1 ⟨_,_,_,_,H1,rfl,I2,Ni (e:=s1.heap.objs.size+1) (it:=s1.heap.objs.size) (a:=a) (Nat.succ_ne_self _) (cE (rZ a1)) (cE a1),⟨⟨_,Z1⟩,Z2⟩,λc hc=>?_,q⟩;refine I1.fpOk ?_ (I1.hok.fresh ?_)
 all_goals
  simp only[aX,dQ,or_false]at hc;rcases hc with q | q<;>subst q<;>lia
end
theorem Qe {K:aB}{a:Addr}{xs:List V}{g:TG}{tb:TS}{D:gg}{σ:St}{H:Hp}(Pv:Nat->St->Hp->Prop)(h0:Pv 0 σ H)
  (hl:∀i σ H,i<=xs.length->Pv i σ H->SqT K H a xs)
  (hs:∀i x p σ H,xs[i]?=some x->Pv i σ H->H p=none->g (.ref p) σ (upd H p (.tup [.int (i:Int),x])) λσ2 H2=>tb { D with nx:=Pv (i+1),ct:=Pv (i+1),bk:=D.nx } σ2 H2) (hd:∀σ H,Pv xs.length σ H->D.nx σ H) :
  ∃W:Nat->Nat->St->Hp->Prop,(∃m,W 0 m σ H)/\∀i m σ H,W i m σ H->
   ((Ite K a).stop i H/\D.nx σ H)\/((Ite K a).go i H/\∃N:St->Hp->Prop,(∀σ' H',N σ' H'->∃m',m' < m/\W (i+1) m' σ' H')/\∀x H',(Ite K a).yld i H x H'->g x σ H' λσ2 H2=>tb { D with nx:=N,ct:=N,bk:=D.nx } σ2 H2):=by
 refine⟨λi m σ H=>i+m=xs.length/\Pv i σ H,⟨xs.length,by lia,h0⟩,?_⟩;intro i m σ H AC;obtain⟨e,p⟩:=AC;have q1:=hl i σ H (by lia) p;by_cases hi:i < xs.length
 ·have ex:xs[i]?=some xs[i]:=aK hi;refine .inr ⟨⟨xs,_,q1,ex⟩,Pv (i+1),λσ' H' p'=>⟨m - 1,by lia,by lia,p'⟩,?_⟩;intro x H' AC;obtain⟨pp,x',fp,rfl,eu,rfl⟩:=AC;exact hs i x' pp σ H (eu xs q1) p fp
 ·have e':i=xs.length:=(by lia);subst e';exact .inl ⟨⟨xs,q1,aN _⟩,hd σ H p⟩
end L2
namespace S63
open PySem L2
abbrev Fld:={ f:Str // (qY f).length<=2000 }
abbrev Num:={ v:Int // v.natAbs.log2 < 1000 }
inductive Say where
 |nought | every | note
 |is (f:Fld) (v:Num)
 |put (f:Fld) (v:Num)
 |no (s:Say)
 |again (s:Say)
 |either (a b:Say)
 |both (a b:Say)
def Say.sort:Say->Str
 | .nought=>"none" | .every=>"all" | .note=>"note" | .is _ _=>"is" | .put _ _=>"put" | .no _=>"not" | .again _=>"again" | .either _ _=>"either" | .both _ _=>"then"
def Say.kids:Say->List Say
 | .no s=>[s] | .again s=>[s] | .either a b=>[a,b] | .both a b=>[a,b] | _=>[]
def Say.parts:Say->List Say
 | .no s=>.no s::s.parts
 | .again s=>.again s::s.parts
 | .either a b=>.either a b::(a.parts++b.parts)
 | .both a b=>.both a b::(a.parts++b.parts)
 |s=>[s]
def Say.size:Say->Nat
 | .no s=>s.size+1
 | .again s=>s.size+1
 | .either a b=>a.size+b.size+1
 | .both a b=>a.size+b.size+1
 |_=>1
def Say.isT:Say->Bool
 | .no s=>s.isT
 | .either a b=>a.isT && b.isT
 | .both a b=>a.isT && b.isT
 | .nought=>true | .every=>true | .is _ _=>true
 |_=>false
def Say.nts:Say->Nat
 | .no s=>s.nts
 | .again s=>s.nts
 | .either a b=>a.nts+b.nts
 | .both a b=>a.nts+b.nts
 | .note=>1
 |_=>0
def Say.inT:Say->Bool
 | .nought=>true | .every=>true | .is _ _=>true | .no _=>true | .either _ _=>true | .both _ _=>true
 |_=>false
def Say.isN:Say->Bool
 | .note=>true
 |_=>false
def Say.hasK:Say->Bool
 | .no _=>true | .again _=>true | .either _ _=>true | .both _ _=>true
 |_=>false
theorem i9 (s:Say):s.parts=s::s.kids.flatMap Say.parts:=by
 cases s<;>simp[Say.parts,Say.kids]
theorem size_eq (s:Say):s.size=(s.kids.map Say.size).sum+1:=by
 cases s<;>simp[Say.size,Say.kids]
theorem uh (s:Say):1<=s.size:=by rw[size_eq];lia
theorem ig (s:Say):s.parts.length=s.size:=by
 induction s with
 |no s ih=>simp[Say.parts,Say.size,ih]
 |again s ih=>simp[Say.parts,Say.size,ih]
 |either a b ia ib=>simp[Say.parts,Say.size,ia,ib]
 |both a b ia ib=>simp[Say.parts,Say.size,ia,ib]
 |_=>rfl
theorem Kn (s:Say):s.parts.all Say.inT=s.isT:=by
 induction s with
 |no s ih=>simp[Say.parts,Say.isT,<-ih,Say.inT]
 |again s ih=>simp[Say.parts,Say.isT,Say.inT]
 |either a b ia ib=>simp[Say.parts,Say.isT,<-ia,<-ib,Say.inT]
 |both a b ia ib=>simp[Say.parts,Say.isT,<-ia,<-ib,Say.inT]
 |_=>rfl
theorem x8 (s:Say):(s.parts.filter Say.isN).length=s.nts:=by
 induction s with
 |no s ih=>simp[Say.parts,Say.nts,<-ih,Say.isN]
 |again s ih=>simp[Say.parts,Say.nts,<-ih,Say.isN]
 |either a b ia ib=>simp[Say.parts,Say.nts,<-ia,<-ib,Say.isN]
 |both a b ia ib=>simp[Say.parts,Say.nts,<-ia,<-ib,Say.isN]
 |_=>rfl
theorem Xs (s:Say):s.nts<=s.size:=by
 rw[<-x8,<-ig];exact List.length_filter_le _ _
theorem gn:∀s:Say,s.isT=true->s.nts=0
 | .nought,_=>rfl | .every,_=>rfl | .is _ _,_=>rfl
 | .note,h=>by cases h
 | .put _ _,h=>by cases h
 | .again _,h=>by cases h
 | .no s,h=>gn s h
 | .either a b,h=>by
  have z:(a.isT && b.isT)=true:=h;rw[iB]at z;show a.nts+b.nts=0;rw[gn a z.1,gn b z.2]
 | .both a b,h=>by
  have z:(a.isT && b.isT)=true:=h;rw[iB]at z;show a.nts+b.nts=0;rw[gn a z.1,gn b z.2]
def Say.da:Say->Da
 | .is f v=>.tup [.flat (.str "is"),.flat (.str f.1),.flat (.int v.1)]
 | .put f v=>.tup [.flat (.str "put"),.flat (.str f.1),.flat (.int v.1)]
 | .no s=>.tup [.flat (.str "not"),s.da]
 | .again s=>.tup [.flat (.str "again"),s.da]
 | .either a b=>.tup [.flat (.str "either"),a.da,b.da]
 | .both a b=>.tup [.flat (.str "then"),a.da,b.da]
 | .nought=>.tup [.flat (.str "none")]
 | .every=>.tup [.flat (.str "all")]
 | .note=>.tup [.flat (.str "note")]
theorem sr (s:Say):s.da.fix=true:=by
 induction s with
 |no s ih=>simp[Say.da,Da.fix,fixL,ih]
 |again s ih=>simp[Say.da,Da.fix,fixL,ih]
 |either a b ia ib=>simp[Say.da,Da.fix,fixL,ia,ib]
 |both a b ia ib=>simp[Say.da,Da.fix,fixL,ia,ib]
 |_=>simp[Say.da,Da.fix,fixL]
theorem jh {K:aB}{H:Hp}{x:V}{s:Say}(h:Hold K H x s.da):∃a xs,x=.ref a/\SqT K H a (.str s.sort::xs)/\(s.hasK=true->Holds K H xs (s.kids.map Say.da)):=by
 cases s
 all_goals
  obtain⟨a,ys,e,ha,hd⟩:=Hold.tupI h;cases hd with
  |cons h1 r1=>
   cases h1.flatI;refine⟨a,_,e,ha,λq=>?_⟩
   first | exact r1 | (cases q)
theorem Ve {s:Say}(h:s.hasK=false):s.kids=[]:=by cases s<;>first | rfl | cases h
def HS:List V:=[.str "not",.str "either",.str "then",.str "again"]
def TS:List V:=[.str "none",.str "all",.str "is",.str "not",.str "either",.str "then"]
theorem Zs (s:Say):inV (.str s.sort) HS=s.hasK:=by cases s<;>kernel_rfl
theorem Zt (s:Say):inV (.str s.sort) S63.TS=s.inT:=by cases s<;>kernel_rfl
theorem is_N (s:Say):decide (V.str s.sort=V.str "note")=s.isN:=by cases s<;>kernel_rfl
end S63
namespace S1
def longer (AL:List (List Int))(c:Nat):List (List Int):=AL.flatMap λl=>(dG c).map λ(v:Nat)=>l++[(v:Int)]
def ju (AL:List (List Int))(cs:List Nat):List (List Int):=cs.foldl longer AL
def mul (cs:List Nat):Nat:=cs.foldl (· * ·) 1
theorem Hi (AL:List (List Int))(l:List Int)(c:Nat):longer (AL++[l]) c=longer AL c++(dG c).map λ(v:Nat)=>l++[(v:Int)]:=by
 simp[longer,oH]
theorem va (AL:List (List Int))(c:Nat):(longer AL c).length=AL.length * c:=by
 induction AL with
 |nil=>simp[longer]
 |cons l r ih=>
  have e:longer (l::r) c=((dG c).map λ(v:Nat)=>l++[(v:Int)])++longer r c:=(by simp[longer,jR]);rw[e,aQ,ih,aJ,iS,eE,Nat.succ_mul,jD]
theorem x9:∀(cs:List Nat)(AL:List (List Int)),(ju AL cs).length=cs.foldl (· * ·) AL.length
 | [],_=>rfl
 |c::r,AL=>by
  show(ju (longer AL c) r).length=r.foldl (· * ·) (AL.length * c);rw[x9 r,va]
structure Good (cs:List Nat)(ls:List (List Int)):Prop where
 wide:∀l∈ls,l.length=cs.length
 rng:∀l∈ls,∀(i:Nat)(v:Int),l[i]?=some v->∃c,cs[i]?=some c/\0<=v/\v < (c:Int)
 ord:ls.Pairwise λa b=>HT.lexLt a b=true
theorem Ei:∀(a:List Int)(x y:Int),x < y->HT.lexLt (a++[x]) (a++[y])=true
 | [],x,y,h=>by
  show HT.lexLt [x] [y]=true;rw[HT.lexLt_cons,if_neg (by lia)];exact decide_eq_true h
 |z::r,x,y,h=>by
  show HT.lexLt (z::(r++[x])) (z::(r++[y]))=true;rw[HT.lexLt_cons,if_pos rfl];exact Ei r x y h
theorem Ij:∀(a b:List Int)(x y:Int),a.length=b.length->HT.lexLt a b=true->HT.lexLt (a++[x]) (b++[y])=true
 | [],[],_,_,_,h=>by cases h
 | [],_::_,_,_,e,_=>by cases e
 |_::_,[],_,_,e,_=>by cases e
 |p::r,q::t,x,y,e,h=>by
  have e':r.length=t.length:=(by simpa using e);show HT.lexLt (p::(r++[x])) (q::(t++[y]))=true;rw[HT.lexLt_cons]at h ⊢;by_cases c:p=q
  ·rw[if_pos c]at h ⊢;exact Ij r t x y e' h
  ·rw[if_neg c]at h ⊢;exact h
theorem oz {AL:List (List Int)}{c:Nat}{m:List Int}(h:m∈longer AL c):∃l∈AL,∃v:Nat,v < c/\m=l++[(v:Int)]:=by
 obtain⟨l,hl,h⟩:=List.mem_flatMap.mp h;obtain⟨v,hv,e⟩:=jN.mp h;exact⟨l,hl,v,iW.mp hv,e.symm⟩
theorem Good.longer {cs:List Nat}{ls:List (List Int)}(g:Good cs ls)(c:Nat):Good (cs++[c]) (longer ls c) where
 wide:=λm hm=>by
  obtain⟨l,hl,v,hv,rfl⟩:=oz hm;rw[aQ,aQ,g.wide l hl];rfl
 rng:=λm hm i v hi=>by
  obtain⟨l,hl,w,hw,rfl⟩:=oz hm;have wl:=g.wide l hl;rcases Nat.lt_trichotomy i l.length with q | q | q
  ·rw[eK q]at hi;obtain⟨c',hc,r⟩:=g.rng l hl i v hi;exact⟨c',by rw[eK (by lia)];exact hc,r⟩
  ·subst q;have e:v=(w:Int):=(by simpa using hi.symm);refine⟨c,by rw[wl];simp,by lia,by lia⟩
  ·rw[jW (by rw[aQ,gK];lia)]at hi;cases hi
 ord:=by
  have w:=g.wide;have o:=g.ord;clear g
  induction ls with
  |nil=>exact vE
  |cons l r ih=>
   have e:S1.longer (l::r) c=((dG c).map λ(v:Nat)=>l++[(v:Int)])++S1.longer r c:=(by simp[S1.longer,jR]);obtain⟨o1,o2⟩:=lP.mp o;rw[e,List.pairwise_append];refine⟨?_,ih (λm hm=>w m (cX _ hm)) o2,?_⟩
   ·rw[List.pairwise_map];exact List.Pairwise.imp (R:=λ(a b:Nat)=>a < b) (λ{a b} h=>Ei l (a:Int) (b:Int) (by lia)) List.pairwise_lt_range
   ·intro a ha b hb;obtain⟨v,hv,rfl⟩:=jN.mp ha;obtain⟨m,hm,u,hu,rfl⟩:=oz hb;exact Ij l m _ _ (by rw[w l eF,w m (cX _ hm)]) (o1 m hm)
theorem Good.start:Good [] [[]] where
 wide:=λl hl=>by rw[eG.mp hl];rfl
 rng:=λl hl i v hi=>by rw[eG.mp hl]at hi;cases i<;>cases hi
 ord:=List.pairwise_singleton _ _
theorem Good.all:∀(r cs:List Nat) {ls:List (List Int)},Good cs ls->Good (cs++r) (ju ls r)
 | [],cs,ls,g=>by rw[nI];exact g
 |c::r,cs,ls,g=>by
  have q:=Good.all r (cs++[c]) (g.longer c);rw[nU]at q;exact q
def fk (cs:List Nat):List (List Int):=ju [[]] cs
theorem ja (cs:List Nat):Good cs (fk cs):=Good.all cs [] Good.start
theorem mf (cs:List Nat):(fk cs).length=mul cs:=x9 cs [[]]
theorem vq (cs:List Nat)(c:Nat):fk (cs++[c])=longer (fk cs) c:=by
 simp[fk,ju,vI]
theorem Ej:∀(cs:List Nat)(k:Nat),(∀c∈cs,c<=6)->cs.foldl (· * ·) k<=k * 6 ^ cs.length
 | [],k,_=>by simp
 |c::r,k,h=>by
  have q:=Ej r (k * c) λd hd=>h d (cX _ hd);have hc:=h c eF;show r.foldl (· * ·) (k * c)<=k * 6 ^ (r.length+1);refine cH q ?_;rw[rA,xW,tQ (6 ^ r.length) 6];exact Nat.mul_le_mul_left _ (Nat.mul_le_mul_right _ hc)
theorem Nj (cs:List Nat)(h:∀c∈cs,c<=6):mul cs<=6 ^ cs.length:=by
 have q:=Ej cs 1 h
 rwa [Nat.one_mul]at q
end S1
namespace S63
open PySem L2
def top (i:Nat):Stmt:=PySem.Challenge.pw_switchsay_k63_tables_refused.main.body.getD i (.Pass ⟨0,0,0,0⟩)
abbrev sNF:Stmt:=jg (top 3) 0
abbrev sNV:Stmt:=jg (top 4) 0
abbrev sNT:Stmt:=jg (top 5) 0
abbrev sNP:Stmt:=jg (top 6) 0
abbrev Ek:Stmt:=top 12
abbrev Ko:Stmt:=top 13
abbrev El:Stmt:=top 27
abbrev Kp:Stmt:=top 28
abbrev Kq:Stmt:=top 29
abbrev Em:Stmt:=top 30
abbrev Qf:Stmt:=top 31
abbrev Qg:Stmt:=top 32
abbrev En:Stmt:=top 33
abbrev Bu:Stmt:=top 34
abbrev Kr:Stmt:=top 63
abbrev Eo:Stmt:=top 64
abbrev Ks:Stmt:=top 65
abbrev Bv:Stmt:=top 66
abbrev Kt:Stmt:=top 67
abbrev Ep:Stmt:=top 68
abbrev Bw:Stmt:=top 69
abbrev Bx:Stmt:=top 70
abbrev By:Stmt:=top 72
abbrev mh:Stmt:=top 73
abbrev uk:Stmt:=top 74
abbrev Er:Stmt:=top 10
abbrev xp:Stmt:=top 11
abbrev sNo:Stmt:=top 15
abbrev Ku:Stmt:=top 16
abbrev Kv:Stmt:=top 17
abbrev Kw:Stmt:=top 18
abbrev Es:Stmt:=top 19
abbrev An:Stmt:=top 20
abbrev Et:Stmt:=top 21
abbrev Ao:Stmt:=top 22
abbrev Eu:Stmt:=jg (top 36) 0
abbrev Kx:Stmt:=jg (top 36) 2
abbrev Ew:Stmt:=jg (top 36) 4
abbrev Ap:Stmt:=jg (top 36) 6
abbrev Ey:Stmt:=jg (top 37) 0
abbrev Dk:Stmt:=top 38
abbrev Ez:Stmt:=top 39
abbrev E1:Stmt:=top 40
abbrev Ky:Stmt:=top 41
abbrev Aq:Stmt:=top 42
abbrev E2:Stmt:=top 43
abbrev Ar:Stmt:=top 44
abbrev As:Stmt:=top 45
abbrev xq:Stmt:=top 46
abbrev Kz:Stmt:=top 47
abbrev xr:Stmt:=top 48
abbrev xt:Stmt:=top 49
abbrev sBy:Stmt:=top 51
abbrev E3:Stmt:=top 52
abbrev Qh:Stmt:=top 53
abbrev Au:Stmt:=top 54
abbrev Dl:Stmt:=top 55
abbrev E4:Stmt:=top 56
abbrev E5:Stmt:=top 57
abbrev E6:Stmt:=top 58
abbrev E7:Stmt:=top 59
abbrev Bz:Stmt:=top 60
abbrev sAll:Stmt:=top 61
abbrev E8:Stmt:=top 71
theorem small {n:Nat}(h:n<=1000):n<=sizeLine:=lF (bj h)
theorem ae {H:Hp}{p:Addr}(h:H p=none)(o:HO):Same H (upd H p o):=λb u q=>by rw[ao (aq q h)];exact q
theorem Same.put {H G:Hp}{r:Addr}(e:Same H G)(h:H r=none)(o:HO):Same H (upd G r o):=λb u q=>by rw[ao (aq q h)];exact e b u q
def Keep (r:Addr)(H H':Hp):Prop:=∀b o,b≠r->H b=some o->H' b=some o
theorem Same.keep {H G G':Hp}{r:Addr}(e:Same H G)(h:H r=none)(k:Keep r G G'):Same H G':=λb u q=>k b u (aq q h) (e b u q)
theorem gh (a:Int){m:Int}(h:0 < m):0<=a % m/\a % m < m:=⟨Int.emod_nonneg _ (Int.ne_of_gt h),Int.emod_lt_of_pos _ h⟩
theorem E9 {ns:List Int}{v:Int}(h0:0<=v)(h1:v < (ns.length:Int)):∃x∈ns,atI (ns.map V.int) v=some (.int x):=by
 have hk:v.toNat < ns.length:=(by lia);have ek:v=((v.toNat:Nat):Int):=(by lia);have q:atI (ns.map V.int) ((v.toNat:Nat):Int)=some (.int ns[v.toNat]):=bp (by rw[cQ,aK hk]<;>rfl);rw[<-ek]at q;exact⟨_,pU hk,q⟩
def Ta (w:Str×Nat):Da:=.tup [.flat (.str w.1),.flat (.int (w.2:Int))]
def fw (ws:List (Str×Nat)):Da:=.tup (ws.map Ta)
structure vw (x:Str):Prop where
 len:x.length<=8
 cps:∀c∈x.cps.toList,97<=c/\c<=122
structure fo (ws:List (Str×Nat)):Prop where
 lo:1<=ws.length
 hi:ws.length<=3
 cnt:∀w∈ws,1<=w.2/\w.2<=6
 word:∀w∈ws,vw w.1
def B0:Sp:=λvs H Q _=>∃n:Int,vs=[.int n]/\∀(r:Addr)(a b:Int),H r=none->0<=a->0<=b->Q (.ref r) (upd H r (.lst [.int a,.int b]))
def Av:Sp:=λvs H Q _=>∃(r:Addr)(a b m:Int),vs=[.ref r,.int m]/\H r=some (.lst [.int a,.int b])/\0<=a/\0<=b/\0 < m/\m < 1073741824/\
 ∀(v a' b':Int)(H':Hp),0<=v->v < m->0<=a'->0<=b'->H' r=some (.lst [.int a',.int b'])->Keep r H H'->Q (.int v) H'
section
variable {P:aU}{w:aZ}{K:aB}{mg:Str->Option aC}{base:Heap}
theorem B1:aw ["_law_cell_here","_law_number","_law_found","_law_k"] zz0 (aj Eo):=⟨rfl,rfl,rfl,by decide +kernel,rfl,by decide +kernel,by decide +kernel⟩
theorem Qi {f:Addr}{fd:bQ}(F:Fun K "_law_purse" "_law_purse" Eo f fd)(mr:mg "range"=none)(ma:mg "abs"=none):‹1› f fd zz0 B0:=by
 exists F,B1
 ·obtain⟨n,rfl,_⟩:=h;rfl
 obtain⟨n,rfl,q⟩:=h;refine⟨_,ai (bf (i:=1) B1.nd rfl (cD rfl) (ba gz (pv 0) ah)) (ai (bf (i:=2) B1.nd rfl (cD rfl) ah) (ai (fh fX rfl (i6 rfl mr (aa ah ag)) (bo (i:=3) B1.nd rfl (cD rfl)) (ai (bf (i:=1) B1.nd rfl (cD rfl) (ba gz (ba gy (ba gy (ba gy (ba r8 (pv 1) (pv 1)) (ba r8 (ba r8 ah (pv 3)) (pv 3))) (pv 3)) ah) ah)) (ak (bf (i:=2) B1.nd rfl (cD rfl) (ba gy (ba r8 (pv 2) ah) (ba gz (ba r8 (pv 1) (pv 1)) ah)))))) (ai (de (bx e9 (ba gz (pv 0) ah) ah (bw _)) (ak (az (bc (aa (ba xm (bz Pr rfl ma (by kernel_rfl) (aa (pv 0) ag)) ah) (aa (pv 2) ag))))) cf) (ak (az (bc (aa ah (aa (pv 2) ag)))))))),?_⟩;have r0:=gh n (m:=2147483647) (by decide);refine⟨_,rfl,_,_,rfl,rfl,(by show(0:Int) < 2147483647;decide),16,rfl,by decide,by decide,ny (n:=16) (λi σ G=>∃(x y:Int)(v:Option V),σ=[some (.int n),some (.int x),some (.int y),v]/\G=H/\0<=x/\x < 2147483647/\0<=y) ⟨_,_,_,rfl,rfl,r0.1,r0.2,by decide⟩ ?_ ?_⟩
 ·intro i σ G hi AC;obtain⟨x,y,v,rfl,rfl,h1,h2,h3⟩:=AC;generalize AJ:gg.mk _ _ _ _=BG;revert AJ BG;refine id ?_;intro BG AJ;refine⟨_,rfl,_,rfl,_,_,rfl,rfl,.inl ⟨by lia,by lia⟩,_,rfl,_,_,rfl,rfl,.inl ⟨by decide,by decide⟩,_,rfl,_,_,rfl,rfl,.inr ⟨by lia,by lia⟩,_,_,rfl,rfl,_,rfl,_,_,rfl,rfl,_,_,rfl,rfl,_,_,rfl,rfl,(by show(0:Int) < 2147483629;decide),?_⟩;have r1:=gh (x * x+48271 * (0+(i:Int)) * (0+(i:Int))+(0+(i:Int))+3) (m:=2147483629) (by decide);have r2:=gh ((x * x+48271 * (0+(i:Int)) * (0+(i:Int))+(0+(i:Int))+3) % 2147483629 * ((x * x+48271 * (0+(i:Int)) * (0+(i:Int))+(0+(i:Int))+3) % 2147483629)) (m:=2147483587) (by decide);refine⟨_,rfl,_,_,rfl,rfl,.inr ⟨by decide,by decide⟩,_,rfl,_,rfl,_,_,rfl,rfl,.inl ⟨Int.lt_of_lt_of_le (by decide) r1.1,Int.lt_trans r1.2 (by decide)⟩,_,_,rfl,rfl,(by show(0:Int) < 2147483587;decide),_,_,rfl,rfl,?_⟩;subst AJ;refine⟨_,_,_,rfl,rfl,r1.1,Int.lt_trans r1.2 (by decide),?_⟩;exact Int.add_nonneg (Int.mul_nonneg h3 (by decide)) r2.1
 ·intro σ G AC;obtain⟨x,y,v,rfl,rfl,h1,h2,h3⟩:=AC;refine⟨_,rfl,_,_,rfl,rfl,(by show(0:Int) < 2;decide),rfl,_,rfl,?_⟩;refine fb (λ_=>?_) (λ_=>?_)
  ·refine⟨_,rfl,_,rfl,_,_,rfl,rfl,⟨by decide,by decide⟩,_,rfl,sz2,λr CT=>?_⟩;refine q r _ _ CT ?_ h3;have z:0<=(if n < 0 then -n else n):=by split<;>lia
   lia
  ·refine⟨_,rfl,sz2,λr CT=>?_⟩;exact q r _ _ CT (Int.le_refl 0) h3
theorem Qj:aw ["_law_purse_here","_law_many","_law_at","_law_found"] zzv (aj Ks):=⟨rfl,rfl,rfl,by decide +kernel,rfl,by decide +kernel,by decide +kernel⟩
theorem Vf {f:Addr}{fd:bQ}(F:Fun K "_law_take" "_law_take" Ks f fd)(mi:mg "int"=none):‹1› f fd zzv Av:=by
 exists F,Qj
 ·obtain⟨r,a,b,m,rfl,_⟩:=h;rfl
 obtain⟨r,a,b,m,rfl,hl,ha,hb,m0,m1,q⟩:=h;refine⟨_,ai (bf (i:=2) Qj.nd rfl (cD rfl) (n9 Mm rfl mi (by kernel_rfl) (aa (iy e9 (av ax (pv 0) ah (λ_ _=>rfl)) ah (bw _)) ag))) (ai (bf (i:=3) Qj.nd rfl (cD rfl) (ba gz (av ax (pv 0) (pv 2) (λ_ _=>rfl)) (pv 1))) (ai (vj (ba xm (av ax (pv 0) (pv 2) (λ_ _=>rfl)) (pv 1)) (Mb (pv 0) (pv 2) D8)) (ak (az (pv 3))))),?_⟩;dsimp only[bh,Cx.nox];refine⟨_,rfl,r,_,_,_,rfl,rfl,SqL.of hl,rfl,rfl,.inr ⟨_,rfl,?_⟩⟩;have kp:∀o,Keep r H (upd H r o):=λo c u hc e=>(by rw[ao hc];exact e);generalize hk:decide (V.int a=V.int 0)=k;cases k with
 |true=>
  refine⟨_,rfl,_,rfl,r,_,_,_,rfl,rfl,SqL.of hl,rfl,_,rfl,_,_,rfl,rfl,m0,?_⟩;refine⟨_,rfl,_,rfl,r,_,_,_,rfl,rfl,SqL.of hl,rfl,_,rfl,_,_,rfl,rfl,⟨m0,m1⟩,_,rfl,_,rfl,r,_,_,_,rfl,rfl,hl,rfl,_,rfl,?_⟩;have r1:=gh b m0;exact q (b % m) a (b / m) _ r1.1 r1.2 ha (Int.ediv_nonneg hb (Int.le_of_lt m0)) af (kp _)
 |false=>
  refine⟨_,rfl,_,rfl,r,_,_,_,rfl,rfl,SqL.of hl,rfl,_,rfl,_,_,rfl,rfl,m0,?_⟩;refine⟨_,rfl,_,rfl,r,_,_,_,rfl,rfl,SqL.of hl,rfl,_,rfl,_,_,rfl,rfl,⟨m0,m1⟩,_,rfl,_,rfl,r,_,_,_,rfl,rfl,hl,rfl,_,rfl,?_⟩;have r1:=gh a m0;exact q (a % m) (a / m) b _ r1.1 r1.2 (Int.ediv_nonneg ha (Int.le_of_lt m0)) hb af (kp _)
theorem p9:aw ["_law_cell_here","_law_least","_law_purse_here","_law_first","_law_letters","_law_left","_law_many","_law_tail","_law_speech_here","_law_k","_law_count"] zzh (aj Bv):=
 ⟨rfl,rfl,rfl,by decide +kernel,rfl,by decide +kernel,by decide +kernel⟩
def abc:Str:="abcdefghijklmnopqrstuvwxyz"
theorem Vg:abc.cps.toList.length=26:=by decide +kernel
theorem Vh:∀c∈abc.cps.toList,97<=c/\c<=122:=by decide +kernel
theorem Xt {v:Int}(h0:0<=v)(h1:v < 26):∃c,atI abc.cps.toList v=some c/\97<=c/\c<=122:=by
 have hk:v.toNat < abc.cps.toList.length:=(by rw[Vg];lia);have ek:v=((v.toNat:Nat):Int):=(by lia);have q:atI abc.cps.toList ((v.toNat:Nat):Int)=some abc.cps.toList[v.toNat]:=bp (aK hk);rw[<-ek]at q;exact⟨_,q,Vh _ (pU hk)⟩
theorem Qk {v:Int}(h0:0<=v)(h1:v < 8):∀c∈(wQ ("abcdefg":Str) none (some v)).cps.toList,97<=c/\c<=122:=by
 have z:v=0\/v=1\/v=2\/v=3\/v=4\/v=5\/v=6\/v=7:=(by lia);rcases z with z | z | z | z | z | z | z | z<;>subst z<;>decide +kernel
theorem Nk {c:Nat}{x:Str}(hc:97<=c/\c<=122)(hl:x.length<=7)(hx:∀c∈x.cps.toList,97<=c/\c<=122):vw (⟨#[c]⟩++x) where
 len:=by rw[oQ];show 1+x.length<=8;lia
 cps:=λd hd=>by
  have e:((⟨#[c]⟩:Str)++x).cps.toList=c::x.cps.toList:=by
   show(#[c]++x.cps).toList=_;simp
  rw[e]at hd;rcases aX.mp hd with q | q
  ·rw[q];exact hc
  ·exact hx d q
def Nl (K:aB):Sp:=λvs H Q _=>∃(a:Addr)(k:Int) (ns:List Int),vs=[.ref a,.int k]/\SqL K H a (ns.map V.int)/\0<=k/\∀x:Int,Q (.int x) H
theorem scCe:aw zzd zzd (aj Kr):=⟨rfl,rfl,rfl,by decide +kernel,rfl,by decide +kernel,by decide +kernel⟩
theorem Vi {f:Addr}{fd:bQ}(F:Fun K "_law_cell" "_law_cell" Kr f fd)(ml:mg "len"=none):‹1› f fd zzd (Nl K):=by
 exists F,scCe
 ·obtain⟨a,k,ns,rfl,_⟩:=h;rfl
 obtain⟨a,k,ns,rfl,hS,k0,q⟩:=h;refine⟨_,ai (de (bx Ac (pv 1) (bz cg rfl ml gT (aa (pv 0) ag)) (bw _)) (ak (az (av ax (pv 0) (pv 1) (λ_ _=>rfl)))) cf) (ak (az ah)),?_⟩;dsimp only[bh,Cx.nox];refine⟨_,rfl,_,rfl,a,_,rfl,.inl hS,_,_,rfl,rfl,_,rfl,?_⟩;refine fb (λc=>?_) (λ_=>?_)
 ·have c':k < (((ns.map V.int).length:Nat):Int):=of_decide_eq_true c;rw[aJ]at c';obtain⟨x,_,e⟩:=E9 (ns:=ns) k0 c';exact⟨_,rfl,_,rfl,a,_,_,_,rfl,rfl,hS,e,q x⟩
 ·exact q 0
end
end S63
namespace L2
open PySem PySem.Spec PyProof.Rows Fly
section
variable {P:aU}{w:aZ}{K:aB}{mg:Str->Option aC}{base:Heap}
theorem Fun.okX {x AI:Str}{st:Stmt}{f:Addr}{fd:bQ}{N ps:List Str}{k:Nat}{sp:Sp}(F:Fun K x AI st f fd)(S:aw N ps (aj st))(len:∀vs H Q E,sp vs H Q E->vs.length=ps.length)
  (DA:∀(AF:aC)(A:cC) (outer:List Env) (s:aG) (H:Hp) (vs:List V) (Q:VK) (E:XK),Room k (A.deeper (sI AI (aj st) s.heap.objs.size f AF))->sp vs H Q E->∃t,PSs (bh (CXx P w) P w K mg base N AI (aj st) f AF A outer s H E) (c8 st) t/\t { nx:=λ_ H'=>Q .non H',rt:=Q } (start N vs) H):FnOk P w K mg base (CXx P w) (k+1) f fd ps sp:=by
 obtain⟨oc,od,kV,BA,pm,an,AF,ct,FA,rfl,lk,EL⟩:=F.ex;exact Sx lk EL S len λA outer s H vs Q E hr AY=>DA AF A outer s H vs Q E hr AY
theorem qf {H:Hp}{e dx:Addr}{o1 o2 o3:HO}(he:H e=none)(hd:upd H e o1 dx=none)(ne:dx≠e):Same H (del (upd (upd (upd H e o1) dx o2) e o3) e)/\del (upd (upd (upd H e o1) dx o2) e o3) e dx=some o2/\H dx=none:=by
 have OT:H dx=none:=(by rw[ao ne]at hd;exact hd);refine⟨λb o z=>?_,?_,OT⟩
 ·have h1:b≠e:=aq z he;have h2:b≠dx:=aq z OT;rw[ko h1,ao h1,ao h2,ao h1];exact z
 ·rw[ko ne,ao ne,af]
end
end L2
namespace S63
open PySem L2 Fly
structure Sw (K:aB)(mg:Str->Option aC)(SW:Addr):Prop where
 mg:mg "SwitchError"=some (.ref SW)
 ga:pJ K (.ref SW) "__getattribute__"=some (some (.builtin "type.__getattribute__"))
 rd:qN K SW (.type "type")=true
 fc:qO K (.ref SW) (.type "type") "__init__"=some (.val (.builtin "ValueError.__init__"))
def kq (K:aB)(C:Addr)(f:Str)(ok:V->Prop):Sp:=λvs H Q _=>∃(e:Addr)(y:V),vs=[.ref e,y]/\i5 K C/\NoAttr K C f/\ok y/\H e=some (ft e C none)/\
 ∀dx,H dx=none->dx≠e->Q .non (upd (upd H dx (.xd [(f,y)])) e (ft e C (some dx)))
section
variable {P:aU}{w:aZ}{K:aB}{mg:Str->Option aC}{base:Heap}{SW C:Addr}
theorem scNF:aw zyy zyy (aj sNF):=⟨rfl,rfl,rfl,by decide +kernel,rfl,by decide +kernel,by decide +kernel⟩
theorem Zu {f:Addr}{fd:bQ}(F:Fun K "__init__" "NoField.__init__" sNF f fd)(W:Sw K mg SW):‹1› f fd zyy (kq K C "field" so):=by
 exists F,scNF
 ·obtain⟨e,y,rfl,_⟩:=h;rfl
 obtain⟨e,y,rfl,c,n,ok,he,q⟩:=h;refine⟨_,ai (df (ue rfl W.mg W.ga W.rd W.fc (aa (pv 0) (aa (Ii (Eg (by decide +kernel) (Ih (pv 1) Nc)) (by decide)) ag)))) (ak (xo (pv 0) (pv 1) rfl)),?_⟩;dsimp only[bh,Cx.nox];refine⟨_,rfl,_,rfl,ok,λz=>⟨e,C,none,.str z,rfl,he,c,?_⟩⟩;exact⟨_,rfl,_,rfl,e,C,rfl,c,n,.inl ⟨he,q⟩⟩
theorem scNV:aw zyx zyx (aj sNV):=⟨rfl,rfl,rfl,by decide +kernel,rfl,by decide +kernel,by decide +kernel⟩
theorem Zv {f:Addr}{fd:bQ}(F:Fun K "__init__" "NoValue.__init__" sNV f fd)(W:Sw K mg SW):‹1› f fd zyx (kq K C "value" so):=by
 exists F,scNV
 ·obtain⟨e,y,rfl,_⟩:=h;rfl
 obtain⟨e,y,rfl,c,n,ok,he,q⟩:=h;refine⟨_,ai (df (ue rfl W.mg W.ga W.rd W.fc (aa (pv 0) (aa (Ii (Eg (by decide +kernel) (Ih (pv 1) (Eg (by decide +kernel) Nc))) (by decide)) ag)))) (ak (xo (pv 0) (pv 1) rfl)),?_⟩;dsimp only[bh,Cx.nox];refine⟨_,rfl,_,rfl,ok,λz=>⟨e,C,none,.str z,rfl,he,c,?_⟩⟩;exact⟨_,rfl,_,rfl,e,C,rfl,c,n,.inl ⟨he,q⟩⟩
theorem scNT:aw zzo zzo (aj sNT):=⟨rfl,rfl,rfl,by decide +kernel,rfl,by decide +kernel,by decide +kernel⟩
theorem Zw {f:Addr}{fd:bQ}(F:Fun K "__init__" "NoTest.__init__" sNT f fd)(W:Sw K mg SW):‹1› f fd zzo (kq K C "saying" λ_=>True):=by
 exists F,scNT
 ·obtain⟨e,y,rfl,_⟩:=h;rfl
 obtain⟨e,y,rfl,c,n,ok,he,q⟩:=h;refine⟨_,ai (df (ue rfl W.mg W.ga W.rd W.fc (aa (pv 0) (aa bg ag)))) (ak (xo (pv 0) (pv 1) rfl)),?_⟩;dsimp only[bh,Cx.nox];refine⟨_,rfl,e,C,none,_,rfl,he,c,?_⟩;exact⟨_,rfl,_,rfl,e,C,rfl,c,n,.inl ⟨he,q⟩⟩
theorem scNP:aw zzo zzo (aj sNP):=⟨rfl,rfl,rfl,by decide +kernel,rfl,by decide +kernel,by decide +kernel⟩
theorem Zx {f:Addr}{fd:bQ}(F:Fun K "__init__" "NoPlain.__init__" sNP f fd)(W:Sw K mg SW):‹1› f fd zzo (kq K C "saying" λ_=>True):=by
 exists F,scNP
 ·obtain⟨e,y,rfl,_⟩:=h;rfl
 obtain⟨e,y,rfl,c,n,ok,he,q⟩:=h;refine⟨_,ai (df (ue rfl W.mg W.ga W.rd W.fc (aa (pv 0) (aa bg ag)))) (ak (xo (pv 0) (pv 1) rfl)),?_⟩;dsimp only[bh,Cx.nox];refine⟨_,rfl,e,C,none,_,rfl,he,c,?_⟩;exact⟨_,rfl,_,rfl,e,C,rfl,c,n,.inl ⟨he,q⟩⟩
def Nm (cV:Addr):Sp:=λvs H Q E=>∃(c v:Int),vs=[.int c,.int v]/\v.natAbs.log2 < 1000/\(0<=v/\v < c->Q .non H)/\(¬(0<=v/\v < c)->∀dx H',Same H H'->H' dx=some (.xd [("value",.int v)])->E (.ref cV) (some dx) H')
theorem scMu:aw zz8 zz8 (aj Ko):=⟨rfl,rfl,rfl,by decide +kernel,rfl,by decide +kernel,by decide +kernel⟩
theorem Vj {f fI cV:Addr}{fd FI:bQ}(F:Fun K "must_value" "must_value" Ko f fd)(c:i5 K cV)(n:NoAttr K cV "value")(hi:bK K (.ref cV) "__init__"=some (some (.ref fI)))(lf:∃oI,K.lookup fI=some oI/\oI.cls=.type "function")
  (GI:‹1› fI FI zyx (kq K cV "value" so)) (bI:Binds K FI zyx []) (mV:mg "NoValue"=some (.ref cV)):FnOk P w K mg base (CXx P w) 3 f fd zz8 (Nm cV):=by
 refine F.okX scMu (λvs H Q E h=>?_) (λAF A outer s H vs Q E hr h=>?_)
 ·obtain⟨a,v,rfl,_⟩:=h;rfl
 obtain⟨a,v,rfl,lv,q1,q2⟩:=h;refine⟨_,ak (de (PW.pt (Jv (bx Ac (pv 1) ah (bw _)) (D0 (bx Zg (pv 1) (pv 0) (bw _))))) (ak (ug c (uf c hi lf GI hr rfl mV bI (aa (pv 1) ag)))) cf),?_⟩;dsimp only[bh,Cx.nox];have bad:¬(0<=v/\v < a)->∃x,[some (V.int a),some (V.int v)][1]?=some (some x)/\([x].length<=100/\∀e,H e=none->kq K cV "value" so (.ref e::[x]) (upd H e (ft e cV none)) (λu H2=>u=.non/\∃e' dx,V.ref e=.ref e'/\H2 e'=some (ft e' cV dx)/\H e'=none/\E (.ref cV) dx (del H2 e')) E0):=λnb=>by
  refine⟨_,rfl,(by show 1<=100;decide),λe he=>⟨e,.int v,rfl,c,n,lv,af,λdx hd ne=>⟨rfl,e,some dx,rfl,af,he,?_⟩⟩⟩;obtain⟨z1,z2,_⟩:=qf (o2:=.xd [("value",.int v)]) (o3:=ft e cV (some dx)) he hd ne;exact q2 nb dx _ z1 z2
 refine⟨_,rfl,_,_,rfl,rfl,_,rfl,?_⟩;refine fb (λh1=>?_) (λh1=>?_)
 ·exact iz (bad λz=>by have:=of_decide_eq_true h1;lia)
 ·refine⟨_,rfl,_,rfl,_,_,rfl,rfl,_,rfl,?_⟩;refine fb (λh2=>?_) (λh2=>?_)
  ·exact bad λz=>by have:=of_decide_eq_true h2;lia
  ·have n1:¬v < 0:=λz=>h1 (decide_eq_true z);have n2:¬a<=v:=λz=>h2 (decide_eq_true z);exact q1 ⟨by lia,by lia⟩
end
open PyProof.Rows
def look:List (Str×Nat)->Str->Option (Nat×Nat)
 | [],_=>none
 |w::r,x=>if w.1=x then some (0,w.2)else (look r x).map λp=>(p.1+1,p.2)
theorem Vk {ws:List (Str×Nat)}{x:Str}{i:Nat}{w:Str×Nat}(hw:ws[i]?=some w)(h:look ws x=(look (ws.drop i) x).map λp=>(p.1+i,p.2)) :
  (w.1=x->look ws x=some (i,w.2))/\(w.1≠x->look ws x=(look (ws.drop (i+1)) x).map λp=>(p.1+(i+1),p.2)):=by
 have hi:i < ws.length:=(aM.mp hw).1;have e:ws.drop i=w::ws.drop (i+1):=by
  rw[iY hi];have z:=(aM.mp hw).2;rw[z]
 rw[e]at h;refine⟨λq=>?_,λq=>?_⟩
 ·rw[h];show((if w.1=x then some (0,w.2)else _):Option (Nat×Nat)).map _=_
  rw[if_pos q];show some (0+i,w.2)=_;rw[wC]
 ·rw[h];show((if w.1=x then some (0,w.2)else (look (ws.drop (i+1)) x).map λp=>(p.1+1,p.2)):Option (Nat×Nat)).map _=_
  rw[if_neg q,Option.map_map];congr 1
  funext p
  show(p.1+1+i,p.2)=(p.1+(i+1),p.2);rw[Nat.add_assoc,jD 1 i]
theorem Ik:∀{ws:List (Str×Nat)}{x:Str}{i c:Nat},look ws x=some (i,c)->∃w,ws[i]?=some w/\w.1=x/\w.2=c
 | [],_,_,_,h=>by cases h
 |w::r,x,i,c,h=>by
  have h':(if w.1=x then some (0,w.2)else (look r x).map λp=>(p.1+1,p.2))=some (i,c):=h
  by_cases q:w.1=x
  ·rw[if_pos q]at h';cases h';exact⟨w,rfl,q,rfl⟩
  ·rw[if_neg q]at h';obtain⟨⟨j,d⟩,e1,e2⟩:=gY.mp h';cases e2;obtain⟨w',z1,z2⟩:=Ik e1;exact⟨w',by rw[List.getElem?_cons_succ];exact z1,z2⟩
structure Xu (ws:List (Str×Nat))(x:Str)(v:Int)(cF cV:Addr)(H:Hp)(E:XK)(HE:Nat->Prop):Prop where
 no:look ws x=none->∀dx H',Same H H'->H' dx=some (.xd [("field",.str x)])->E (.ref cF) (some dx) H'
 bad:∀i c,look ws x=some (i,c)->¬(0<=v/\v < (c:Int))->∀dx H',Same H H'->H' dx=some (.xd [("value",.int v)])->E (.ref cV) (some dx) H'
 ok:∀i c,look ws x=some (i,c)->0<=v/\v < (c:Int)->HE i
def B2 (K:aB)(cF cV:Addr):Sp:=λvs H Q E=>∃(sp:Addr)(ws:List (Str×Nat)) (x:Str) (v:Int),vs=[.ref sp,.str x,.int v]/\Hold K H (.ref sp) (fw ws)/\v.natAbs.log2 < 1000/\(qY x).length<=2000/\
 Xu ws x v cF cV H E λi=>∀H',Same H H'->Q (.int (i:Int)) H'
section
variable {P:aU}{w:aZ}{K:aB}{mg:Str->Option aC}{base:Heap}{cF cV:Addr}
theorem Ql:aw ["speech","field","value","place","pair"] zzi (aj Ek):=⟨rfl,rfl,rfl,by decide +kernel,rfl,by decide +kernel,by decide +kernel⟩
theorem Qm {f fM fI:Addr}{fd UR FI:bQ}(F:Fun K "place_of" "place_of" Ek f fd)(c:i5 K cF)(n:NoAttr K cF "field")(hi:bK K (.ref cF) "__init__"=some (some (.ref fI)))(lf:∃oI,K.lookup fI=some oI/\oI.cls=.type "function")
  (GI:‹1› fI FI zyy (kq K cF "field" so)) (bI:Binds K FI zyy []) (mF:mg "NoField"=some (.ref cF))
  (GM:FnOk P w K mg base (CXx P w) 3 fM UR zz8 (Nm cV)) (bM:Binds K UR zz8 []) (kM:aR K (.ref fM)=true) (mM:mg "must_value"=some (.ref fM)) (me:mg "enumerate"=none) :
  FnOk P w K mg base (CXx P w) 4 f fd zzi (B2 K cF cV):=by
 refine F.okX Ql (λvs H Q E h=>?_) (λAF A outer s H vs Q E hr h=>?_)
 ·obtain⟨sp,ws,x,v,rfl,_⟩:=h;rfl
 obtain⟨sp,ws,x,v,rfl,hS,lv,lx,o⟩:=h;refine⟨_,ai (fh PassesOwn.leaving rfl (Vd rfl me (aa (pv 0) ag)) (vi rfl (e8 (bo (i:=3) Ql.nd rfl (cD rfl)) (e8 (bo (i:=4) Ql.nd rfl (cD rfl)) lh))) (ak (de (bx e9 (av cq (pv 4) ah (λ_ _=>rfl)) (pv 1) (bw _)) (ai (df (ar GM hr rfl mM kM bM .nil qe (aa (av cq (pv 4) ah (λ_ _=>rfl)) (aa (pv 2) ag)))) (ak (az (pv 3)))) cf))) (ak (ug c (uf c hi lf GI (hr.mono (by decide)) rfl mF bI (aa (pv 1) ag)))),?_⟩;dsimp only[bh,Cx.nox];obtain⟨a,ys,ea,ha,BO⟩:=Hold.tupI hS;cases ea;have ll:ys.length=ws.length:=(by rw[BO.length,aJ]);refine⟨_,rfl,sp,ys,rfl,ha,Qe (xs:=ys) (λi σ G=>∃v3 v4:Option V,σ=[some (.ref sp),some (.str x),some (.int v),v3,v4]/\Same H G/\look ws x=(look (ws.drop i) x).map λp=>(p.1+i,p.2)) ⟨_,_,rfl,λ_ _ z=>z,by simp⟩ (λi σ G _ AD=>by obtain⟨_,_,_,sG,_⟩:=AD;exact ha.same sG) ?_ ?_⟩
 ·intro i y p σ G hy AC hp;obtain⟨v3,v4,rfl,sG,lk⟩:=AC;generalize AJ:gg.mk _ _ _ _=BG;revert AJ BG;refine id ?_;intro BG AJ;obtain⟨w',ew,hw⟩:=BO.getm hy;obtain⟨b2,ys2,rfl,JU,hys2⟩:=Hold.tupI hw;cases hys2 with
  |cons h1 r1=>
   cases r1 with
   |cons h2 r2=>
    cases r2;cases h1.flatI;cases h2.flatI;have sP:Same H (upd G p (.tup [.int (i:Int),.ref b2])):=Same.trans sG (ae hp _);have EO:SqT K (upd G p (.tup [.int (i:Int),.ref b2])) b2 [.str w'.1,.int (w'.2:Int)]:=JU.same sP;obtain⟨l1,l2⟩:=Vk ew lk;refine⟨p,_,rfl,SqT.of af,rfl,_,_,rfl,_,_,rfl,rfl,?_⟩;refine⟨_,rfl,b2,_,_,_,rfl,rfl,EO,rfl,_,rfl,rfl,_,rfl,?_⟩;refine fb (λe=>?_) (λe=>?_)
    ·have e':w'.1=x:=(by have z:=of_decide_eq_true e;cases z;rfl);have lo:=l1 e';refine⟨_,rfl,b2,_,_,_,rfl,rfl,EO,rfl,_,rfl,(w'.2:Int),v,rfl,lv,λg=>?_,λg dx H' s' hx=>?_⟩
     ·subst AJ;exact⟨_,rfl,o.ok i w'.2 lo g _ sP⟩
     ·exact o.bad i w'.2 lo g dx H' (Same.trans sP s') hx
    ·have e':w'.1≠x:=λz=>(by rw[z]at e;simp at e);subst AJ;exact⟨_,_,rfl,sP,l2 e'⟩
 ·intro σ G AC;obtain⟨v3,v4,rfl,sG,lk⟩:=AC;rw[ll,pW]at lk;refine⟨_,rfl,(by show 1<=100;decide),λe he=>⟨e,.str x,rfl,c,n,lx,af,λdx hd ne=>⟨rfl,e,some dx,rfl,af,Same.free sG he,?_⟩⟩⟩;obtain⟨z1,z2,_⟩:=qf (o2:=.xd [("field",.str x)]) (o3:=ft e cF (some dx)) he hd ne;exact o.no lk dx _ (Same.trans sG z1) z2
theorem Qn {σ:L2.St}{G:Hp}{Q:VK}{a:Addr}{l:List Int}{i jl ji jv:Nat}{v:Int}(h1:σ[jl]?=some (some (.ref a)))(h2:σ[ji]?=some (some (.int (i:Int))))(h3:σ[jv]?=some (some (.int v)))(ha:SqT K G a (l.map V.int))(hi:i < l.length)(hl:l.length<=100)
  (q:∀p G',Same G G'->G' p=some (.tup ((l.take i++v::l.drop (i+1)).map V.int))->Q (.ref p) G') :
  tOp (λx y H Q=>jf K x y H Q\/g0 K x y H Q) (tOp (λx y H Q=>jf K x y H Q\/g0 K x y H Q) (tSl (pq K) (qq jl) lq (ub (qq ji))) (Py (xn (qq jv) Px)))
   (tSl (pq K) (qq jl) (ub (tOp (rI0 λi j=>.int (i+j)) (qq ji) (tC (.int 1)))) lq) σ G Q:=by
 have s0:HT.sIx (l.map V.int).length 0 none=0:=rfl;have s1:HT.sIx (l.map V.int).length (l.map V.int).length (some (i:Int))=i:=(by rw[HT.sIx_nat,aJ];lia);have s2:HT.sIx (l.map V.int).length 0 (some ((i:Int)+1))=i+1:=by
  have z:=HT.sIx_nat (l.map V.int).length 0 (i+1);rw[aJ]at z ⊢;rw[show((i:Int)+1)=((i+1:Nat):Int)from by lia,z];lia
 have s3:HT.sIx (l.map V.int).length (l.map V.int).length none=l.length:=(by rw[HT.sIx_none,aJ]);have c1:d7 (l.map V.int) none (some (i:Int))=(l.take i).map V.int:=by
  unfold d7;rw[s0,s1];simp
 have c2:d7 (l.map V.int) (some ((i:Int)+1)) none=(l.drop (i+1)).map V.int:=by
  unfold d7;rw[s2,s3,lH (by rw[gZ,aJ];lia),uW]
 have AK:∀p G',Same G G'->G' p=some (.tup ((l.take i++[v]).map V.int))->
   tSl (pq K) (qq jl) (ub (tOp (rI0 λi j=>.int (i+j)) (qq ji) (tC (.int 1)))) lq σ G' λy H2=>jf K (.ref p) y H2 Q\/g0 K (.ref p) y H2 Q:=by
  intro p G' sG hp;have IG:=ha.same sG;refine⟨_,h1,_,h2,_,_,rfl,rfl,_,rfl,a,_,rfl,IG,?_,λp2 f2=>?_⟩
  ·rw[s2];lia
  ·rw[c2];have pp:p≠p2:=aq hp f2;have BC:upd G' p2 (.tup ((l.drop (i+1)).map V.int)) p=some (.tup ((l.take i++[v]).map V.int)):=(by rw[ao pp];exact hp);have FJ:Same G (upd G' p2 (.tup ((l.drop (i+1)).map V.int))):=Same.trans sG (ae f2 _);refine .inl ⟨p,p2,_,_,rfl,rfl,SqT.of BC,SqT.of af,by simp,small (by simp;lia),λe=>?_,λ_ p3 f3=>?_⟩
   ·have e':l.drop (i+1)=[]:=(by simpa using e);refine q p _ FJ ?_;rw[BC,e']
   ·refine q p3 _ (Same.trans FJ (ae f3 _)) ?_;rw[af];simp
 refine⟨_,h1,_,h2,_,rfl,a,_,rfl,ha,?_,λp1 f1=>?_⟩
 ·rw[s1,aJ];lia
 rw[c1];refine⟨_,h3,sz1,λp2 f2=>?_⟩;have RC:p1≠p2:=λe=>(by rw[e,af]at f2;cases f2);have DM:upd (upd G p1 (.tup ((l.take i).map V.int))) p2 (.tup [.int v]) p1=some (.tup ((l.take i).map V.int)):=(by rw[ao RC,af]);have FJ:Same G (upd (upd G p1 (.tup ((l.take i).map V.int))) p2 (.tup [.int v])):=Same.trans (ae f1 _) (ae f2 _);by_cases i0:l.take i=[]
 ·refine .inr ⟨p1,p2,_,rfl,rfl,SqT.of (by rw[DM,i0];rfl),SqT.of af,AK p2 _ FJ ?_⟩;rw[af,i0];rfl
 ·refine .inl ⟨p1,p2,_,_,rfl,rfl,SqT.of DM,SqT.of af,(by simpa using i0),small (by simp;lia),(λe=>by cases e),λ_ p3 f3=>AK p3 _ (Same.trans FJ (ae f3 _)) ?_⟩;rw[af];simp
end
end S63
namespace L2
open PySem PySem.Spec PyProof.Rows
end L2
namespace S63
open PySem L2 Fly
theorem Aw {x:Str}(hl:x.length<=100)(hc:∀c∈x.cps.toList,c < 1000):(qY x).length<=2000:=by
 have z:=StrLaws.reprText_len x λc h=>jE (hc c h) (by decide);lia
theorem Vl (x y:Str):(x++y).cps.toList=x.cps.toList++y.cps.toList:=by
 show(x.cps++y.cps).toList=_;simp
theorem Np {x:Str}(w:vw x):(qY (x++"x")).length<=2000:=by
 refine Aw ?_ λc hc=>?_
 ·rw[oQ];have z:("x":Str).length=1:=(by decide +kernel);have:=w.len;lia
 ·rw[Vl]at hc;rcases fK.mp hc with q | q
  ·have:=(w.cps c q).2;lia
  ·have:∀d∈("x":Str).cps.toList,d < 1000:=(by decide +kernel);exact this c q
theorem qg {x:Str}(w:vw x):(qY x).length<=2000:=Aw (by have:=w.len;lia) λc hc=>by have:=(w.cps c hc).2;lia
theorem Zy {ns:List Str}{v:Int}(h0:0<=v)(h1:v < (ns.length:Int)):∃x∈ns,atI (ns.map V.str) v=some (.str x):=by
 have hk:v.toNat < ns.length:=(by lia);have ek:v=((v.toNat:Nat):Int):=(by lia);have q:atI (ns.map V.str) ((v.toNat:Nat):Int)=some (.str ns[v.toNat]):=bp (by rw[cQ,aK hk]<;>rfl);rw[<-ek]at q;exact⟨_,pU hk,q⟩
theorem vy {i:Int}(h:-1000000000000000000000000000000000000000000000000000000000000<=i/\i<=1000000000000000000000000000000000000000000000000000000000000):i.natAbs.log2 < 1000:=by
 by_cases z:i.natAbs=0
 ·rw[z];decide
 ·have h1:i.natAbs < 2 ^ 500:=nC (show i.natAbs<=1000000000000000000000000000000000000000000000000000000000000 by lia) (by decide);exact jE ((Nat.log2_lt z).mpr h1) (by decide)
theorem p59:(10:Int) ^ ((59:Int).toNat)=100000000000000000000000000000000000000000000000000000000000:=by decide +kernel
def Fb (K:aB):Sp:=λvs H Q _=>∃(x:V)(s:Say),vs=[x]/\Hold K H x s.da/\∀(a:Addr)(xs:List V) (H':Hp),Same H H'->SqT K H' a xs->Holds K H' xs (s.kids.map Say.da)->Q (.ref a) H'
def su (K:aB):Sp:=λvs H Q _=>∃(x:V)(s:Say),vs=[x]/\Hold K H x s.da/\s.size<=500/\∀(r:Addr)(xs:List V) (H':Hp),Same H H'->H' r=some (.lst xs)->Holds K H' xs (s.parts.map Say.da)->Q (.ref r) H'
def Tc (K:aB):Sp:=λvs H Q _=>∃(x:V)(s:Say),vs=[x]/\Hold K H x s.da/\s.size<=500/\∀H':Hp,Same H H'->Q (.bl s.isT) H'
def Td (K:aB):Sp:=λvs H Q _=>∃(x:V)(s:Say),vs=[x]/\Hold K H x s.da/\s.size<=500/\∀H':Hp,Same H H'->Q (.int (s.nts:Int)) H'
theorem Fc:∀l:List Say,l.length<=(l.map Say.size).sum
 | []=>aN _
 |s::r=>by
  have z:=Fc r;have y:=uh s;rw[eE,gU,List.sum_cons];lia
theorem fg {α:Type}(x:α)(xs:List α):atI (x::xs) (0:Int)=some x:=bp (j:=0) rfl
theorem cut1 (x:V)(xs:List V):d7 (x::xs) (some 1) none=xs:=by
 unfold d7;have e:HT.sIx (x::xs).length 0 (some 1)=1:=by
  rw[show(some (1:Int))=some (((1:Nat):Int))from rfl,HT.sIx_nat,eE];lia
 rw[e,HT.sIx_none];show List.take ((x::xs).length - 1) xs=xs;rw[eE,Nat.add_sub_cancel];exact gN
section
variable {P:aU}{w:aZ}{K:aB}{mg:Str->Option aC}{base:Heap}
theorem scHe:aw zzz zzz (aj Kp):=⟨rfl,rfl,rfl,by decide +kernel,rfl,by decide +kernel,by decide +kernel⟩
theorem Vm {f aH:Addr}{fd:bQ}(F:Fun K "held_in" "held_in" Kp f fd)(mH:mg "HOLDING_SORTS"=some (.ref aH))(tH:∀H:Hp,SqT K H aH HS):‹1› f fd zzz (Fb K):=by
 exists F,scHe
 ·obtain⟨x,s,rfl,_⟩:=h;rfl
 obtain⟨x,sy,rfl,hx,q⟩:=h;refine⟨_,ai (de (bx vn (av cq (pv 0) ah (λ_ _=>rfl)) (jd (v:=.ref aH) rfl mH rfl) (by with_unfolding_all rfl)) (ak (az (cn vm (pv 0) (cv ah) cy))) cf) (ak (az (cb ag))),?_⟩
 dsimp only[bh,Cx.nox];obtain⟨a,xs,rfl,ha,hk⟩:=jh hx;refine⟨_,rfl,a,_,_,_,rfl,rfl,ha,fg _ _,aH,HS,rfl,.inr (tH _),rfl,by decide +kernel,_,rfl,?_⟩;show if inV (.str sy.sort) HS=true then _ else _
 rw[Zs];refine fb (λc=>?_) (λc=>?_)
 ·refine⟨_,rfl,_,rfl,a,_,rfl,ha,λz=>?_,λp hp=>?_⟩
  ·have e:HT.sIx (V.str sy.sort::xs).length 0 (some 1)=1:=by
    rw[show(some (1:Int))=some (((1:Nat):Int))from rfl,HT.sIx_nat,eE];lia
   rw[e]at z;exact absurd z.1 (by decide)
  ·rw[cut1];exact q p xs _ (ae hp _) (SqT.of af) (Holds.mono (ae hp _) (hk c))
 ·refine⟨sz0,λp hp=>?_⟩;refine q p [] _ (ae hp _) (SqT.of af) ?_;rw[Ve (by simpa using c)];exact .nil
theorem K0:aw ["saying","parts","waiting","part"] zzz (aj El):=⟨rfl,rfl,rfl,by decide +kernel,rfl,by decide +kernel,by decide +kernel⟩
theorem jj {K:aB}{H:Hp}:∀{xs:List V}{ds:List Da}{d:Da},Holds K H xs (ds++[d])->∃ys y,xs=ys++[y]/\Holds K H ys ds/\Hold K H y d
 | [],[],_,h=>by cases h
 | [],_::_,_,h=>by cases h
 |x::xs,[],d,h=>by
  cases h with
  |cons a r=>
   cases r;exact⟨[],x,rfl,.nil,a⟩
 |x::xs,e::ds,d,h=>by
  cases h with
  |cons a r=>
   obtain⟨ys,y,rfl,h1,h2⟩:=jj r;exact⟨x::ys,y,rfl,.cons a h1,h2⟩
theorem Holds.rev {K:aB}{H:Hp}:∀{xs:List V}{ds:List Da},Holds K H xs ds->Holds K H xs.reverse ds.reverse
 | [],_,h=>by cases h;exact .nil
 |_::_,_,h=>by
  cases h with
  |cons a r=>
   rw[lZ,lZ];exact Holds.append (Holds.rev r) (.one a)
theorem Qo {f g:Addr}{fd gd:bQ}(F:Fun K "parts_of" "parts_of" El f fd)(G:‹1› g gd zzz (Fb K))(bG:Binds K gd zzz [])(kG:aR K (.ref g)=true)(mG:mg "held_in"=some (.ref g)) :
  ‹2› f fd zzz (su K):=by
 exists F,K0
 ·obtain⟨x,s,rfl,_⟩:=h;rfl
 obtain⟨x,sy,rfl,hx,AQ,q⟩:=h;refine⟨_,ai (bf (i:=1) K0.nd rfl (cD rfl) (bc ag)) (ai (bf (i:=2) K0.nd rfl (cD rfl) (bc (aa (pv 0) ag))) (ai (tq fX (tu (pv 2) (λ_=>rfl)) (ai (bf (i:=3) K0.nd rfl (cD rfl) (Ai fG sZ tI Ea (pv 2))) (ai (df (ki fG jF jG gq (pv 1) (aa (pv 3) ag))) (ak (df (ki fG PySem.F.slot_list_extend PySem.F.type_list_extend U5 (pv 2) (aa (Uz (ar G hr rfl mG kG bG .nil bb (aa (pv 3) ag)) (m9 jt ah)) ag))))))) (ak (az (pv 1))))),?_⟩;dsimp only[bh,Cx.nox];refine⟨sz0,λu hu=>⟨_,rfl,sz1,λv hv=>?_⟩⟩;have uv:u≠v:=aq af hv;have OU:H v=none:=Same.free (ae hu _) hv;refine⟨λm σ G=>∃(done BD:List Say)(xs ys:List V) (v3:Option V),σ=[some x,some (.ref u),some (.ref v),v3]/\Same H G/\G u=some (.lst xs)/\G v=some (.lst ys)/\Holds K G xs (done.map Say.da)/\Holds K G ys (BD.map Say.da)/\done++BD.reverse.flatMap Say.parts=sy.parts/\m=(BD.map Say.size).sum/\done.length+(BD.map Say.size).sum=sy.size/\BD.length<=(BD.map Say.size).sum,⟨_,[],[sy],[],[x],none,rfl,Same.put (ae hu _) OU _,(by rw[ao uv,af]),af,.nil,.one (Hold.mono (Same.put (ae hu _) OU _) hx),by simp,rfl,by simp,by simpa using uh sy⟩,?_⟩;intro m σ G AC;obtain⟨done,BD,xs,ys,v3,rfl,sG,gu,gv,hd,hw,ep,em,el,lw⟩:=AC;refine⟨_,rfl,!ys.isEmpty,.inl ⟨ys,SqL.of gv,rfl⟩,?_⟩;have ly:ys.length=BD.length:=(by rw[hw.length,aJ]);have lx:xs.length=done.length:=(by rw[hd.length,aJ]);refine fb (λc=>?_) (λc=>?_)
 ·rcases tJ BD with e | ⟨w0,p,e⟩
  ·subst e;have z:ys=[]:=oN.mp ly;rw[z]at c;cases c
  ·rw[tK]at e;subst e;rw[cU]at hw;obtain⟨zs,y,rfl,hz,hy⟩:=jj hw;have sm:((w0++[p]).map Say.size).sum=(w0.map Say.size).sum+p.size:=(by simp);rw[sm]at em el lw;have w1:w0.length+1<=(w0.map Say.size).sum+p.size:=(by simpa using lw);have ps:=uh p;refine⟨λσ' G'=>∃(done BD:List Say)(xs ys:List V) (v3:Option V),σ'=[some x,some (.ref u),some (.ref v),v3]/\Same H G'/\G' u=some (.lst xs)/\G' v=some (.lst ys)/\Holds K G' xs (done.map Say.da)/\Holds K G' ys (BD.map Say.da)/\done++BD.reverse.flatMap Say.parts=sy.parts/\(BD.map Say.size).sum+1=m/\done.length+(BD.map Say.size).sum=sy.size/\BD.length<=(BD.map Say.size).sum,λσ' G' z=>?_,?_⟩
   ·obtain⟨d',w',CC,FT,v3',z1,z2,z3,z4,z5,z6,z7,z8,z9,z10⟩:=z;exact⟨m - 1,by lia,d',w',CC,FT,v3',z1,z2,z3,z4,z5,z6,z7,by lia,z9,z10⟩
   ·refine⟨_,rfl,.inl ⟨rfl,_,SqL.of gv⟩,v,zs++[y],y,rfl,rfl,gv,by simp,?_⟩;rw[List.dropLast_concat];have t1:Tups G (upd G v (.lst zs)):=Tups.put gv _;refine⟨_,rfl,.inl ⟨rfl,_,SqL.of (by rw[ao uv];exact gu)⟩,_,rfl,u,xs,y,rfl,rfl,(by rw[ao uv];exact gu),bj (by lia),?_⟩;have JV:upd G v (.lst zs) u=some (.lst xs):=(by rw[ao uv];exact gu);have t2:Tups G (upd (upd G v (.lst zs)) u (.lst (xs++[y]))):=t1.trans (Tups.put JV _);have s2:Same H (upd (upd G v (.lst zs)) u (.lst (xs++[y]))):=Same.put (Same.put sG OU _) hu _;have US:upd (upd G v (.lst zs)) u (.lst (xs++[y])) v=some (.lst zs):=(by rw[ao uv.symm,af]);refine⟨_,rfl,.inl ⟨rfl,_,SqL.of US⟩,_,rfl,y,p,rfl,Hold.stay t2 (sr p) hy,λa ks G3 s3 ha hk=>⟨_,rfl,rfl,a,ks,rfl,ha,λt ht=>?_⟩⟩;have UT:G3 v=some (.lst zs):=s3 _ _ US;have vt:v≠t:=aq UT ht;have RD:upd G3 t (.tup ks.reverse) v=some (.lst zs):=(by rw[ao vt];exact UT);have lk:ks.length=p.kids.length:=(by rw[hk.length,aJ]);have szp:=size_eq p;have kl:p.kids.length<=(p.kids.map Say.size).sum:=Fc _;have zl:zs.length=w0.length:=(by rw[hz.length,aJ]);refine⟨v,t,zs,ks.reverse,rfl,rfl,RD,SqT.of af,small (by rw[iJ];lia),?_⟩;have t4:Tups G (upd (upd G3 t (.tup ks.reverse)) v (.lst (zs++ks.reverse))):=(t2.trans (Tups.of s3)).trans ((Tups.of (ae ht _)).trans (Tups.put RD _));have t5:Tups G3 (upd (upd G3 t (.tup ks.reverse)) v (.lst (zs++ks.reverse))):=(Tups.of (ae ht _)).trans (Tups.put RD _);have ut:u≠t:=aq (s3 _ _ af) ht;have fx:∀l:List Say,fixL (l.map Say.da)=true:=λl=>d8 sr l;refine⟨done++[p],w0++p.kids.reverse,xs++[y],zs++ks.reverse,_,rfl,Same.put (Same.put (Same.trans s2 s3) (Same.free (Same.trans s2 s3) ht) _) OU _,(by rw[ao uv,ao ut];exact s3 _ _ af),af,?_,?_,?_,?_,?_,?_⟩
    ·rw[cU];exact Holds.append (Holds.stay t4 (fx _) hd) (.one (Hold.stay t4 (sr p) hy))
    ·rw[cU,pX];exact Holds.append (Holds.stay t4 (fx _) hz) (Holds.stay t5 (by rw[<-pX];exact fx _) (Holds.rev hk))
    ·rw[qI,nW,oH,<-ep,qI];simp[i9 p]
    ·rw[cU,tY,pX,wD];lia
    ·rw[cU,tY,pX,wD,aQ,gK];lia
    ·rw[cU,tY,pX,wD,aQ,iJ];have w2:w0.length<=(w0.map Say.size).sum:=Fc w0;lia
 ·have z:ys=[]:=by
   cases ys with
   |nil=>rfl
   |cons _ _=>exact absurd rfl c
  rw[z]at ly;have e:BD=[]:=oN.mp ly.symm;subst e;refine⟨_,rfl,q u xs G sG gu ?_⟩;rw[<-ep];simpa using hd
end
end S63
namespace L2
open PySem PySem.Spec PyProof.Rows
theorem ip {X:Cx}{ns:List Str}{sc:gQ}(kind:sc.kind=.function)(nofree:∀y∈sc.names,y.2≠.free)(nocell:∀y∈sc.names,y.2≠.cell)(locs:∀y∈sc.names,y.2=.local->sc.names.lookup y.1=some .local):cp X ns [] [] sc [] where
 clos:=closureFor_none nofree
 kind:=kind
 nocell:=nocell
 locs:=locs
 sub:=λp hp=>nomatch hp
 has:=λy h=>by
  have e:(nJ sc X.env).names=sc.names:=map_eq_self λp hp=>by
   obtain⟨n,k⟩:=p;have z:(k == NameKind.free)=false:=(by simpa using nofree _ hp);simp[z]
  rw[e]at h;rcases h with h | h
  ·exact absurd rfl (nocell _ (di h))
  ·exact absurd rfl (nofree _ (di h))
 len:=rfl
 outs:=λj y e=>by cases j<;>cases e
end L2
namespace S63
open PySem L2
def Xv:gQ:={ kind:=.function,names:=[(".0",.local),("part",.local),("TEST_SORTS",.globalImplicit)],isGenerator:=false,isCoroutine:=false,more:=[] }
def Xw:gQ:={ kind:=.function,names:=[(".0",.local),("part",.local)],isGenerator:=false,isCoroutine:=false,more:=[] }
section
variable {P:aU}{w:aZ}{K:aB}{mg:Str->Option aC}{base:Heap}
theorem csC1 {X:Cx}:cp X ["part"] [] [] Xv []:=ip rfl (by decide +kernel) (by decide +kernel) (by decide +kernel)
theorem csC2 {X:Cx}:cp X ["part"] [] [] Xw []:=ip rfl (by decide +kernel) (by decide +kernel) (by decide +kernel)
theorem scTe:aw zzz zzz (aj Qf):=⟨rfl,rfl,rfl,by decide +kernel,rfl,by decide +kernel,by decide +kernel⟩
theorem Xx {f g aT:Addr}{fd gd:bQ}(F:Fun K "is_test" "is_test" Qf f fd)(G:‹2› g gd zzz (su K))(bG:Binds K gd zzz [])(kG:aR K (.ref g)=true)(mG:mg "parts_of"=some (.ref g))
  (ma:mg "all"=none) (mT:mg "TEST_SORTS"=some (.ref aT)) (tT:∀H:Hp,SqT K H aT TS):‹3› f fd zzz (Tc K):=by
 exists F,scTe
 ·obtain⟨x,s,rfl,_⟩:=h;rfl
 obtain⟨x,sy,rfl,hx,AQ,q⟩:=h;refine⟨_,ak (az (bz (M6 rfl) rfl ma (by kernel_rfl) (aa (dz (ns:=["part"]) (ys:=[]) (sc:=Xv) csC1 rfl (c7 (ar G hr rfl mG kG bG .nil bb (aa (pv 0) ag))) (λC s H fp=>bo (i:=0) (by show(["part"]:List Str).Nodup;decide +kernel) rfl (cD rfl)) (λC s H fp=>cz) (λC s H fp=>iy (r:=rIn K false) vn (av (r:=D7 K) cq (pv 0) ah (λ_ _=>rfl)) (jd (v:=.ref aT) rfl mT rfl) (by with_unfolding_all rfl))) ag))),?_⟩
 dsimp only[bh,Cx.nox];refine⟨_,rfl,x,sy,rfl,hx,AQ,λr xs G1 s1 gr hd=>⟨r,rfl,⟨_,SqL.of gr⟩,λD hD=>?_⟩⟩;have lx:xs.length=sy.size:=(by rw[hd.length,aJ,ig]);refine dy (K:=K) (a:=r) (xs:=xs) (λi ys G2=>Same G1 G2/\G2 D=some (.lst ys)/\ys=((sy.parts.take i).map Say.inT).map V.bl) ⟨ae hD _,af,rfl⟩ (λi ys G2 z=>z.2.1) (λi ys G2 _ z=>SqL.of (z.1 _ _ gr)) ?_ ?_
 ·intro i x' ys G2 DL AC;obtain⟨s2,d2,rfl⟩:=AC;obtain⟨p,ep,hp⟩:=hd.getm DL;obtain⟨a,zs,rfl,ha,_⟩:=jh hp;have il:i < sy.parts.length:=(aM.mp ep).1;rw[ig]at il;refine⟨bj (by rw[aJ,aJ,cK];lia),⟨[some _],rfl,rfl⟩,?_⟩;refine⟨_,rfl,a,_,_,_,rfl,rfl,ha.same s2,fg _ _,aT,TS,rfl,.inr (tT _),rfl,by decide +kernel,d2,Same.put s2 hD _,af,?_⟩;rw[eX,ep];show _++[V.bl (inV (.str p.sort) TS)]=_;rw[Zt];simp
 ·intro ys G2 AC;obtain⟨s2,d2,rfl⟩:=AC;refine⟨D,_,rfl,SqL.of d2,?_⟩;have e:((sy.parts.take xs.length).map Say.inT).all id=sy.isT:=by
   rw[lx,<-ig,gN,<-Kn,yQ];rfl
  rw[e];exact q G2 (Same.trans s1 s2)
theorem scNo:aw zzz zzz (aj Qg):=⟨rfl,rfl,rfl,by decide +kernel,rfl,by decide +kernel,by decide +kernel⟩
theorem Xy {f g:Addr}{fd gd:bQ}(F:Fun K "notes_in" "notes_in" Qg f fd)(G:‹2› g gd zzz (su K))(bG:Binds K gd zzz [])(kG:aR K (.ref g)=true)(mG:mg "parts_of"=some (.ref g))
  (ml:mg "len"=none):‹3› f fd zzz (Td K):=by
 exists F,scNo
 ·obtain⟨x,s,rfl,_⟩:=h;rfl
 obtain⟨x,sy,rfl,hx,AQ,q⟩:=h;refine⟨_,ak (az (bz cg rfl ml gT (aa (dz (ns:=["part"]) (ys:=[]) (sc:=Xw) csC2 rfl (c7 (ar G hr rfl mG kG bG .nil bb (aa (pv 0) ag))) (λC s H fp=>bo (i:=0) (by show(["part"]:List Str).Nodup;decide +kernel) rfl (cD rfl)) (λC s H fp=>Ic (bx e9 (av (r:=D7 K) cq (pv 0) ah (λ_ _=>rfl)) bg (bw _))) (λC s H fp=>pv 0)) ag))),?_⟩;dsimp only[bh,Cx.nox];refine⟨_,rfl,x,sy,rfl,hx,AQ,λr xs G1 s1 gr hd=>⟨r,rfl,⟨_,SqL.of gr⟩,λD hD=>?_⟩⟩;have lx:xs.length=sy.size:=(by rw[hd.length,aJ,ig]);refine dy (K:=K) (a:=r) (xs:=xs) (λi ys G2=>Same G1 G2/\G2 D=some (.lst ys)/\ys.length=((sy.parts.take i).filter Say.isN).length) ⟨ae hD _,af,rfl⟩ (λi ys G2 z=>z.2.1) (λi ys G2 _ z=>SqL.of (z.1 _ _ gr)) ?_ ?_
 ·intro i x' ys G2 DL AC;obtain⟨s2,d2,e2⟩:=AC;obtain⟨p,ep,hp⟩:=hd.getm DL;obtain⟨a,zs,rfl,ha,_⟩:=jh hp;have il:i < sy.parts.length:=(aM.mp ep).1;rw[ig]at il;have yl:ys.length<=i:=by
   rw[e2];exact cH (List.length_filter_le _ _) (by rw[cK];lia)
  have e3:((sy.parts.take (i+1)).filter Say.isN).length=ys.length+(if p.isN=true then 1 else 0):=by
   rw[eX,ep,List.filter_append,aQ,<-e2];cases q:p.isN<;>simp[q]
  refine⟨bj (by lia),⟨[some _],rfl,rfl⟩,?_⟩;refine⟨_,rfl,a,_,_,_,rfl,rfl,ha.same s2,fg _ _,rfl,_,rfl,?_⟩;rw[is_N];refine fb (λc=>?_) (λc=>?_)
  ·refine⟨_,rfl,d2,Same.put s2 hD _,af,?_⟩;rw[e3,if_pos c,aQ];rfl
  ·refine⟨s2,d2,?_⟩;rw[e3,if_neg c];rfl
 ·intro ys G2 AC;obtain⟨s2,d2,e2⟩:=AC;refine⟨D,ys,rfl,.inl (SqL.of d2),?_⟩;rw[e2,lx,<-ig,gN,x8];exact q G2 (Same.trans s1 s2)
end
end S63
namespace L2
theorem ifS {c:TT}{a b:TS}{D:gg}{σ:St}{H:Hp}(R T:Hp->Prop)(hc:∀k:Bool->Hp->Prop,(∀G,R G->k false G)->(∀G,T G->k true G)->c σ H k)(ha:∀G,T G->a D σ G)(hb:∀G,R G->b D σ G):Pm c a b D σ H:=
 hc _ (λG r=>dh (hb G r)) (λG t=>iz (ha G t))
theorem andV {ta tb:TE}{σ:St}{H:Hp}{Q:VK}{c d:Bool}(h1:∀k:VK,k (.bl c) H->ta σ H k)(h2:∀k:VK,k (.bl d) H->tb σ H k)(q:Q (.bl (c && d)) H):Su ta tb σ H Q:=by
 refine h1 _ ⟨c,rfl,?_⟩;cases c with
 |false=>exact dh q
 |true=>exact iz (h2 _ q)
end L2
namespace S63
open PySem L2
abbrev dk:=Say×Int
def fz (i:dk):Da:=.lst [i.1.da,.flat (.bl i.1.isT),.flat (.int (i.1.nts:Int)),.flat (.int i.2)]
def d0 (is:List dk):Nat:=(is.map λi=>i.1.size).sum
theorem d4 (a b:List dk):d0 (a++b)=d0 a+d0 b:=by simp[d0]
theorem eh (i:dk):d0 [i]=i.1.size:=by simp[d0]
theorem yq:∀is:List dk,is.length<=d0 is
 | []=>aN _
 |i::r=>by
  have z:=yq r;have y:=uh i.1;show r.length+1<=d0 ([i]++r);rw[d4,eh];lia
theorem Keep.trans {p:Addr}{H G G':Hp}(a:Keep p H G)(b:Keep p G G'):Keep p H G':=λc o h e=>b c o h (a c o h e)
theorem Keep.new {p t:Addr}{H G:Hp}(a:Keep p H G)(h:G t=none)(o:HO):Keep p H (upd G t o):=λc u hc e=>by
 have z:=a c u hc e;rw[ao (aq z h)];exact z
theorem oa {K:aB}{H:Hp}{x:V}{i:dk}(h:Hold K H x (fz i)):∃a y,x=.ref a/\SqL K H a [y,.bl i.1.isT,.int (i.1.nts:Int),.int i.2]/\Hold K H y i.1.da:=by
 obtain⟨a,xs,e,ha,hd⟩:=Hold.lstI h;cases hd with
 |cons h1 r1=>
  cases r1 with
  |cons h2 r2=>
   cases r2 with
   |cons h3 r3=>
    cases r3 with
    |cons h4 r4=>
     cases r4;cases h2.flatI;cases h3.flatI;cases h4.flatI;exact⟨a,_,e,ha,h1⟩
theorem j4 {K:aB}{H:Hp}{a:Addr}{y:V}{i:dk}{t:Bool}{n:Int}(ha:H a=some (.lst [y,.bl t,.int n,.int i.2]))(hy:Hold K H y i.1.da)(ht:t=i.1.isT)(hn:n=(i.1.nts:Int)):Hold K H (.ref a) (fz i):=by
 subst ht hn;exact .lst (SqL.of ha) (.cons hy (.cons (.flat rfl) (.cons (.flat rfl) (.cons (.flat rfl) .nil))))
theorem Fd (ys:List V)(a:V):d7 (ys++[a]) none (some (-1))=ys:=by
 unfold d7;have e:HT.sIx (ys++[a]).length (ys++[a]).length (some (-1))=ys.length:=by
  show(if (-1:Int) < 0 then ((-1:Int)+((ys++[a]).length:Int)).toNat else min (-1:Int).toNat (ys++[a]).length)=_
  rw[if_pos (by decide),aQ,gK];lia
 rw[e,HT.sIx_none,rO,wF];exact List.take_left
theorem Qp (ys:List V)(a b:V):d7 (ys++[a,b]) none (some (-2))=ys:=by
 unfold d7;have e:HT.sIx (ys++[a,b]).length (ys++[a,b]).length (some (-2))=ys.length:=by
  show(if (-2:Int) < 0 then ((-2:Int)+((ys++[a,b]).length:Int)).toNat else min (-2:Int).toNat (ys++[a,b]).length)=_
  rw[if_pos (by decide),aQ];show((-2:Int)+((ys.length+2:Nat):Int)).toNat=ys.length;lia
 rw[e,HT.sIx_none,rO,wF];exact List.take_left
theorem Nq (ys:List V)(a b:V):d7 (ys++[a,b]) (some (-2)) none=[a,b]:=by
 unfold d7;have e:HT.sIx (ys++[a,b]).length 0 (some (-2))=ys.length:=by
  show(if (-2:Int) < 0 then ((-2:Int)+((ys++[a,b]).length:Int)).toNat else min (-2:Int).toNat (ys++[a,b]).length)=_
  rw[if_pos (by decide),aQ];show((-2:Int)+((ys.length+2:Nat):Int)).toNat=ys.length;lia
 rw[e,HT.sIx_none,List.drop_left,aQ,Nat.add_sub_cancel_left];rfl
section
variable {P:aU}{w:aZ}{K:aB}{mg:Str->Option aC}{base:Heap}
theorem Qq:aw ["_law_sort","_law_purse_here","_law_speech_here","_law_field","_law_count"] zzs (aj Kt):=⟨rfl,rfl,rfl,by decide +kernel,rfl,by decide +kernel,by decide +kernel⟩
theorem Hj {xs:List V}{AV:List dk}{i1 i2:dk}{H:Hp}(h:Holds K H xs ((AV++[i1,i2]).map fz)):∃ys x1 x2,xs=ys++[x1,x2]/\Holds K H ys (AV.map fz)/\Hold K H x1 (fz i1)/\Hold K H x2 (fz i2):=by
 have e:(AV++[i1,i2]).map fz=(AV.map fz++[fz i1])++[fz i2]:=(by simp);rw[e]at h;obtain⟨zs,x2,rfl,h1,h2⟩:=jj h;obtain⟨ys,x1,rfl,h3,h4⟩:=jj h1;exact⟨ys,x1,x2,by simp,h3,h4,h2⟩
theorem K1:aw ["_law_row","_law_word","_law_one","_law_other","_law_made"] zzk (aj Bw):=⟨rfl,rfl,rfl,by decide +kernel,rfl,by decide +kernel,by decide +kernel⟩
end
end S63
namespace L2
open PySem
theorem ifQ {c:TT}{a b u:TS}{D:gg}{σ:St}{H:Hp}(R T:Hp->Prop)(hc:∀k:Bool->Hp->Prop,(∀G,R G->k false G)->(∀G,T G->k true G)->c σ H k)(ha:∀G,T G->a { D with nx:=u D } σ G)(hb:∀G,R G->b { D with nx:=u D } σ G):W9 (Pm c a b) u D σ H:=ifS R T hc ha hb
end L2
namespace S63
open PySem L2
def Xz:gQ:={ kind:=.function,names:=[(".0",.local),("_law_one",.local)],isGenerator:=false,isCoroutine:=false,more:=[] }
theorem csC3 {X:Cx}:cp X ["_law_one"] [] [] Xz []:=ip rfl (by decide +kernel) (by decide +kernel) (by decide +kernel)
def ng (H:Hp)(p:Addr)(G:Hp):Prop:=Same H G/\∃a b:Int,G p=some (.lst [.int a,.int b])/\0<=a/\0<=b
section
variable {P:aU}{w:aZ}{K:aB}{mg:Str->Option aC}{base:Heap}
theorem Fe:aw ["_law_row","_law_cell_here","_law_speech_here","_law_most","_law_purse_here","_law_sort","_law_last"] zzx (aj Ep):=
 ⟨rfl,rfl,rfl,by decide +kernel,rfl,by decide +kernel,by decide +kernel⟩
end
open Fly PyProof.Rows
inductive Flt where
 |field (f:Str)
 |value (v:Int)
 |test (s:Say)
def dj (ws:List (Str×Nat))(x:Str)(v:Int):Option Flt:=
 match look ws x with
 |none=>some (.field x)
 |some (_,c)=>if 0<=v/\v < (c:Int)then none else some (.value v)
def Say.own (ws:List (Str×Nat)):Say->Option Flt
 | .is f v=>dj ws f.1 v.1
 | .put f v=>dj ws f.1 v.1
 | .no s=>if s.isT=true then none else some (.test s)
 |_=>none
def Say.due (ws:List (Str×Nat)):Say->Option Flt
 | .is f v=>dj ws f.1 v.1
 | .put f v=>dj ws f.1 v.1
 | .no s=>if s.isT=true then s.due ws else some (.test s)
 | .again s=>s.due ws
 | .either a b=>(a.due ws).or (b.due ws)
 | .both a b=>(a.due ws).or (b.due ws)
 |_=>none
theorem Nr (ws:List (Str×Nat))(s:Say):s.parts.findSome? (Say.own ws)=s.due ws:=by
 induction s with
 |no s ih=>
  rw[Say.parts,lE,Say.own,Say.due,ih];by_cases h:s.isT=true
  ·rw[if_pos h,if_pos h]
  ·rw[if_neg h,if_neg h]
 |again s ih=>rw[Say.parts,lE,Say.due,ih];rfl
 |either a b ia ib=>rw[Say.parts,lE,Say.due,List.findSome?_append,ia,ib];rfl
 |both a b ia ib=>rw[Say.parts,lE,Say.due,List.findSome?_append,ia,ib];rfl
 |is f v=>
  show List.findSome? (Say.own ws) [Say.is f v]=dj ws f.1 v.1;rw[lE,Say.own];cases dj ws f.1 v.1<;>rfl
 |put f v=>
  show List.findSome? (Say.own ws) [Say.put f v]=dj ws f.1 v.1;rw[lE,Say.own];cases dj ws f.1 v.1<;>rfl
 |_=>rfl
def FOut (K:aB)(H:Hp)(E:XK)(cF cV cT:Addr):Flt->Prop
 | .field x=>∀dx H',Same H H'->H' dx=some (.xd [("field",.str x)])->E (.ref cF) (some dx) H'
 | .value v=>∀dx H',Same H H'->H' dx=some (.xd [("value",.int v)])->E (.ref cV) (some dx) H'
 | .test t=>∀dx y H',Same H H'->H' dx=some (.xd [("saying",y)])->Hold K H' y t.da->E (.ref cT) (some dx) H'
theorem FOut.later {K:aB}{H G:Hp}{E:XK}{cF cV cT:Addr}{f:Flt}(h:FOut K H E cF cV cT f)(s:Same H G):FOut K G E cF cV cT f:=by
 cases f with
 |field x=>exact λdx H' z=>h dx H' (Same.trans s z)
 |value v=>exact λdx H' z=>h dx H' (Same.trans s z)
 |test t=>exact λdx y H' z=>h dx y H' (Same.trans s z)
def X0 (K:aB)(cT:Addr):Sp:=λvs H Q E=>∃(x:V)(s:Say),vs=[x]/\Hold K H x s.da/\s.size<=500/\(s.isT=true->∀H',Same H H'->Q .non H')/\(s.isT=false->∀dx y H',Same H H'->H' dx=some (.xd [("saying",y)])->Hold K H' y s.da->E (.ref cT) (some dx) H')
def X1 (K:aB)(cF cV cT:Addr):Sp:=λvs H Q E=>∃(sp:Addr)(x:V) (ws:List (Str×Nat)) (s:Say),vs=[.ref sp,x]/\Hold K H (.ref sp) (fw ws)/\Hold K H x s.da/\s.size<=500/\(s.own ws=none->∀H',Same H H'->Q .non H')/\(∀f,s.own ws=some f->FOut K H E cF cV cT f)
def Qr (K:aB)(cF cV cT:Addr):Sp:=λvs H Q E=>∃(sp:Addr)(x:V) (ws:List (Str×Nat)) (s:Say),vs=[.ref sp,x]/\Hold K H (.ref sp) (fw ws)/\Hold K H x s.da/\s.size<=500/\(s.due ws=none->∀H',Same H H'->Q .non H')/\(∀f,s.due ws=some f->FOut K H E cF cV cT f)
def FS:List V:=[.str "is",.str "put"]
def Say.isF:Say->Bool
 | .is _ _=>true | .put _ _=>true
 |_=>false
theorem Zz (s:Say):inV (.str s.sort) FS=s.isF:=by cases s<;>kernel_rfl
theorem X2 {ws:List (Str×Nat)}{x:Str}{v:Int}{K:aB}{H:Hp}{E:XK}{cF cV cT:Addr}{HE:Nat->Prop}(h1:dj ws x v=none->∀i,HE i)(h2:∀f,dj ws x v=some f->FOut K H E cF cV cT f):Xu ws x v cF cV H E HE where
 no:=λl=>h2 (.field x) (by unfold dj;rw[l])
 bad:=λi c l n=>h2 (.value v) (by unfold dj;rw[l];exact if_neg n)
 ok:=λi c l g=>h1 (by unfold dj;rw[l];exact if_pos g) i
def Say.isNo:Say->Bool
 | .no _=>true
 |_=>false
theorem Te (s:Say):decide (V.str s.sort=V.str "not")=s.isNo:=by cases s<;>kernel_rfl
theorem Qs {K:aB}{H:Hp}{x:V}{s:Say}(ws:List (Str×Nat))(h:Hold K H x s.da)(hf:s.isF=true):∃(a:Addr)(fx:Fld) (vx:Num),x=.ref a/\SqT K H a [.str s.sort,.str fx.1,.int vx.1]/\s.own ws=dj ws fx.1 vx.1/\s.isNo=false:=by
 cases s
 case is f v=>
  obtain⟨a,ys,e,ha,hd⟩:=Hold.tupI h;cases hd with
  |cons h1 r1=>cases r1 with
   |cons h2 r2=>cases r2 with
    |cons h3 r3=>
     cases r3;cases h1.flatI;cases h2.flatI;cases h3.flatI;exact⟨a,f,v,e,ha,rfl,rfl⟩
 case put f v=>
  obtain⟨a,ys,e,ha,hd⟩:=Hold.tupI h;cases hd with
  |cons h1 r1=>cases r1 with
   |cons h2 r2=>cases r2 with
    |cons h3 r3=>
     cases r3;cases h1.flatI;cases h2.flatI;cases h3.flatI;exact⟨a,f,v,e,ha,rfl,rfl⟩
 all_goals cases hf
theorem Vn {K:aB}{H:Hp}{x:V}{s:Say}(h:Hold K H x s.da)(hf:s.isNo=true):∃(a:Addr)(y:V) (t:Say),s=.no t/\x=.ref a/\SqT K H a [.str s.sort,y]/\Hold K H y t.da:=by
 cases s
 case no t=>
  obtain⟨a,ys,e,ha,hd⟩:=Hold.tupI h;cases hd with
  |cons h1 r1=>cases r1 with
   |cons h2 r2=>cases r2;cases h1.flatI;exact⟨a,_,t,rfl,e,ha,h2⟩
 all_goals cases hf
theorem Qt {ws:List (Str×Nat)}{s:Say}(h1:s.isF=false)(h2:s.isNo=false):s.own ws=none:=by cases s<;>first | rfl | exact absurd h1 (by decide) | exact absurd h2 (by decide) | (simp[Say.isF]at h1;done) | (simp[Say.isNo]at h2;done)
section
variable {P:aU}{w:aZ}{K:aB}{mg:Str->Option aC}{base:Heap}{cF cV cT:Addr}
theorem scMT:aw zzz zzz (aj En):=⟨rfl,rfl,rfl,by decide +kernel,rfl,by decide +kernel,by decide +kernel⟩
theorem Qu {f fT fI:Addr}{fd EF FI:bQ}(F:Fun K "must_test" "must_test" En f fd)(c:i5 K cT)(n:NoAttr K cT "saying")(hi:bK K (.ref cT) "__init__"=some (some (.ref fI)))(lf:∃oI,K.lookup fI=some oI/\oI.cls=.type "function")
  (GI:‹1› fI FI zzo (kq K cT "saying" λ_=>True)) (bI:Binds K FI zzo []) (mC:mg "NoTest"=some (.ref cT))
  (GT:‹3› fT EF zzz (Tc K)) (bT:Binds K EF zzz []) (kT:aR K (.ref fT)=true) (mT:mg "is_test"=some (.ref fT)):FnOk P w K mg base (CXx P w) 4 f fd zzz (X0 K cT):=by
 refine F.okX scMT (λvs H Q E h=>?_) (λAF A outer s H vs Q E hr h=>?_)
 ·obtain⟨x,sy,rfl,_⟩:=h;rfl
 obtain⟨x,sy,rfl,hx,AQ,q1,q2⟩:=h;refine⟨_,ak (de (D1 (nq (ar GT hr rfl mT kT bT .nil bb (aa (pv 0) ag)))) (ak (ug c (uf c hi lf GI (hr.mono (by decide)) rfl mC bI (aa (pv 0) ag)))) cf),?_⟩;dsimp only[bh,Cx.nox];refine⟨_,rfl,x,sy,rfl,hx,AQ,λG1 s1=>⟨_,rfl,?_⟩⟩;cases ht:sy.isT with
 |true=>exact dh (q1 ht G1 s1)
 |false=>
  refine iz ⟨_,rfl,(by show 1<=100;decide),λe he=>⟨e,x,rfl,c,n,trivial,af,λdx hd ne=>⟨rfl,e,some dx,rfl,af,Same.free s1 he,?_⟩⟩⟩;obtain⟨z1,z2,_⟩:=qf (o2:=.xd [("saying",x)]) (o3:=ft e cT (some dx)) he hd ne;exact q2 ht dx x _ (Same.trans s1 z1) z2 (Hold.mono (Same.trans s1 z1) hx)
theorem scMP:aw zz9 zz9 (aj Em):=⟨rfl,rfl,rfl,by decide +kernel,rfl,by decide +kernel,by decide +kernel⟩
theorem Qv {f fP fT aF:Addr}{fd FK EF:bQ}(F:Fun K "must_part" "must_part" Em f fd)
  (GP:FnOk P w K mg base (CXx P w) 4 fP FK zzi (B2 K cF cV)) (bP:Binds K FK zzi []) (kP:aR K (.ref fP)=true) (mP:mg "place_of"=some (.ref fP))
  (GT:FnOk P w K mg base (CXx P w) 4 fT EF zzz (X0 K cT)) (bT:Binds K EF zzz []) (kT:aR K (.ref fT)=true) (mT:mg "must_test"=some (.ref fT))
  (mF:mg "FIELD_SORTS"=some (.ref aF)) (tF:∀H:Hp,SqT K H aF FS):FnOk P w K mg base (CXx P w) 5 f fd zz9 (X1 K cF cV cT):=by
 refine F.okX scMP (λvs H Q E h=>?_) (λAF A outer s H vs Q E hr h=>?_)
 ·obtain⟨sp,x,ws,sy,rfl,_⟩:=h;rfl
 obtain⟨sp,x,ws,sy,rfl,hs,hx,AQ,q1,q2⟩:=h;refine⟨_,ai (de (bx vn (av cq (pv 1) ah (λ_ _=>rfl)) (jd (v:=.ref aF) rfl mF rfl) (by with_unfolding_all rfl)) (ak (df (ar GP hr rfl mP kP bP .nil qe (aa (pv 0) (aa (av cq (pv 1) ah (λ_ _=>rfl)) (aa (av cq (pv 1) ah (λ_ _=>rfl)) ag)))))) cf) (ak (de (bx e9 (av cq (pv 1) ah (λ_ _=>rfl)) bg (bw _)) (ak (df (ar GT hr rfl mT kT bT .nil qe (aa (av cq (pv 1) ah (λ_ _=>rfl)) ag)))) cf)),?_⟩
 dsimp only[bh,Cx.nox];obtain⟨a,xs,rfl,ha,hk⟩:=jh hx;refine⟨_,rfl,a,_,_,_,rfl,rfl,ha,fg _ _,aF,FS,rfl,.inr (tF _),rfl,by decide +kernel,_,rfl,?_⟩;show if inV (.str sy.sort) FS=true then _ else _
 rw[Zz];refine fb (λc=>?_) (λc=>?_)
 ·obtain⟨b,fx,vx,e,hb,ho,hn⟩:=Qs ws hx c;cases e;refine⟨_,rfl,_,rfl,a,_,_,_,rfl,rfl,hb,rfl,_,rfl,a,_,_,_,rfl,rfl,hb,rfl,sp,ws,fx.1,vx.1,rfl,hs,vx.2,fx.2,X2 (K:=K) (cT:=cT) (λz i H' s'=>?_) (λf z=>?_)⟩
  ·refine⟨_,rfl,a,_,_,_,rfl,rfl,hb.same s',rfl,rfl,_,rfl,?_⟩;show if decide (V.str sy.sort=V.str "not")=true then _ else _
   rw[Te,hn];exact q1 (ho.trans z) H' s'
  ·exact q2 f (ho.trans z)
 ·refine⟨_,rfl,a,_,_,_,rfl,rfl,ha,fg _ _,rfl,_,rfl,?_⟩;show if decide (V.str sy.sort=V.str "not")=true then _ else _
  rw[Te];refine fb (λd=>?_) (λd=>?_)
  ·obtain⟨b,y,t,rfl,e,hb,hy⟩:=Vn hx d;cases e;refine⟨_,rfl,a,_,_,_,rfl,rfl,hb,rfl,y,t,rfl,hy,?_,λz H' s'=>?_,λz dx y' H' s' hd hh=>?_⟩
   ·have:t.size+1<=500:=AQ;lia
   ·exact q1 (if_pos z) H' s'
   ·exact q2 (.test t) (if_neg (by rw[z];decide)) dx y' H' s' hd hh
  ·exact q1 (Qt (by simpa using c) (by simpa using d)) H (Same.refl _)
theorem X3:aw ["speech","saying","part"] zzr (aj Kq):=⟨rfl,rfl,rfl,by decide +kernel,rfl,by decide +kernel,by decide +kernel⟩
theorem B3 {s p:Say}(h:p∈s.parts):p.size<=s.size:=by
 induction s with
 |no s ih=>
  rcases aX.mp h with e | e
  ·rw[e];exact aN _
  ·have:=ih e;show p.size<=s.size+1;lia
 |again s ih=>
  rcases aX.mp h with e | e
  ·rw[e];exact aN _
  ·have:=ih e;show p.size<=s.size+1;lia
 |either a b ia ib=>
  rcases aX.mp h with e | e
  ·rw[e];exact aN _
  ·show p.size<=a.size+b.size+1;rcases fK.mp e with z | z
   ·have:=ia z;lia
   ·have:=ib z;lia
 |both a b ia ib=>
  rcases aX.mp h with e | e
  ·rw[e];exact aN _
  ·show p.size<=a.size+b.size+1;rcases fK.mp e with z | z
   ·have:=ia z;lia
   ·have:=ib z;lia
 |_=>rw[eG.mp h];exact aN _
theorem Vo {α β:Type}{f:α->Option β}{l:List α}{i:Nat}{x:α}{r:Option β}(hx:l[i]?=some x)(h:(l.drop i).findSome? f=r):(∀y,f x=some y->r=some y)/\(f x=none->(l.drop (i+1)).findSome? f=r):=by
 have hi:i < l.length:=(aM.mp hx).1;have e:l.drop i=x::l.drop (i+1):=by
  rw[iY hi,(aM.mp hx).2]
 rw[e,lE]at h;constructor
 ·intro y q;rw[q]at h;exact h.symm
 ·intro q;rw[q]at h;exact h
theorem Vp {f fA fP:Addr}{fd UU FK:bQ}(F:Fun K "must_saying" "must_saying" Kq f fd)
  (GA:‹2› fA UU zzz (su K)) (bA:Binds K UU zzz []) (kA:aR K (.ref fA)=true) (mA:mg "parts_of"=some (.ref fA))
  (GP:FnOk P w K mg base (CXx P w) 5 fP FK zz9 (X1 K cF cV cT)) (bP:Binds K FK zz9 []) (kP:aR K (.ref fP)=true) (mP:mg "must_part"=some (.ref fP)):FnOk P w K mg base (CXx P w) 6 f fd zzr (Qr K cF cV cT):=by
 refine F.okX X3 (λvs H Q E h=>?_) (λAF A outer s H vs Q E hr h=>?_)
 ·obtain⟨sp,x,ws,sy,rfl,_⟩:=h;rfl
 obtain⟨sp,x,ws,sy,rfl,hs,hx,AQ,q1,q2⟩:=h;refine⟨_,ak (fh PassesOwn.leaving rfl (c7 (ar GA (hr.mono (by decide)) rfl mA kA bA .nil bb (aa (pv 1) ag))) (bo (i:=2) X3.nd rfl (cD rfl)) (ak (df (ar GP hr rfl mP kP bP .nil qe (aa (pv 0) (aa (pv 2) ag)))))),?_⟩;dsimp only[bh,Cx.nox];refine⟨_,rfl,x,sy,rfl,hx,AQ,λr xs G1 s1 gr hd=>⟨r,rfl,⟨_,SqL.of gr⟩,i7 (K:=K) (a:=r) (xs:=xs) (λi σ G=>∃v2:Option V,σ=[some (.ref sp),some x,v2]/\Same G1 G/\(sy.parts.drop i).findSome? (Say.own ws)=sy.due ws) ⟨none,rfl,Same.refl _,Nr ws sy⟩ (λi σ G _ AD=>by obtain⟨_,_,sG,_⟩:=AD;exact SqL.of (sG _ _ gr)) ?_ ?_⟩⟩
 ·intro i y σ G hy AC;obtain⟨v2,rfl,sG,lk⟩:=AC;generalize AJ:gg.mk _ _ _ _=BG;revert AJ BG;refine id ?_;intro BG AJ;obtain⟨p,ep,hp⟩:=hd.getm hy;obtain⟨n1,n2⟩:=Vo ep lk;have pz:=B3 (bV ep);refine⟨_,rfl,_,rfl,sp,y,ws,p,rfl,Hold.mono (Same.trans s1 sG) hs,Hold.mono sG hp,by lia,λz H' s'=>?_,λf z=>?_⟩
  ·subst AJ;exact⟨_,rfl,Same.trans sG s',n2 z⟩
  ·exact(q2 f (n1 f z)).later (Same.trans s1 sG)
 ·intro σ G AC;obtain⟨v2,rfl,sG,lk⟩:=AC;have lx:xs.length=sy.parts.length:=(by rw[hd.length,aJ]);rw[lx,pW]at lk;exact q1 lk.symm G (Same.trans s1 sG)
end
section
variable {P:aU}{w:aZ}{K:aB}{mg:Str->Option aC}{base:Heap}
theorem Ff:aw ["_law_cells","_law_speech_here","_law_most","_law_row","_law_cell_here"] zzq (aj Bx):=⟨rfl,rfl,rfl,by decide +kernel,rfl,by decide +kernel,by decide +kernel⟩
end
end S63
namespace L2
open PySem PySem.Spec PyProof.Rows
theorem j5 {X:Cx}{i0:Nat}{y0:Str}{py ML:Pos}{EN iter tg:Expr}{DR:List Expr}{sc:gQ}{pos:Pos}{ns ys:List Str}{fr:List Nat}{cl:List (Str×Addr)}{wi:TI}{g:TG}{tt:TT}{te:TE}(hN:X.N.Nodup)(hi0:X.N[i0]?=some y0)(JW:X.env.scope.names.lookup y0=some .local)(S:cp X ns ys fr sc cl)(hc:X.calm=true)
  (hi:PI X tg iter wi) (hg:∀C s H fp,PG (cxC X (ns++ys) sc cl C s H fp) tg g) (ht:∀C s H fp,PTs (cxC X (ns++ys) sc cl C s H fp) DR tt) (he:∀C s H fp,PE (cxC X (ns++ys) sc cl C s H fp) EN te)
  (hs:∀x,vB iter X.env x=pure x:=by intro _;rfl) (hsw:qU (.ListComp EN [⟨tg,iter,DR,0⟩] sc pos) (some (.Name y0 py)) ML.line X.env=pure true:=by rfl) :
  PS X (.Assign [.Name y0 py] (.ListComp EN [⟨tg,iter,DR,0⟩] sc pos) ML) (λD σ H=>Sy ns.length fr wi g tt te σ H λx H1=>D.nx (σ.set i0 (some x)) H1):=by
 intro f' s σ H D I h;rw[exec_Assign_Name_used _ _ _ _ hsw];refine aA (nN (aA ?_));show aL _ _ (do let _ <-comprehension (.ListComp EN [⟨tg,iter,DR,0⟩] sc pos) sc X.env _ (newList []) false (eval iter X.env) (some (uO (.Name y0 py) X.env))) _ _ s
 refine aA (gB (wpAny_comprehension_free (use:=some (uO (.Name y0 py) X.env)) (Q:=λ_ s'=>SP X f' D .next s') rfl hs S.clos S.kind S.locs (thn (hi f' s σ H _ I h) λv s1 h1=>thn h1 λOJ s2 h2=>?_)) (λ_ s' hq=>wpAny_pure (wpAny_pure hq)) λ_ _ e=>e)
 obtain⟨it,fp,tn,J,H2,e,I2,T,EM,f2,rest⟩:=h2;subst e;obtain⟨W,⟨m0,w0⟩,CM⟩:=rest s2.heap.objs.size (I2.hok.fresh (aN _));refine gR (wpAny_newFunctionEnv S.nocell (by intro y hy;simp at hy) (λh3 IB EO=>?_) S.kind);dsimp only at IB EO ⊢;generalize hG:s2.heap.push { cls:=.type "list",dict:=none,data:=.seq ([]:List aC).toArray }=G at IB EO ⊢;have zG:G.objs.size=s2.heap.objs.size+1:=(by rw[<-hG,eY]);have DD:s2.heap.objs.size < G.objs.size:=(by rw[zG];exact mX _);have old:∀b o,s2.heap.get? b=some o->h3.get? b=some o:=λb o e=>
  EO.extBut b o (cE (jE (aW e) DD)) (aI _ (hG ▸ aI _ e))
 have hD:=EO.extBut _ _ (cE DD) (aI _ (hG ▸ aY _ rfl));have below:∀b∈fp,b < s2.heap.objs.size:=λb hb=>by
  obtain⟨o,eo,_⟩:=T.obj _ _ EM b hb;exact aW eo
 have I3:=Cq (ns:=ns) (ys:=ys) (fr:=fr) (t':=s2.toks+([]:List (Str×aC)).length) I2 S f2 below DD old hD IB;have BX:∀{H':Hp},(∀b∈fp,H' b=none)->∀b∈fp,ij (cxC X (ns++ys) sc cl G.objs.size s2 H2 fp) [] H' b:=λhn b hb=>
  ⟨hn b hb,cE (jE (below b hb) DD),I3.ok.exfs b hb,.inl hb,λx c e=>(I3.ok.exf b hb).2 x c e,λp hp=>nomatch hp⟩
 have ET:tn 0 h3:=T.keep _ _ _ EM λb _ o e=>old b o e;have KS:∀b∈fp,upd H2 s2.heap.objs.size (.lst []) b=none:=λb hb=>by
  rw[ao (cE (below b hb))];exact(f2 b hb).1
 have FE:∀s3:aG,s3={ s2 with heap:=h3,toks:=s2.toks+([]:List (Str×aC)).length }->
   oA (aS X.prog X.w) X.A (.compLoop (.ListComp EN [⟨tg,iter,DR,0⟩] sc pos) 0 (.ref it) (.ref s2.heap.objs.size) (compEnvC sc cl G.objs.size X.env))
    (compPost (aS X.prog X.w) X.A X.xe (some (uO (.Name y0 py) X.env)) (λ_ s'=>SP X f' D .next s') (.ref s2.heap.objs.size) G.objs.size) s3:=by
  intro s3 AC;subst AC;refine Mw (λn s'=>∃i zs H',Inv (cxC X (ns++ys) sc cl G.objs.size s2 H2 fp) [] (dJ ns.length none++pick σ fr) H' s'/\tn i s'.heap/\(∀b∈fp,H' b=none)/\W i n zs H') ?_ m0 ⟨0,[],_,I3,ET,KS,w0⟩;intro n s5 AC;obtain⟨i,zs,H5,I5,HA,JH,w5⟩:=AC;obtain⟨d5,QJ⟩:=CM i n zs H5 w5;rcases QJ with⟨stop,q⟩ | ⟨go,hz,N,hN,step⟩
  ·refine thn (T.done (cxC X (ns++ys) sc cl G.objs.size s2 H2 fp) rfl rfl rfl hc i [] s5 _ H5 _ I5 (BX JH) HA stop) λr s6 AD=>?_;obtain⟨hr,I6⟩:=AD;subst hr;obtain⟨m6,QK,_⟩:=I6.loc;have J6:Inv X f' σ H5 s6:=Ec I2 f2 (lF DD) I6 (vG _ _);have lL:X.env.locals < s2.heap.objs.size:=I2.lt;have cL:∀x c,X.env.cells.lookup x=some c->c < s2.heap.objs.size:=λx c e=>by
    obtain⟨_,o,ho,_⟩:=I2.cell x c e;exact aW ho
   show aL _ X.A (uO (.Name y0 py) X.env (.ref s2.heap.objs.size)) _ _ s6;refine wpAny_assign_Name (Cf (v:=.ref s2.heap.objs.size) J6 hN hi0 (.inl JW) rfl (λs8 I8 AD=>?_) (.inr JW));obtain⟨b8,RE,hb8⟩:=AD;have nb:G.objs.size≠b8:=λe=>by
    rcases hb8 with z | z
    ·exact absurd (e.trans z) (gJ (jE lL DD))
    ·exact absurd e (gJ (jE (cL _ _ z) DD))
   refine⟨m6,QK.sameBut RE nb,λh9 hs9=>⟨_,H5,?_,q⟩⟩;refine I8.turned (it:=G.objs.size) (t':=s8.toks) (λb o hb e=>(hs9.2 b hb).trans e) I6.free (gJ (jE lL DD)) (.inr (cH I2.sz (lF DD))) (λx c e=>cE (jE (cL x c e) DD)) λp hp=>?_;obtain⟨e,_⟩:=I2.pin p hp;exact cE (jE (aW e) DD)
  ·refine thn (T.item (cxC X (ns++ys) sc cl G.objs.size s2 H2 fp) rfl rfl rfl hc i [] s5 _ H5 _ I5 (BX JH) HA go) λr s6 AD=>?_;obtain⟨u,hr,h6⟩:=AD;subst hr;refine thn h6 λ_ s7 AD=>?_;obtain⟨x,H7,I7,r7,y7,JL,QL⟩:=AD;have QM:=I7.pinned (BX QL) (T.obj _ _ JL);refine thn (hg _ _ _ _ _ s7 _ H7 x u _ QM r7 (step x H7 y7)) λ_ s8 AD=>?_;obtain⟨σ8,H8,I8,⟨ts,eσ,JM⟩,q8⟩:=AD;have again:∀{H9:Hp}{s9:aG}{ER:List V}{m':Nat},m' < n->Inv (cxC X (ns++ys) sc cl G.objs.size s2 H2 fp) ([]++rz fp s7.heap) σ8 H9 s9->W (i+1) m' ER H9->
     ∃m,m < n/\∃i zs H',Inv (cxC X (ns++ys) sc cl G.objs.size s2 H2 fp) [] (dJ ns.length none++pick σ fr) H' s9/\tn i s9.heap/\(∀b∈fp,H' b=none)/\W i m zs H':=λ{H9 s9 ER m'} hm I9 w9=>by
    refine⟨m',hm,i+1,ER,H9,I9.unpinned.weak ?_ ?_,T.keep _ _ _ JL λb hb o e=>(I9.pin (b,o) (fQ _ (fQ _ (je hb e)))).1,λb hb=>?_,w9⟩
    ·rw[eσ,aQ,aQ,iA,JM]
    ·intro j v e;rw[eσ];by_cases hj:j < ns.length
     ·rw[eK (by simpa using hj),mK,if_pos hj]at e;cases e
     ·have FV:ns.length<=j:=sR hj;rw[gF (by simpa using FV),iA]at e;rw[gF (by rw[JM];exact FV),JM];exact e
    ·obtain⟨o,e,d⟩:=T.obj _ _ JL b hb;exact(I9.pin (b,o) (fQ _ (fQ _ (je hb e)))).2.1
   refine thn (ht _ _ _ _ _ s8 σ8 H8 _ I8 q8) λok s9 AD=>?_;obtain⟨H9,I9,q9⟩:=AD;cases ok with
   |false=>
    rw[if_neg bX]at q9 ⊢;obtain⟨m',hm,w9⟩:=hN _ _ q9;exact again hm I9 w9
   |true=>
    rw[if_pos rfl]at q9 ⊢;refine thn (he _ _ _ _ _ s9 σ8 H9 _ I9 q9) λyv IC AD=>?_;obtain⟨y,QN,QO,QP,QQ,MA⟩:=AD;refine thn (gq _ IC σ8 QN (.ref s2.heap.objs.size) [y] (.ref s2.heap.objs.size) [yv] (λ_ MB=>N (zs++[y]) MB) QO rfl (.cons QP .nil) ⟨_,zs,y,rfl,rfl,QQ,hz,MA⟩) λ_ s11 AD=>?_;obtain⟨_,MB,QR,_,QS⟩:=AD;obtain⟨m',hm,QT⟩:=hN _ _ QS;exact again hm QR QT
 exact codeAny_compStart_list (FE _ rfl) (T.self X.A 0 _ _ _ ET (FE _ rfl))
section
variable {X:Cx}
def rLL (K:aB)(b:Bool):R2:=λx y H Q=>∃l r xs ys,x=.ref l/\y=.ref r/\SqL K H l xs/\SqL K H r ys/\((xs.length≠ys.length/\Q (.bl (!b)) H)\/∃ds,Holds K H xs ds/\Holds K H ys ds/\depL ds<=60/\Q (.bl b) H)
theorem Il (hu:X.A.units+64 < jH):OpR X (jX .Eq) (rLL X.K true):=by
 intro f' s σ H x y v u Q I rx ry h;obtain⟨a,b,xs,ys,rfl,rfl,ha,hb,h⟩:=h;cases rx;cases ry;rcases h with⟨hl,q⟩ | ⟨ds,h1,h2,hd,q⟩
 ·obtain⟨its,r1,p1,_⟩:=I.list ha;obtain⟨AH,r2,p2,_⟩:=I.list hb;have e:(its.toArray.size != AH.toArray.size)=true:=by
   rw[aO,aO,<-r1.length,<-r2.length];simpa using hl
  exact SeqAt.RcAt.lists_lengths (A:=X.A) (s:=s) p1.isList p2.isList e (by lia) _ _ _ _ (show EP X f' σ Q (.bool false) s from⟨.bl false,H,I,rfl,q⟩)
 ·exact Bp I ha hb h1 h2 (by lia) (λd hm x y u v kx ky qx qy=>pb I 60 (cH (md hm) (by lia)) (by rw[iE];lia) kx ky qx qy) _ _ _ _ (show EP X f' σ Q (.bool true) s from⟨.bl true,H,I,rfl,q⟩)
theorem Vq (hu:X.A.units+64 < jH):OpR X (jX .NotEq) (rLL X.K false):=by
 intro f' s σ H x y v u Q I rx ry h;obtain⟨a,b,xs,ys,rfl,rfl,ha,hb,h⟩:=h;cases rx;cases ry;obtain⟨its,r1,p1,_⟩:=I.list ha;obtain⟨AH,r2,p2,_⟩:=I.list hb;rcases h with⟨hl,q⟩ | ⟨ds,h1,h2,hd,q⟩
 ·have e:(its.toArray.size != AH.toArray.size)=true:=by
   rw[aO,aO,<-r1.length,<-r2.length];simpa using hl
  exact SeqAt.RcNeAt.lists_lengths (A:=X.A) (s:=s) p1.isList p2.isList e (by lia) _ _ _ _ (show EP X f' σ Q (.bool true) s from⟨.bl true,H,I,rfl,q⟩)
 ·have e:its.toArray.size=AH.toArray.size:=by
   rw[aO,aO,<-r1.length,<-r2.length,h1.length,h2.length]
  have el:=ud (s:=s) (A:=X.A.in1) h1 h2 r1 r2 λd hm x y u v kx ky qx qy=>pb I 60 (cH (md hm) hd) (by rw[iE];lia) kx ky qx qy;have qn:=SeqAt.RcNeAt.lists (s:=s) (A:=X.A) (e:=λ_=>true) p1.isList p2.isList e (by lia) el;rw[vY.mpr (λ_ _=>rfl)]at qn;have qm:SeqAt.RcNeAt X.A s (.ref a) (.ref b) false:=(by simpa using qn);exact qm _ _ _ _ (show EP X f' σ Q (.bool false) s from⟨.bl false,H,I,rfl,q⟩)
end
open Sem (wp)
section
variable {prog:aU}{w:aZ}{A:cC}{E:aC->aG->Prop}{s:aG}
structure B4 (h:Heap)(z TI TO i1 i2 l1 l2:Addr)(k:Nat):Prop where
 zip:nA h z TI TO .none
 its:jM h TI (.ref i1) (.ref i2)
 out:∃a b,jM h TO a b
 one:h.IsListIter i1 l1 k
 two:h.IsListIter i2 l2 k
theorem Nt {z TI TO i1 i2 l1 l2:Addr}{k:Nat}{xs ys:Array aC}{x y:aC}{Q:aC->aG->Prop}(D:pS z TI TO i1 i2 l1 l2)(Z:B4 s.heap z TI TO i1 i2 l1 l2 k)
  (BS:s.heap.IsList l1 xs) (AR:s.heap.IsList l2 ys) (hx:xs[k]?=some x) (hy:ys[k]?=some y)
  (hQ:∀h',nA h' z TI TO (iU s.heap.objs.size)->jM h' TO x y->h'.IsListIter i1 l1 (k+1)->h'.IsListIter i2 l2 (k+1)->jM h' s.heap.objs.size x y->(∀c o,c≠z->c≠TO->c≠i1->c≠i2->s.heap.get? c=some o->h'.get? c=some o)->Q (.ref s.heap.objs.size) { s with heap:=h' }) :
  aL (aS prog w) A (iI.«zip.__next__» ⟨[.ref z],[]⟩) (λAK s'=>∃v,AK=.done (.ret v)/\Q v s') E s:=by
 obtain⟨hz,JN,⟨a,b,JO⟩,h1,h2⟩:=Z;show aL _ _ (field (.ref z) 2 >>= _) _ _ _;refine aA (cY hz rfl (x:=.bool false) rfl ?_);show aL _ _ (field (.ref z) 3 >>= _) _ _ _;refine aA (cY hz rfl (x:=.ref TI) rfl ?_);refine aA (iC JN rfl ?_);show aL _ _ (eC (.ref z) >>= _) _ _ _;refine aA ?_;unfold eC;refine aA (cY hz rfl (x:=.none) rfl (wpAny_pure ?_));simp only[if_true];refine aA (rL ?_);refine aA (cY hz rfl (x:=.ref TO) rfl ?_);refine aA (eJ hz (by simp) λha za sa=>?_)
 replace za:nA ha z TI TO .ellipsis:=za
 refine aA ?_;simp only[sS,tU,tV,uL];refine aA (aA (lK ?_));show aL _ _ (fV (.ref i1) >>= _) _ _ _;refine aA (pH (h1.extBut sa.extBut D.i1z) (BS.extBut sa.extBut D.l1z) hx λhb MD sb=>wpAny_pure ?_);have ob:jM hb TO a b:=sb.extBut _ _ D.TOi1 (sa.extBut _ _ D.TOz JO);refine aA (iC ob rfl ?_);refine aA (lV ob λhc oc sc=>?_)
 replace oc:jM hc TO x b:=oc
 refine aA (pG (wpAny_pure ?_));refine aA (aA (lK ?_));show aL _ _ (fV (.ref i2) >>= _) _ _ _;refine aA (pH (((h2.extBut sa.extBut D.i2z).extBut sb.extBut D.i12.symm).extBut sc.extBut D.TOi2.symm) (((AR.extBut sa.extBut D.l2z).extBut sb.extBut D.l2i1).extBut sc.extBut D.l2TO) hy λhd QU sd=>wpAny_pure ?_);have od:jM hd TO x b:=sd.extBut _ _ D.TOi2 oc;refine aA (iC od rfl ?_);refine aA (lV od λhe oe se=>?_)
 replace oe:jM he TO x y:=oe
 refine aA (pG (wpAny_pure (wpAny_pure ?_)));refine aA (iC oe rfl ?_);refine aA (rM ?_);have zz:he.objs.size=s.heap.objs.size:=(by rw[se.1,sd.1,sc.1,sb.1,sa.1]);have ze:nA he z TI TO .ellipsis:=se.extBut _ _ D.TOz.symm (sd.extBut _ _ D.i2z.symm (sc.extBut _ _ D.TOz.symm (sb.extBut _ _ D.i1z.symm za)));have ke:∀c o,c≠z->c≠TO->c≠i1->c≠i2->s.heap.get? c=some o->he.get? c=some o:=λc o c1 c2 c3 c4 q=>
  se.extBut _ _ c2 (sd.extBut _ _ c4 (sc.extBut _ _ c2 (sb.extBut _ _ c3 (sa.extBut _ _ c1 q))))
 have e1:he.IsListIter i1 l1 (k+1):=((MD.extBut sc.extBut D.TOi1.symm).extBut sd.extBut D.i12).extBut se.extBut D.TOi1.symm;have e2:he.IsListIter i2 l2 (k+1):=QU.extBut se.extBut D.TOi2.symm;have ME:z < he.objs.size:=aW ze;show aL _ _ (gC (.ref z) (.ref he.objs.size) >>= _) _ _ _;refine aA ?_;unfold gC;have zf:nA (he.push { cls:=.type "tuple",data:=.seq #[x,y] }) z TI TO .ellipsis:=aI _ ze;refine aA (eJ zf (by simp) λhg zg sg=>?_)
 replace zg:nA hg z TI TO (iU he.objs.size):=zg
 refine eJ zg (by simp) λhk zk sk=>?_
 replace zk:nA hk z TI TO (iU he.objs.size):=zk
 have up:∀c o,c≠z->he.get? c=some o->hk.get? c=some o:=λc o c1 q=>sk.extBut _ _ c1 (sg.extBut _ _ c1 (aI _ q));have tk:jM hk he.objs.size x y:=sk.extBut _ _ (gJ ME) (sg.extBut _ _ (gJ ME) (aY _ rfl));rw[zz]at zk tk;refine wpAny_pure ⟨_,rfl,?_⟩;show Q (.ref he.objs.size) _;rw[zz];obtain⟨w1,v1,r1⟩:=e1;obtain⟨w2,v2,r2⟩:=e2;exact hQ hk zk (up _ _ D.TOz oe) ⟨w1,up _ _ D.i1z v1,r1⟩ ⟨w2,up _ _ D.i2z v2,r2⟩ tk λc o c1 c2 c3 c4 q=>up c o c1 (ke c o c1 c2 c3 c4 q)
theorem Nu {z TI TO i1 i2 l1 l2:Addr}{k:Nat}{xs ys:Array aC}{x y:aC}{Q:Option aC->aG->Prop}(D:pS z TI TO i1 i2 l1 l2)(Z:B4 s.heap z TI TO i1 i2 l1 l2 k)
  (BS:s.heap.IsList l1 xs) (AR:s.heap.IsList l2 ys) (hx:xs[k]?=some x) (hy:ys[k]?=some y)
  (hQ:∀h',nA h' z TI TO (iU s.heap.objs.size)->jM h' TO x y->h'.IsListIter i1 l1 (k+1)->h'.IsListIter i2 l2 (k+1)->jM h' s.heap.objs.size x y->(∀c o,c≠z->c≠TO->c≠i1->c≠i2->s.heap.get? c=some o->h'.get? c=some o)->Q (some (.ref s.heap.objs.size)) { s with heap:=h' }):aL (aS prog w) A (jL (.ref z)) Q E s:=by
 have hT:s.TypeIs (.ref z) "zip":=⟨_,Z.zip,rfl⟩;unfold jL;exact aA (lM (eZ (name:=hX "__next__") hT F.slot_zip_next (gM F.slot_zip_next hT F.entry_zip_next (Nt D Z BS AR hx hy λh' a1 a2 a3 a4 a5 a6=>wpAny_pure (hQ h' a1 a2 a3 a4 a5 a6)) (F.args_zip_next_1 _))))
theorem Nv {z TI TO i1 i2 l1 l2:Addr}{k:Nat}{xs ys:Array aC}{Q:Fin->aG->Prop}(hh:A.handled=none)(D:pS z TI TO i1 i2 l1 l2)(Z:B4 s.heap z TI TO i1 i2 l1 l2 k)
  (BS:s.heap.IsList l1 xs) (AR:s.heap.IsList l2 ys) (BN:xs[k]?=none\/ys[k]?=none)
  (hE:∀h' e,(∀c o,c≠z->c≠TO->c≠i1->c≠i2->s.heap.get? c=some o->h'.get? c=some o)->(∃o,h'.get? e=some o/\o.cls=.type "StopIteration")->E (.ref e) { s with heap:=h' }) :
  aL (aS prog w) A (iI.«zip.__next__» ⟨[.ref z],[]⟩) Q E s:=by
 obtain⟨hz,JN,⟨a,b,JO⟩,h1,h2⟩:=Z;show aL _ _ (field (.ref z) 2 >>= _) _ _ _;refine aA (cY hz rfl (x:=.bool false) rfl ?_);show aL _ _ (field (.ref z) 3 >>= _) _ _ _;refine aA (cY hz rfl (x:=.ref TI) rfl ?_);refine aA (iC JN rfl ?_);show aL _ _ (eC (.ref z) >>= _) _ _ _;refine aA ?_;unfold eC;refine aA (cY hz rfl (x:=.none) rfl (wpAny_pure ?_));simp only[if_true];refine aA (rL ?_);refine aA (cY hz rfl (x:=.ref TO) rfl ?_);refine aA (eJ hz (by simp) λha za sa=>?_)
 replace za:nA ha z TI TO .ellipsis:=za
 refine aA ?_;simp only[sS,tU,tV,uL];refine aA (aA (lK ?_));show aL _ _ (fV (.ref i1) >>= _) _ _ _;cases hx:xs[k]? with
 |none=>
  refine aA (tL hh (h1.extBut sa.extBut D.i1z) (BS.extBut sa.extBut D.l1z) hx λhb e sb he=>?_);obtain⟨oe,DS,FF⟩:=he;have zb:nA hb z TI TO .ellipsis:=sb _ _ D.i1z.symm za;have JP:e≠z:=λq=>(by subst q;rw[zb]at DS;cases DS;simp at FF);refine eJ zb (by simp) λhc _ sc=>hE hc e (λc o c1 _ c3 _ q=>sc.extBut _ _ c1 (sb _ _ c3 (sa.extBut _ _ c1 q))) ⟨oe,sc.extBut _ _ JP DS,FF⟩
 |some x=>
  have hy:ys[k]?=none:=by
   rcases BN with q | q
   ·rw[hx]at q;cases q
   ·exact q
  refine aA (pH (h1.extBut sa.extBut D.i1z) (BS.extBut sa.extBut D.l1z) hx λhb MD sb=>wpAny_pure ?_);have ob:jM hb TO a b:=sb.extBut _ _ D.TOi1 (sa.extBut _ _ D.TOz JO);refine aA (iC ob rfl ?_);refine aA (lV ob λhc oc sc=>?_);refine aA (pG (wpAny_pure ?_));refine aA (aA (lK ?_));show aL _ _ (fV (.ref i2) >>= _) _ _ _;refine aA (tL hh (((h2.extBut sa.extBut D.i2z).extBut sb.extBut D.i12.symm).extBut sc.extBut D.TOi2.symm) (((AR.extBut sa.extBut D.l2z).extBut sb.extBut D.l2i1).extBut sc.extBut D.l2TO) hy λhd e sd he=>?_);obtain⟨oe,DS,FF⟩:=he;have zd:nA hd z TI TO .ellipsis:=sd _ _ D.i2z.symm (sc.extBut _ _ D.TOz.symm (sb.extBut _ _ D.i1z.symm za));have JP:e≠z:=λq=>(by subst q;rw[zd]at DS;cases DS;simp at FF);refine eJ zd (by simp) λhf _ sf=>hE hf e (λc o c1 c2 c3 c4 q=>sf.extBut _ _ c1 (sd _ _ c4 (sc.extBut _ _ c2 (sb.extBut _ _ c3 (sa.extBut _ _ c1 q))))) ⟨oe,sf.extBut _ _ JP DS,FF⟩
theorem Qw {z TI TO i1 i2 l1 l2:Addr}{k:Nat}{xs ys:Array aC}{Q:Option aC->aG->Prop}(hh:A.handled=none)(D:pS z TI TO i1 i2 l1 l2)(Z:B4 s.heap z TI TO i1 i2 l1 l2 k)
  (BS:s.heap.IsList l1 xs) (AR:s.heap.IsList l2 ys) (BN:xs[k]?=none\/ys[k]?=none)
  (hQ:∀h',(∀c o,c≠z->c≠TO->c≠i1->c≠i2->s.heap.get? c=some o->h'.get? c=some o)->Q none { s with heap:=h' }):aL (aS prog w) A (jL (.ref z)) Q E s:=by
 have hT:s.TypeIs (.ref z) "zip":=⟨_,Z.zip,rfl⟩;unfold jL;refine aA (lM (eZ (name:=hX "__next__") hT F.slot_zip_next (gM F.slot_zip_next hT F.entry_zip_next (Nv hh D Z BS AR BN λh' e kk he=>?_) (F.args_zip_next_1 _))));obtain⟨o,ho,hc⟩:=he;refine aA (oE (T:="StopIteration") (b:=true) ⟨o,ho,hc⟩ rN ?_);exact wpAny_pure (hQ _ kk)
end
abbrev zL1 (h:Heap)(a:Addr):Heap:=h.push { cls:=.type "list_iterator",data:=.fields #[.ref a,.int 0 0] }
abbrev zL2 (h:Heap)(a b:Addr):Heap:=(zL1 h a).push { cls:=.type "list_iterator",data:=.fields #[.ref b,.int 0 0] }
abbrev zL3 (h:Heap)(a b:Addr):Heap:=(zL2 h a b).push { cls:=.type "tuple",data:=.seq #[.ref h.objs.size,.ref (zL1 h a).objs.size] }
abbrev zL4 (h:Heap)(a b:Addr):Heap:=(zL3 h a b).push { cls:=.type "tuple",data:=.seq #[.none,.none] }
abbrev zL5 (h:Heap)(a b:Addr):Heap:=(zL4 h a b).push { cls:=.type "zip",data:=.fields #[.none,.bool false,.bool false,.ref (zL2 h a b).objs.size,.ref (zL3 h a b).objs.size] }
theorem K2 (a b:Addr)(xs ys:Array aC) :
  Meets (iI.«zip.__new__» ⟨[.type "zip",.ref a,.ref b],[]⟩) (λ_ R s=>s.heap.IsList a xs/\s.heap.IsList b ys/\R (.ok (.ret (.ref (zL4 s.heap a b).objs.size))) { s with heap:=zL5 s.heap a b }):=
 .of_wp λprog w A R s h=>by
  obtain⟨hp,gs,dr,tk,os⟩:=s;obtain⟨h1,h2,h⟩:=h;have DE:=sub_zip;have k1:zE (sM ⟨hp,gs,dr,tk,os⟩) a xs:=h1;have k2:zE (sM ⟨hp.push { cls:=.type "list_iterator",data:=.fields #[.ref a,.int 0 0] },gs,dr,tk,os⟩) b ys:=pT h2 _
  wp_walk using iR k1,iR k2
  exact⟨_,rfl,h⟩
section
variable {prog:aU}{w:aZ}{A:cC}{E:aC->aG->Prop}{s:aG}
theorem Nw {a b:Addr}{xs ys:Array aC}{Q:aC->aG->Prop}(h1:s.heap.IsList a xs)(h2:s.heap.IsList b ys)
  (h:∀h',B4 h' (s.heap.objs.size+4) (s.heap.objs.size+2) (s.heap.objs.size+3) s.heap.objs.size (s.heap.objs.size+1) a b 0->(∀c o,s.heap.get? c=some o->h'.get? c=some o)->h'.objs.size=s.heap.objs.size+5->Q (.ref (s.heap.objs.size+4)) { s with heap:=h' }):aL (aS prog w) A (call (.type "zip") [.ref a,.ref b]) Q E s:=by
 refine vZ F.called_zip (by decide) (F.typeCall_zip_2 _ _) (F.newCall_zip_2 _ _) (λobj=>F.args_object_init_3 obj _ _) F.entry_zip_new (K2 a b xs ys) ⟨h1,h2,?_⟩;have z1:(zL1 s.heap a).objs.size=s.heap.objs.size+1:=eY ..;have z2:(zL2 s.heap a b).objs.size=s.heap.objs.size+2:=(by rw[eY,z1]);have z3:(zL3 s.heap a b).objs.size=s.heap.objs.size+3:=(by rw[eY,z2]);have z4:(zL4 s.heap a b).objs.size=s.heap.objs.size+4:=(by rw[eY,z3]);have z5:(zL5 s.heap a b).objs.size=s.heap.objs.size+5:=(by rw[eY,z4]);have g5:(zL5 s.heap a b).get? (zL4 s.heap a b).objs.size=some _:=aY _ rfl;have g4:(zL5 s.heap a b).get? (zL3 s.heap a b).objs.size=some _:=aI _ (aY _ rfl);have g3:(zL5 s.heap a b).get? (zL2 s.heap a b).objs.size=some _:=aI _ (aI _ (aY _ rfl));have g2:(zL5 s.heap a b).get? (zL1 s.heap a).objs.size=some _:=aI _ (aI _ (aI _ (aY _ rfl)));have g1:(zL5 s.heap a b).get? s.heap.objs.size=some _:=aI _ (aI _ (aI _ (aI _ (aY _ rfl))));show _/\_;rw[z2,z3,z4]at g5;rw[z1,z2]at g3;rw[z3]at g4;rw[z1]at g2;rw[z4];exact⟨⟨_,g5,rfl⟩,h _ ⟨g5,g3,⟨_,_,g4⟩,⟨_,g1,rfl,rfl⟩,⟨_,g2,rfl,rfl⟩⟩ (λc o q=>aI _ (aI _ (aI _ (aI _ (aI _ q))))) z5⟩
end
def Qx (K:aB)(a b:Addr):It:=
 ⟨λi H=>∃xs ys x y,SqL K H a xs/\SqL K H b ys/\xs[i]?=some x/\ys[i]?=some y,λi H v H'=>∃p x y,H p=none/\v=.ref p/\(∀xs,SqL K H a xs->xs[i]?=some x)/\(∀ys,SqL K H b ys->ys[i]?=some y)/\H'=upd H p (.tup [x,y]),λi H=>∃xs ys,SqL K H a xs/\SqL K H b ys/\(xs.length<=i\/ys.length<=i)⟩
theorem Nx {P:aU}{w:aZ}{K:aB}{es:List Expr}{j:Nat}{pos:Pos}{z TI TO i1 i2 a b:Addr}(D:pS z TI TO i1 i2 a b) :
  qr P w K (.Tuple es j pos) (Qx K a b) [z,TI,TO,i1,i2] z (λk h=>B4 h z TI TO i1 i2 a b k) where
 mem:=by simp
 obj:=λk h Z c hc=>by
  obtain⟨u1,u2,⟨_,_,u3⟩,⟨o4,u4,_,v4⟩,⟨o5,u5,_,v5⟩⟩:=Z;simp only[aX,dQ,or_false]at hc;rcases hc with q | q | q | q | q
  ·subst q;exact⟨_,u1,λv e=>by cases(show sD _=oS v from e)⟩
  ·subst q;exact⟨_,u2,λv e=>by cases(show xO _ _=oS v from e)⟩
  ·subst q;exact⟨_,u3,λv e=>by cases(show xO _ _=oS v from e)⟩
  ·subst q;exact⟨_,u4,λv e=>by rw[v4]at e;cases e⟩
  ·subst q;exact⟨_,u5,λv e=>by rw[v5]at e;cases e⟩
 keep:=λk h h' Z kk=>by
  obtain⟨u1,u2,⟨c1,c2,u3⟩,⟨o4,u4,r4⟩,⟨o5,u5,r5⟩⟩:=Z;exact⟨kk z (by simp) _ u1,kk TI (by simp) _ u2,⟨c1,c2,kk TO (by simp) _ u3⟩,⟨o4,kk i1 (by simp) _ u4,r4⟩,⟨o5,kk i2 (by simp) _ u5,r5⟩⟩
 item:=by
  intro X hP hw hK hc k f' s σ H E I hf Z hg;subst hP hw hK;obtain⟨xs,ys,x,y,hx,hy,ex,ey⟩:=hg;obtain⟨its,r1,p1,_⟩:=I.list hx;obtain⟨AH,r2,p2,_⟩:=I.list hy;obtain⟨u,eu,ru⟩:=r1.get ex;obtain⟨v,ev,rv⟩:=r2.get ey;refine Nu D Z (p1.isList) (p2.isList) (x:=u) (y:=v) (by simpa using eu) (by simpa using ev) λh1 b1 b2 b3 b4 b5 kk=>?_;refine⟨_,rfl,wpAny_letOwnedTupleGo_zip b1 λh2 c1 sb=>?_⟩;have ks:∀c o,c ∉ [z,TI,TO,i1,i2]->s.heap.get? c=some o->h2.get? c=some o:=λc o hc q=>by
   simp only[aX,dQ,or_false,not_or]at hc;exact sb.extBut _ _ hc.1 (kk c o hc.1 hc.2.2.1 hc.2.2.2.1 hc.2.2.2.2 q)
  have nz:s.heap.objs.size≠z:=gJ (aW Z.zip);have b6:jM h2 s.heap.objs.size u v:=sb.extBut _ _ nz b5;have I2:Inv X f' σ H { s with heap:=h2 }:=I.turnedAll (t':=s.toks) hf ks;have fT:ij X f' H s.heap.objs.size:=I.fpOk (aN _) (I.hok.fresh (aN _));have I3:Inv X f' σ (upd H s.heap.objs.size (.tup [x,y])) { s with heap:=h2 }:=I2.track fT I.sz
   ⟨by show 2<=sizeLine;decide,[u,v],.cons ru (.cons rv .nil),⟨_,b6,rfl,_,rfl⟩⟩
  refine⟨.ref s.heap.objs.size,_,I3,rfl,⟨_,x,y,fT.1,rfl,λus hu=>by rw[I.list_inj hu hx];exact ex,λus hu=>by rw[I.list_inj hu hy];exact ey,rfl⟩,?_,λc hc=>?_⟩
  ·obtain⟨w3,v3,q3⟩:=b3;obtain⟨w4,v4,q4⟩:=b4;exact⟨c1,sb.extBut _ _ D.TIz (kk _ _ D.TIz D.TITO D.TIi1 D.TIi2 Z.its),⟨_,_,sb.extBut _ _ D.TOz b2⟩,⟨w3,sb.extBut _ _ D.i1z v3,q3⟩,⟨w4,sb.extBut _ _ D.i2z v4,q4⟩⟩
  ·obtain⟨o,q,_⟩:∃o,s.heap.get? c=some o/\True:=by
    obtain⟨u1,u2,⟨_,_,u3⟩,⟨o4,u4,_⟩,⟨o5,u5,_⟩⟩:=Z;simp only[aX,dQ,or_false]at hc;rcases hc with q | q | q | q | q
    ·subst q;exact⟨_,u1,trivial⟩
    ·subst q;exact⟨_,u2,trivial⟩
    ·subst q;exact⟨_,u3,trivial⟩
    ·subst q;exact⟨_,u4,trivial⟩
    ·subst q;exact⟨_,u5,trivial⟩
   rw[ao (cE (aW q))];exact(hf c hc).1
 done:=by
  intro X hP hw hK hc k f' s σ H E I hf Z hg;subst hP hw hK;obtain⟨xs,ys,hx,hy,BN⟩:=hg;obtain⟨its,r1,p1,_⟩:=I.list hx;obtain⟨AH,r2,p2,_⟩:=I.list hy;have l1:=r1.length;have l2:=r2.length;have en:its.toArray[k]?=none\/AH.toArray[k]?=none:=by
   rcases BN with q | q
   ·exact .inl (by simp;lia)
   ·exact .inr (by simp;lia)
  refine Qw (I.ok.hd hc) D Z (p1.isList) (p2.isList) en λh1 kk=>⟨rfl,I.turnedAll (t':=s.toks) hf λc o hc q=>?_⟩;simp only[aX,dQ,or_false,not_or]at hc;exact kk c o hc.1 hc.2.2.1 hc.2.2.2.1 hc.2.2.2.2 q
 self:=λ_ _ _ _ _ Z h=>sU Z.zip h
section
variable {X:Cx}
def Z0 (K:aB)(ta:TA):TI:=λσ H R=>ta σ H λvs H1=>∃a b xs ys,vs=[.ref a,.ref b]/\SqL K H1 a xs/\SqL K H1 b ys/\R (Qx K a b) H1
theorem B5 {e1 e2:Expr}{ta:TA}{p pos CN:Pos}{es:List Expr}{j:Nat}(hg:Gl X "zip")(hm:X.mg "zip"=none)(ha:PA X [e1,e2] ta)(hs:cJ [e1,e2] X.env=[(false,eval e1 X.env),(false,eval e2 X.env)]:=by rfl)
  (BL:cJ [e2] X.env=[(false,eval e2 X.env)]:=by rfl):PI X (.Tuple es j CN) (.Call (.Name "zip" p) [e1,e2] [] pos) (Z0 X.K ta):=by
 intro f' s σ H R I h;refine Call_ (iw I hg hm (by kernel_rfl:jK (hX "zip")=some (.type "zip")) (gW (thn (ha pos f' s σ H _ I h) λus s1 ⟨vs,H1,I1,r1,q1⟩=>?_) (by rw[hs,BL]) (by rw[BL];rfl)));obtain⟨a,b,xs,ys,e,hx,hy,q⟩:=q1;subst e;obtain⟨u,v,rfl,ru,rv⟩:=ua r1;cases(show u=bZ a from ru);cases(show v=bZ b from rv);obtain⟨its,k1,p1,_⟩:=I1.list hx;obtain⟨AH,k2,p2,_⟩:=I1.list hy;have a1:a < s1.heap.objs.size:=(by obtain⟨_,e,_⟩:=p1.isList;exact aW e);have a2:b < s1.heap.objs.size:=(by obtain⟨_,e,_⟩:=p2.isList;exact aW e);refine Nw (p1.isList) (p2.isList) λh2 Z kk sz=>?_;have I2:Inv X f' σ H1 { s1 with heap:=h2 }:=I1.kept (t':=s1.toks) kk;refine sU Z.zip ⟨_,_,_,_,H1,rfl,I2,Nx (zipApart_new a1 a2),Z,λc hc=>?_,q⟩;refine I1.fpOk ?_ (I1.hok.fresh ?_)
 all_goals
  simp only[aX,dQ,or_false]at hc;rcases hc with q | q | q | q | q<;>subst q<;>lia
end
open Sem (wp)
open AutoSeq1 (wpAny_loadPart')
theorem Hk (l:Addr)(items:Array aC) :
  Meets (iI.«enumerate.__new__» ⟨[.type "enumerate",.ref l],[]⟩) (λ_ R s=>s.heap.IsList l items/\R (.ok (.ret (.ref (s.heap.push { cls:=.type "list_iterator",data:=.fields #[.ref l,.int 0 0] }).objs.size))) { s with heap:=(s.heap.push { cls:=.type "list_iterator",data:=.fields #[.ref l,.int 0 0] }).push { cls:=.type "enumerate",data:=.fields #[.none,.bool false,.ref s.heap.objs.size,iU 0,.none,.none] } }):=
 .of_wp λprog w A R s h=>by
  obtain⟨hp,g,d,tk,os⟩:=s;obtain⟨hL,h⟩:=h;have DE:=sub_enumerate;have HD:zE (sM ⟨hp,g,d,tk,os⟩) l items:=hL
  wp_walk using iR HD
  refine wpAny_stack_any λst=>wpAny_pure ?_
  split
  ·rename_i c _ _ _ _ _
   cases(c == pM "enumerate")
   ·wp_walk using iR HD
    exact⟨_,rfl,h⟩
   ·wp_walk using iR HD
    exact⟨_,rfl,h⟩
  ·wp_walk using iR HD
   exact⟨_,rfl,h⟩
section
variable {prog:aU}{w:aZ}{A:cC}{E:aC->aG->Prop}{s:aG}
theorem K3 {l:Addr}{items:Array aC}{Q:aC->aG->Prop}(hL:s.heap.IsList l items)
  (h:∀h',lJ h' (s.heap.objs.size+1) s.heap.objs.size 0 .none->h'.IsListIter s.heap.objs.size l 0->h'.objs.size=s.heap.objs.size+2->(∀b o,s.heap.get? b=some o->h'.get? b=some o)->Q (.ref (s.heap.objs.size+1)) { s with heap:=h' }) :
  aL (aS prog w) A (call (.type "enumerate") [.ref l]) Q E s:=by
 refine vZ F.called_enumerate (by decide) (F.typeCall_enumerate_1 _) (F.newCall_enumerate_1 _) (λobj=>F.args_object_init_2 obj _) F.entry_enumerate_new (Hk l items) ⟨hL,?_⟩;have hz:(s.heap.push { cls:=.type "list_iterator",data:=.fields #[.ref l,.int 0 0] }).objs.size=s.heap.objs.size+1:=eY ..;show _/\_;rw[hz];have he:lJ ((s.heap.push { cls:=.type "list_iterator",data:=.fields #[.ref l,.int 0 0] }).push { cls:=.type "enumerate",data:=.fields #[.none,.bool false,.ref s.heap.objs.size,iU 0,.none,.none] }) (s.heap.objs.size+1) s.heap.objs.size 0 .none:=by
  have z:=aY (s.heap.push { cls:=.type "list_iterator",data:=.fields #[.ref l,.int 0 0] }) (o:={ cls:=.type "enumerate",data:=.fields #[.none,.bool false,.ref s.heap.objs.size,iU 0,.none,.none] }) rfl;rw[hz]at z;exact z
 exact⟨⟨_,he,rfl⟩,h _ he ⟨_,aI _ (aY _ rfl),rfl,rfl⟩ (by rw[eY,hz]) λb o x=>aI _ (aI _ x)⟩
theorem K4 {e it l:Addr}{i:Nat}{items:Array aC}{x old:aC}{Q:aC->aG->Prop}(he:lJ s.heap e it i old)(DF:s.heap.IsListIter it l i)(hl:s.heap.IsList l items)(hx:items[i]?=some x)(AO:e≠it)
  (hQ:∀h',qZ h' e it ((i:Int)+1) x s.heap.objs.size->h'.IsListIter it l (i+1)->h'.get? s.heap.objs.size=some { cls:=.type "tuple",data:=.seq #[.int i s.toks,x] }->h'.objs.size=s.heap.objs.size+1->(∀b o,b≠e->b≠it->s.heap.get? b=some o->h'.get? b=some o)->Q (.ref s.heap.objs.size) { s with heap:=h',toks:=s.toks+1 }) :
  aL (aS prog w) A (iI.«enumerate.__next__» ⟨[.ref e],[]⟩) (λAK s'=>∃v,AK=.done (.ret v)/\Q v s') E s:=by
 obtain⟨hp,g,d,tk,os⟩:=s;show aL _ _ (field (.ref e) 2 >>= _) _ _ _;refine aA (cY he rfl (x:=.ref it) rfl ?_);refine aA (pH DF hl hx λh1 i1 s1=>?_)
 replace s1:gI it hp h1:=s1
 have e1:lJ h1 e it i old:=(s1.2 e AO).trans he;show aL _ _ (field (.ref e) 3 >>= _) _ _ ⟨h1,g,d,tk,os⟩;refine aA (cY e1 rfl (x:=iU i) rfl ?_);show aL _ _ (field (.ref e) 4 >>= _) _ _ ⟨h1,g,d,tk,os⟩;refine aA (cY e1 rfl (x:=.none) rfl ?_);show aL _ _ (mkInt i >>= _) _ _ ⟨h1,g,d,tk,os⟩;refine aA (wpAny_mkInt ?_);show aL _ _ (xR (.ref e) 3 (iU ((i:Int)+1)) >>= _) _ _ ⟨h1,g,d,tk+1,os⟩;refine aA (eJ e1 (by simp) λh2 e2 s2=>?_)
 replace s2:gI e h1 h2:=s2
 replace e2:lJ h2 e it ((i:Int)+1) old:=e2
 show aL _ _ (xR (.ref e) 4 .none >>= _) _ _ ⟨h2,g,d,tk+1,os⟩;refine aA (eJ e2 (by simp) λh3 e3 s3=>?_)
 replace s3:gI e h2 h3:=s3
 replace e3:lJ h3 e it ((i:Int)+1) old:=e3
 show aL _ _ (zI [.int i tk,x] >>= _) _ _ ⟨h3,g,d,tk+1,os⟩;refine aA (rM ?_);have e4:lJ (h3.push { cls:=.type "tuple",data:=.seq #[.int i tk,x] }) e it ((i:Int)+1) old:=aI _ e3;generalize FH:h3.push { cls:=.type "tuple",data:=.seq #[.int i tk,x] }=h4 at e4;have hsz:h3.objs.size=hp.objs.size:=(by rw[s3.1,s2.1,s1.1]);have JT:e < hp.objs.size:=aW he;have t4:h4.get? hp.objs.size=some { cls:=.type "tuple",data:=.seq #[.int i tk,x] }:=(by rw[<-FH,<-hsz];exact aY _ rfl);have z4:h4.objs.size=hp.objs.size+1:=(by rw[<-FH,eY,hsz]);have k4:∀b o,b≠e->b≠it->hp.get? b=some o->h4.get? b=some o:=λb o BW IF hb=>by
  rw[<-FH];exact aI _ (s3.extBut b o BW (s2.extBut b o BW (s1.extBut b o IF hb)))
 have i4:h4.IsListIter it l (i+1):=by
  rw[<-FH];obtain⟨o,ho,r⟩:=(i1.extBut s2.extBut (Ne.symm AO)).extBut s3.extBut (Ne.symm AO);exact⟨o,aI _ ho,r⟩
 show aL _ _ (eC (.ref e) >>= _) _ _ ⟨h4,g,d,tk+1,os⟩;rw[hsz];clear FH e3 s3 e2 s2 e1 s1 i1 hsz h3 h2 h1;refine aA ?_;unfold eC;refine aA (cY e4 rfl (x:=.none) rfl (wpAny_pure ?_));simp only[if_true];refine aA (rL ?_);refine aA (cY e4 rfl (x:=old) rfl ?_);refine aA (eJ e4 (by simp) λh5 e5 s5=>?_)
 replace s5:gI e h4 h5:=s5
 replace e5:lJ h5 e it ((i:Int)+1) x:=e5
 show aL _ _ (gC (.ref e) (.ref hp.objs.size) >>= _) _ _ ⟨h5,g,d,tk+1,os⟩;refine aA ?_;unfold gC;refine aA (eJ e5 (by simp) λh6 e6 s6=>?_)
 replace s6:gI e h5 h6:=s6
 replace e6:qZ h6 e it ((i:Int)+1) x hp.objs.size:=e6
 refine eJ e6 (by simp) λh7 e7 s7=>?_
 replace s7:gI e h6 h7:=s7
 replace e7:qZ h7 e it ((i:Int)+1) x hp.objs.size:=e7
 refine aA (pG (wpAny_pure ⟨_,rfl,hQ h7 e7 ?_ ?_ ?_ ?_⟩))
 ·exact((i4.extBut s5.extBut (Ne.symm AO)).extBut s6.extBut (Ne.symm AO)).extBut s7.extBut (Ne.symm AO)
 ·exact s7.extBut _ _ (gJ JT) (s6.extBut _ _ (gJ JT) (s5.extBut _ _ (gJ JT) t4))
 ·rw[s7.1,s6.1,s5.1,z4]
 ·exact λb o BW IF hb=>s7.extBut b o BW (s6.extBut b o BW (s5.extBut b o BW (k4 b o BW IF hb)))
theorem K5 {e it l:Addr}{i:Nat}{items:Array aC}{x old:aC}{Q:Option aC->aG->Prop}(he:lJ s.heap e it i old)(DF:s.heap.IsListIter it l i)(hl:s.heap.IsList l items)(hx:items[i]?=some x)(AO:e≠it)
  (hQ:∀h',qZ h' e it ((i:Int)+1) x s.heap.objs.size->h'.IsListIter it l (i+1)->h'.get? s.heap.objs.size=some { cls:=.type "tuple",data:=.seq #[.int i s.toks,x] }->h'.objs.size=s.heap.objs.size+1->(∀b o,b≠e->b≠it->s.heap.get? b=some o->h'.get? b=some o)->Q (some (.ref s.heap.objs.size)) { s with heap:=h',toks:=s.toks+1 }):aL (aS prog w) A (jL (.ref e)) Q E s:=by
 have hT:s.TypeIs (.ref e) "enumerate":=⟨_,he,rfl⟩;unfold jL;exact aA (lM (eZ (name:=hX "__next__") hT F.slot_enumerate_next (gM F.slot_enumerate_next hT F.entry_enumerate_next (K4 he DF hl hx AO λh' a b c d k=>wpAny_pure (hQ h' a b c d k)) (F.args_enumerate_next_1 _))))
theorem Ny {e it l:Addr}{i:Nat}{items:Array aC}{old:aC}{Q:Option aC->aG->Prop}(hh:A.handled=none)(he:lJ s.heap e it i old)(DF:s.heap.IsListIter it l i)(hl:s.heap.IsList l items)(hx:items[i]?=none)
  (hQ:∀h',uM it s.heap h'->Q none { s with heap:=h' }):aL (aS prog w) A (jL (.ref e)) Q E s:=by
 have hT:s.TypeIs (.ref e) "enumerate":=⟨_,he,rfl⟩;unfold jL;refine aA (lM (eZ (name:=hX "__next__") hT F.slot_enumerate_next (gM F.slot_enumerate_next hT F.entry_enumerate_next ?_ (F.args_enumerate_next_1 _))));show aL _ _ (field (.ref e) 2 >>= _) _ _ _;refine aA (cY he rfl (x:=.ref it) rfl ?_);refine aA (tL hh DF hl hx λh' x ex DL=>?_);obtain⟨o,ho,hc⟩:=DL;refine aA (oE (T:="StopIteration") (b:=true) ⟨o,ho,hc⟩ rN ?_);exact wpAny_pure (hQ _ ex)
end
structure Z3 (h:Heap)(e it l:Addr)(k:Nat):Prop where
 en:∃old,lJ h e it k old
 one:h.IsListIter it l k
def Qy (K:aB)(a:Addr):It:=
 ⟨λi H=>∃xs x,SqL K H a xs/\xs[i]?=some x,λi H v H'=>∃p x,H p=none/\v=.ref p/\(∀xs,SqL K H a xs->xs[i]?=some x)/\H'=upd H p (.tup [.int (i:Int),x]),λi H=>∃xs,SqL K H a xs/\xs.length<=i⟩
theorem K6 {P:aU}{w:aZ}{K:aB}{es:List Expr}{j:Nat}{pos:Pos}{e it a:Addr}(AO:e≠it)(hae:a≠e)(hai:a≠it) :
  qr P w K (.Tuple es j pos) (Qy K a) [e,it] e (λk h=>Z3 h e it a k) where
 mem:=by simp
 obj:=λk h Z c hc=>by
  obtain⟨⟨old,u1⟩,⟨o4,u4,_,v4⟩⟩:=Z;simp only[aX,dQ,or_false]at hc;rcases hc with q | q
  ·subst q;exact⟨_,u1,λv e=>by cases(show sD _=oS v from e)⟩
  ·subst q;exact⟨_,u4,λv e=>by rw[v4]at e;cases e⟩
 keep:=λk h h' Z kk=>by
  obtain⟨⟨old,u1⟩,⟨o4,u4,r4⟩⟩:=Z;exact⟨⟨old,kk e (by simp) _ u1⟩,⟨o4,kk it (by simp) _ u4,r4⟩⟩
 item:=by
  intro X hP hw hK hc k f' s σ H E I hf Z hg;subst hP hw hK;obtain⟨xs,x,hx,ex⟩:=hg;obtain⟨its,r1,p1,_⟩:=I.list hx;obtain⟨u,eu,ru⟩:=r1.get ex;obtain⟨⟨old,u1⟩,u2⟩:=Z;refine K5 u1 u2 (p1.isList) (x:=u) (by simpa using eu) AO λh1 b1 b2 b3 b4 kk=>?_;refine⟨_,rfl,wpAny_letOwnedTupleGo_enum b1 λh2 c1 sb=>?_⟩;have ks:∀c o,c ∉ [e,it]->s.heap.get? c=some o->h2.get? c=some o:=λc o hc q=>by
   simp only[aX,dQ,or_false,not_or]at hc;exact sb.extBut _ _ hc.1 (kk c o hc.1 hc.2 q)
  have ne:s.heap.objs.size≠e:=gJ (aW u1);have b5:=sb.extBut _ _ ne b3;have I2:Inv X f' σ H { s with heap:=h2,toks:=s.toks+1 }:=I.turnedAll (t':=s.toks+1) hf ks;have fT:ij X f' H s.heap.objs.size:=I.fpOk (aN _) (I.hok.fresh (aN _));have I3:Inv X f' σ (upd H s.heap.objs.size (.tup [.int (k:Int),x])) { s with heap:=h2,toks:=s.toks+1 }:=I2.track fT I.sz
   ⟨by show 2<=sizeLine;decide,[.int k s.toks,u],.cons ⟨_,rfl⟩ (.cons ru .nil),⟨_,b5,rfl,_,rfl⟩⟩
  refine⟨.ref s.heap.objs.size,_,I3,rfl,⟨_,x,fT.1,rfl,λus hu=>by rw[I.list_inj hu hx];exact ex,rfl⟩,?_,λc hc=>?_⟩
  ·obtain⟨w3,v3,q3⟩:=b2;exact⟨⟨_,c1⟩,⟨w3,sb.extBut _ _ (Ne.symm AO) v3,q3⟩⟩
  ·obtain⟨o,q⟩:∃o,s.heap.get? c=some o:=by
    obtain⟨o4,u4,_⟩:=u2;simp only[aX,dQ,or_false]at hc;rcases hc with q | q
    ·subst q;exact⟨_,u1⟩
    ·subst q;exact⟨_,u4⟩
   rw[ao (cE (aW q))];exact(hf c hc).1
 done:=by
  intro X hP hw hK hc k f' s σ H E I hf Z hg;subst hP hw hK;obtain⟨xs,hx,BN⟩:=hg;obtain⟨its,r1,p1,_⟩:=I.list hx;obtain⟨⟨old,u1⟩,u2⟩:=Z;have l1:=r1.length;refine Ny (I.ok.hd hc) u1 u2 (p1.isList) (by simp;lia) λh1 kk=>⟨rfl,I.turnedAll (t':=s.toks) hf λc o hc q=>?_⟩;simp only[aX,dQ,or_false,not_or]at hc;exact kk c o hc.2 q
 self:=λ_ _ _ _ _ Z h=>let ⟨_,u⟩:=Z.en;rY u h
section
variable {X:Cx}
def X4 (K:aB)(ta:TA):TI:=λσ H R=>ta σ H λvs H1=>∃a xs,vs=[.ref a]/\SqL K H1 a xs/\R (Qy K a) H1
theorem yr {e1:Expr}{ta:TA}{p pos CN:Pos}{es:List Expr}{j:Nat}(hg:Gl X "enumerate")(hm:X.mg "enumerate"=none)(ha:PA X [e1] ta)(hs:cJ [e1] X.env=[(false,eval e1 X.env)]:=by rfl)
  (BL:cJ [] X.env=[]:=by rfl):PI X (.Tuple es j CN) (.Call (.Name "enumerate" p) [e1] [] pos) (X4 X.K ta):=by
 intro f' s σ H R I h;refine Call_ (iw I hg hm (by kernel_rfl:jK (hX "enumerate")=some (.type "enumerate")) (gW (thn (ha pos f' s σ H _ I h) λus s1 ⟨vs,H1,I1,r1,q1⟩=>?_) (by rw[hs,BL]) (by rw[BL];rfl)));obtain⟨a,xs,e,hx,q⟩:=q1;subst e;obtain⟨u,rfl,ru⟩:=j9 r1;cases(show u=bZ a from ru);obtain⟨its,k1,p1,_⟩:=I1.list hx;have a1:a < s1.heap.objs.size:=(by obtain⟨_,e,_⟩:=p1.isList;exact aW e);refine K3 (p1.isList) λh2 Z1 Z2 sz kk=>?_;have I2:Inv X f' σ H1 { s1 with heap:=h2 }:=I1.kept (t':=s1.toks) kk;refine rY Z1 ⟨_,_,_,_,H1,rfl,I2,K6 (e:=s1.heap.objs.size+1) (it:=s1.heap.objs.size) (a:=a) (Nat.succ_ne_self _) (cE (rZ a1)) (cE a1),⟨⟨_,Z1⟩,Z2⟩,λc hc=>?_,q⟩;refine I1.fpOk ?_ (I1.hok.fresh ?_)
 all_goals
  simp only[aX,dQ,or_false]at hc;rcases hc with q | q<;>subst q<;>lia
end
section
variable {k:Nat}{fr:List Nat}{g:TG}{tt:TT}{te:TE}{σ:St}{Q:VK}{D:Addr}{H:Hp}
theorem vz {K:aB}{a b:Addr}{xs ws:List V}(AG:xs.length=ws.length)(Pv:Nat->List V->Hp->Prop)(h0:Pv 0 [] (upd H D (.lst [])))(hd:∀i ys H,Pv i ys H->H D=some (.lst ys))(hl:∀i ys H,i<=xs.length->Pv i ys H->SqL K H a xs/\SqL K H b ws)
  (hz:∀i ys H,i < xs.length->Pv i ys H->ys.length < sizeLine) (hs:∀i x y p ys H,xs[i]?=some x->ws[i]?=some y->Pv i ys H->H p=none->uc k fr g tt te σ D ys (Pv (i+1)) (.ref p) (upd H p (.tup [x,y]))) (he:∀ys H,Pv xs.length ys H->Q (.ref D) H):qd k fr g tt te σ Q (Qx K a b) H D:=by
 refine⟨λi m ys H=>i+m=xs.length/\Pv i ys H,⟨xs.length,by lia,h0⟩,?_⟩;intro i m ys H2 AC;obtain⟨e,p⟩:=AC;obtain⟨q1,q2⟩:=hl i ys H2 (by lia) p;refine⟨hd i ys H2 p,?_⟩;by_cases hi:i < xs.length
 ·have ex:xs[i]?=some xs[i]:=aK hi;have ey:ws[i]?=some ws[i]:=aK (by lia);refine .inr ⟨⟨xs,ws,_,_,q1,q2,ex,ey⟩,hz i ys H2 hi p,Pv (i+1),λFT H' p'=>⟨m - 1,by lia,by lia,p'⟩,?_⟩;intro x H3 AC;obtain⟨pp,x',y',fp,rfl,eu,ev,rfl⟩:=AC;exact hs i x' y' pp ys H2 (eu xs q1) (ev ws q2) p fp
 ·have e':i=xs.length:=(by lia);subst e';exact .inl ⟨⟨xs,ws,q1,q2,.inl (aN _)⟩,he ys H2 p⟩
theorem uo {K:aB}{a:Addr}{xs:List V}(Pv:Nat->List V->Hp->Prop)(h0:Pv 0 [] (upd H D (.lst [])))(hd:∀i ys H,Pv i ys H->H D=some (.lst ys))(hl:∀i ys H,i<=xs.length->Pv i ys H->SqL K H a xs)
  (hz:∀i ys H,i < xs.length->Pv i ys H->ys.length < sizeLine) (hs:∀i x p ys H,xs[i]?=some x->Pv i ys H->H p=none->uc k fr g tt te σ D ys (Pv (i+1)) (.ref p) (upd H p (.tup [.int (i:Int),x]))) (he:∀ys H,Pv xs.length ys H->Q (.ref D) H):qd k fr g tt te σ Q (Qy K a) H D:=by
 refine⟨λi m ys H=>i+m=xs.length/\Pv i ys H,⟨xs.length,by lia,h0⟩,?_⟩;intro i m ys H2 AC;obtain⟨e,p⟩:=AC;have q1:=hl i ys H2 (by lia) p;refine⟨hd i ys H2 p,?_⟩;by_cases hi:i < xs.length
 ·have ex:xs[i]?=some xs[i]:=aK hi;refine .inr ⟨⟨xs,_,q1,ex⟩,hz i ys H2 hi p,Pv (i+1),λFT H' p'=>⟨m - 1,by lia,by lia,p'⟩,?_⟩;intro x H3 AC;obtain⟨pp,x',fp,rfl,eu,rfl⟩:=AC;exact hs i x' pp ys H2 (eu xs q1) p fp
 ·have e':i=xs.length:=(by lia);subst e';exact .inl ⟨⟨xs,q1,aN _⟩,he ys H2 p⟩
end
theorem Tf {X:Cx}{ns ys:List Str}{fr:List Nat}{sc:gQ}{cl:List (Str×Addr)}(L:List (Str×uI))(clos:xQ sc X.env=pure cl)(kind:sc.kind=.function)(nocell:∀y∈sc.names,y.2≠.cell)(locs:∀y∈sc.names,y.2=.local->sc.names.lookup y.1=some .local)
  (sub:∀p∈cl,X.env.cells.lookup p.1=some p.2) (eL:(nJ sc X.env).names=L) (hL:∀p∈L,p.2=.cell\/p.2=.free->∃c,cl.lookup p.1=some c) (len:fr.length=ys.length)
  (outs:∀(j:Nat)(y:Str),ys[j]?=some y->∃i:Nat,fr[j]?=some i/\X.N[i]?=some y/\(X.env.kindOf y=some .cell\/X.env.kindOf y=some .free)/\((nJ sc X.env).names.lookup y=some .cell\/(nJ sc X.env).names.lookup y=some .free)):cp X ns ys fr sc cl where
 clos:=clos
 kind:=kind
 nocell:=nocell
 locs:=locs
 sub:=sub
 has:=λy h=>by
  rw[eL]at h;rcases h with h | h
  ·exact hL _ (di h) (.inl rfl)
  ·exact hL _ (di h) (.inr rfl)
 len:=len
 outs:=outs
section
variable {X:Cx}
def Z4:V->List V->Hp->VK->Prop:=λx vs H Q=>∃i,x=.int i/\vs=[]/\Q (.int (qJ i:Nat)) H
theorem Vr:MtM X "int.bit_length" Z4:=by
 intro f' s σ H x vs v us Q I rx rv h;obtain⟨i,rfl,rfl,q⟩:=h;obtain⟨t,rfl⟩:=rx;have LX:=rv.zero;subst LX;exact call_gives PySem.F.slot_int_bit_length (vK s i t) PySem.F.entry_int_bit_length (PySem.F.args_int_bit_length_1 _) (AutoIntG2.int_bit_length_int_0 i t) ⟨.int _,H,I.tok _,⟨_,rfl⟩,q⟩
def tTru (K:aB)(ta:TE):TT:=λσ H Q=>ta σ H λx H'=>∃k,Pq K x H' k/\Q k H'
theorem Fg {K:aB}{a:Expr}{ta:TE}(hK:X.K=K)(ha:PE X a ta)(he:∀BF,xB a X.env BF=(do let v <-BF;vL a.pos;rE [v] (truthy v))):PT X a (tTru K ta):=by
 subst hK;exact tu ha he
theorem Qz (k:Nat):qJ ((2:Int) ^ k)=k+1:=by
 have e:((2:Int) ^ k)=((2 ^ k:Nat):Int):=(by simp);unfold qJ;rw[e,if_neg (by have:=tZ k;simp;lia)];rw[Int.natAbs_natCast,Nat.log2_two_pow]
end
def AllP {α:Type}(p:α->Prop):List α->Prop
 | []=>True
 |x::r=>p x/\AllP p r
theorem AllP.mem {α:Type}{p:α->Prop}:∀{l:List α}{x:α},AllP p l->x∈l->p x
 |y::r,x,h,hx=>by
  rcases aX.mp hx with e | e
  ·rw[e];exact h.1
  ·exact h.2.mem e
def OutsP (X:Cx)(sc:gQ):List Str->List Nat->Prop
 | [],[]=>True
 |y::ys,i::fr=>(X.N[i]?=some y/\X.env.kindOf y=some .cell/\(nJ sc X.env).names.lookup y=some .cell)/\OutsP X sc ys fr
 |_,_=>False
theorem OutsP.get {X:Cx}{sc:gQ}:∀{ys:List Str}{fr:List Nat},OutsP X sc ys fr->fr.length=ys.length/\∀(j:Nat)(y:Str),ys[j]?=some y->∃i:Nat,fr[j]?=some i/\X.N[i]?=some y/\(X.env.kindOf y=some .cell\/X.env.kindOf y=some .free)/\((nJ sc X.env).names.lookup y=some .cell\/(nJ sc X.env).names.lookup y=some .free)
 | [],[],_=>⟨rfl,λj y e=>by cases j<;>cases e⟩
 |y::ys,i::fr,h=>by
  obtain⟨l,g⟩:=h.2.get;refine⟨by rw[eE,eE,l],λj z e=>?_⟩;cases j with
  |zero=>cases e;exact⟨i,rfl,h.1.1,.inl h.1.2.1,.inl h.1.2.2⟩
  |succ j=>exact g j z e
theorem csN {X:Cx}{ns ys:List Str}{fr:List Nat}{sc:gQ}{cl:List (Str×Addr)}(L:List (Str×uI))(clos:xQ sc X.env=pure cl:=by with_unfolding_all rfl)(kind:sc.kind=.function:=by rfl)(nocell:∀y∈sc.names,y.2≠.cell:=by decide +kernel)
  (locs:∀y∈sc.names,y.2=.local->sc.names.lookup y.1=some .local:=by decide +kernel) (sub:AllP (λp=>X.env.cells.lookup p.1=some p.2) cl:=by repeat' first | exact trivial | with_unfolding_all rfl | constructor)
  (eL:(nJ sc X.env).names=L:=by with_unfolding_all rfl) (hL:AllP (λp=>(p.2≠.cell/\p.2≠.free)\/(cl.lookup p.1).isSome=true) L:=by repeat' first | exact trivial | exact .inl ⟨by decide,by decide⟩ | exact .inr (by with_unfolding_all rfl) | constructor)
  (outs:OutsP X sc ys fr:=by repeat' first | exact trivial | with_unfolding_all rfl | constructor):cp X ns ys fr sc cl:=
 Tf L clos kind nocell locs (λ_ hp=>sub.mem hp) eL (λp hp hk=>by
   rcases hL.mem hp with h | h
   · exact absurd hk (λz=>z.elim h.1 h.2)
   · exact oC.mp h) outs.get.1 outs.get.2
theorem fsN {N ps:List Str}{sc:gQ}(a:sc.kind=.function:=by rfl)(b:sc.isCoroutine=false:=by rfl)(c:sc.isGenerator=false:=by rfl)(d:N.Nodup:=by decide +kernel)(e:N.take ps.length=ps:=by rfl)
  (f:∀x∈ps,sc.names.lookup x=some .local\/sc.names.lookup x=some .cell:=by decide +kernel) (g:∀y∈sc.names,y.2≠.free:=by decide +kernel):aw N ps sc:=⟨a,b,c,d,e,f,g⟩
theorem pg2 {X:Cx}{C:Addr}{s:aG}{H:Hp}{fp:List Addr}{cl:List (Str×Addr)}{sc:gQ}{a b:Str}{ys:List Str}{k:Nat}{p1 p2 p3:Pos}(hc:X.calm=true)(nd:([a,b]++ys).Nodup:=by decide +kernel)
  (ha:Loc (cxC X ([a,b]++ys) sc cl C s H fp).env.scope a:=by exact cD rfl) (hb:Loc (cxC X ([a,b]++ys) sc cl C s H fp).env.scope b:=by exact cD rfl)
  (ka:(cxC X ([a,b]++ys) sc cl C s H fp).env.scope.names.lookup a=some .local:=by rfl) (kb:(cxC X ([a,b]++ys) sc cl C s H fp).env.scope.names.lookup b=some .local:=by rfl) :
  PG (cxC X ([a,b]++ys) sc cl C s H fp) (.Tuple [.Name a p1,.Name b p2] k p3) (Xc X.K 2 (Jx (ox 0) (Jx (ox 1) Xb))):=
 vi hc (e8 (bo (i:=0) nd rfl ha (.inr ka)) (e8 (bo (i:=1) nd rfl hb (.inr kb)) lh))
section
variable {κ:Type}[DecidableEq κ]
def gi (kvs:List (κ×V))(k:κ):Option V:=(kvs.find? λkv=>decide (kv.1=k)).map (·.2)
def mq (kvs:List (κ×V))(k:κ)(v:V):List (κ×V):=
 if (kvs.any λkv=>decide (kv.1=k))=true then kvs.map (λkv=>if kv.1=k then (kv.1,v)else kv)else kvs++[(k,v)]
theorem gj {p:κ×V}{r:List (κ×V)}{k:κ}(e:p.1=k):gi (p::r) k=some p.2:=by simp[gi,oY,e]
theorem gk {p:κ×V}{r:List (κ×V)}{k:κ}(e:¬p.1=k):gi (p::r) k=gi r k:=by simp[gi,oY,e]
theorem uq (k:κ):∀kvs:List (κ×V),(kvs.any λkv=>decide (kv.1=k))=(gi kvs k).isSome
 | []=>rfl
 |p::r=>by
  rw[sQ];by_cases e:p.1=k
  ·simp only[gj e,decide_eq_true e,Bool.true_or,Option.isSome_some]
  ·rw[gk e,decide_eq_false e,Bool.false_or];exact uq k r
theorem Fh (k j:κ)(y:V):∀kvs:List (κ×V),gi (kvs.map λkv=>if kv.1=k then (kv.1,y)else kv) j=(gi kvs j).map λx=>if j=k then y else x
 | []=>rfl
 |p::r=>by
  have ih:=Fh k j y r;rw[gU];by_cases h:p.1=k
  ·rw[if_pos h];by_cases e:p.1=j
   ·rw[gj (p:=(p.1,y)) e,gj e,qQ,if_pos (e.symm.trans h)]
   ·rw[gk (p:=(p.1,y)) e,gk e,ih]
  ·rw[if_neg h];by_cases e:p.1=j
   ·rw[gj (p:=p) e,gj e,qQ,if_neg (λz=>h (e.trans z))]
   ·rw[gk (p:=p) e,gk e,ih]
theorem Cu (k j:κ)(y:V):∀kvs:List (κ×V),gi kvs k=none->gi (kvs++[(k,y)]) j=if j=k then some y else gi kvs j
 | [],_=>by
  by_cases e:k=j
  ·rw[if_pos e.symm];exact gj (p:=(k,y)) e
  ·rw[if_neg (λz=>e z.symm)];exact gk (p:=(k,y)) e
 |p::r,hn=>by
  rw[List.cons_append];have hk:¬p.1=k:=λz=>(by rw[gj z]at hn;cases hn);rw[gk hk]at hn;have ih:=Cu k j y r hn;by_cases e:p.1=j
  ·rw[gj e,gj e,if_neg (λz=>hk (e.trans z))]
  ·rw[gk e,gk e,ih]
theorem Fi (kvs:List (κ×V))(k j:κ)(y:V):gi (mq kvs k y) j=if j=k then some y else gi kvs j:=by
 unfold mq;by_cases a:(kvs.any λkv=>decide (kv.1=k))=true
 ·rw[if_pos a,Fh];rw[uq]at a;by_cases e:j=k
  ·obtain⟨x,hx⟩:=oC.mp a;rw[if_pos e,e,hx,qQ,if_pos rfl]
  ·rw[if_neg e];cases gi kvs j with
   |none=>rfl
   |some x=>rw[qQ,if_neg e]
 ·rw[if_neg a];refine Cu k j y kvs ?_;rw[uq]at a;cases q:gi kvs k with
  |none=>rfl
  |some x=>rw[q]at a;exact(a rfl).elim
theorem qw (kvs:List (κ×V))(k:κ)(v:V):(mq kvs k v).length<=kvs.length+1:=by
 unfold mq
 split
 ·rw[aJ];lia
 ·rw[aQ,eE,oX];lia
theorem RelO.isSome_eq {o:Option V}{u:Option aC}(r:RelO o u):o.isSome=u.isSome:=by
 cases o with
 |none=>cases u with
  |none=>rfl
  |some _=>exact(show False from r).elim
 |some _=>cases u with
  |none=>exact(show False from r).elim
  |some _=>rfl
theorem KV.val {kvs:List (κ×V)}{vs:List (κ×aC)}(r:KV kvs vs)(k:κ):RelO (gi kvs k) (vO vs k):=by
 unfold KV at r
 induction r with
 |nil=>exact rF
 |@cons p q ps qs h t ih=>
  obtain⟨h1,h2⟩:=h;by_cases e:p.1=k
  ·have e':q.1=k:=h1.symm.trans e;have b:vO (q::qs) k=some q.2:=(by simp[vO,oY,e']);rw[gj e,b];exact h2
  ·have e':¬q.1=k:=λz=>e (h1.trans z);have b:vO (q::qs) k=vO qs k:=(by simp[vO,oY,e']);rw[gk e,b];exact ih
theorem KV.any {kvs:List (κ×V)}{vs:List (κ×aC)}(r:KV kvs vs)(k:κ):(kvs.any λkv=>decide (kv.1=k))=vs.any λkv=>decide (kv.1=k):=by
 unfold KV at r
 induction r with
 |nil=>rfl
 |cons h t ih=>rw[sQ,sQ,ih,h.1]
theorem KV.repl {kvs:List (κ×V)}{vs:List (κ×aC)}(r:KV kvs vs)(k:κ){y:V}{u:aC}(ry:RelV y u) :
  KV (kvs.map λkv=>if kv.1=k then (kv.1,y)else kv) (vs.map λkv=>if kv.1=k then (kv.1,u)else kv):=by
 unfold KV at r ⊢
 induction r with
 |nil=>exact .nil
 |@cons p q ps qs h t ih=>
  rw[gU,gU];refine .cons ?_ ih;obtain⟨h1,h2⟩:=h;by_cases e:p.1=k
  ·rw[if_pos e,if_pos (h1.symm.trans e)];exact⟨h1,ry⟩
  ·rw[if_neg e,if_neg (λz=>e (h1.trans z))];exact⟨h1,h2⟩
theorem KV.put {kvs:List (κ×V)}{vs:List (κ×aC)}(r:KV kvs vs)(k:κ){y:V}{u:aC}(ry:RelV y u):KV (mq kvs k y) (stored vs k u):=by
 unfold mq stored;rw[r.any k];by_cases e:(vs.any λkv=>decide (kv.1=k))=true
 ·rw[if_pos e,if_pos e];exact r.repl k ry
 ·rw[if_neg e,if_neg e];exact Paired.snoc r ⟨rfl,ry⟩
theorem KV.length {kvs:List (κ×V)}{vs:List (κ×aC)}(r:KV kvs vs):kvs.length=vs.length:=Paired.length r
end
theorem Dm {P:aU}{w:aZ}{k:Key}{u:aC}(r:RelV (kV k) u):(fv P w).is k u=true:=by
 cases k with
 |inl i=>obtain⟨t,e⟩:=(show ∃t,u=oR i t from r);subst e;exact Hf P w i t
 |inr x=>obtain⟨t,e⟩:=(show ∃t,u=wH x t from r);subst e;exact Hg P w x t
theorem Cv {P:aU}{w:aZ}:∀{ks:List Key}{us:List aC},Vals (ks.map kV) us->ItemsAre (fv P w) ks us
 | [],_,r=>by rw[yL]at r;cases r;exact .nil
 |k::ks,_,r=>by
  rw[gU]at r;cases r with
  |cons h t=>exact .cons (Dm h) (Cv t)
abbrev KT (H:Hp):List (List Key×V)->List (List Key×Addr×aC)->Prop:=Paired λp q=>p.1=q.1/\H q.2.1=some (.tup (p.1.map kV))/\RelV p.2 q.2.2
theorem KT.val {H:Hp}{kvs:List (List Key×V)}{xs:List (List Key×Addr×aC)}(r:KT H kvs xs)(k:List Key):RelO (gi kvs k) ((wU xs k).map (·.2)):=by
 induction r with
 |nil=>exact rF
 |@cons p q ps qs h t ih=>
  obtain⟨h1,_,h2⟩:=h;by_cases e:p.1=k
  ·have e':q.1=k:=h1.symm.trans e;have b:wU (q::qs) k=some q.2:=(by simp[wU,oY,e']);rw[gj e,b];exact h2
  ·have e':¬q.1=k:=λz=>e (h1.trans z);have b:wU (q::qs) k=wU qs k:=(by simp[wU,oY,e']);rw[gk e,b];exact ih
theorem KT.repl {H:Hp}{kvs:List (List Key×V)}{xs:List (List Key×Addr×aC)}(r:KT H kvs xs)(k:List Key){y:V}{u:aC}(ry:RelV y u) :
  KT H (kvs.map λkv=>if kv.1=k then (kv.1,y)else kv) (xs.map (putAt k u)):=by
 induction r with
 |nil=>exact .nil
 |@cons p q ps qs h t ih=>
  rw[gU,gU];refine .cons ?_ ih;obtain⟨h1,h2,h3⟩:=h;unfold putAt;by_cases e:p.1=k
  ·rw[if_pos e,if_pos (h1.symm.trans e)];exact⟨h1,h2,ry⟩
  ·rw[if_neg e,if_neg (λz=>e (h1.trans z))];exact⟨h1,h2,h3⟩
theorem KT.put {H:Hp}{kvs:List (List Key×V)}{xs:List (List Key×Addr×aC)}(r:KT H kvs xs)(k:List Key){b:Addr}{y:V}{u:aC}(hb:H b=some (.tup (k.map kV)))(ry:RelV y u) :
  KT H (mq kvs k y) (storedH xs k b u):=by
 have e:(kvs.any λkv=>decide (kv.1=k))=(wU xs k).isSome:=by
  rw[uq,(r.val k).isSome_eq,Option.isSome_map]
 unfold mq storedH;rw[e];by_cases q:(wU xs k).isSome=true
 ·rw[if_pos q,if_pos q];exact r.repl k ry
 ·rw[if_neg q,if_neg q];exact Paired.snoc r ⟨rfl,hb,ry⟩
theorem KT.keeps {H H':Hp}{kvs:List (List Key×V)}{xs:List (List Key×Addr×aC)}(r:KT H kvs xs)(ht:∀b ys,H b=some (.tup ys)->H' b=some (.tup ys)):KT H' kvs xs:=
 Paired.mapP r λ_ _ z=>⟨z.1,ht _ _ z.2.1,z.2.2⟩
section
variable {P:aU}{w:aZ}{H:Hp}{h:Heap}{a:Addr}
theorem Tg {u:HO}(ok:HOk P w H h)(e:Rd H a u):ObjOk P w H h a u:=e.ok ok
theorem Do {kvs:List (Key×V)}(ok:HOk P w H h)(e:Rd H a (.dK kvs)):kvs.length<=sizeLine/\(a == nV)=false/\∃vs,KV kvs vs/\h.DictOf (fv P w) a vs:=
 show ObjOk P w H h a (.dK kvs)from Tg ok e
theorem Z5 {kvs:List (Key×V)}(ok:HOk P w H h)(e:H a=some (.dK kvs)):kvs.length<=sizeLine/\(a == nV)=false/\∃vs,KV kvs vs/\h.DictOf (fv P w) a vs:=Do ok (.inl e)
theorem Ax {ks:List Key}(ok:HOk P w H h)(e:H a=some (.tup (ks.map kV))):(wI (fv P w)).is h ks a:=by
 obtain⟨_,its,r,o,h1,h2,n,h3⟩:=(show ObjOk P w H h a (.tup (ks.map kV))from ok a _ e);exact⟨o,its.toArray,n,h1,h2,h3,by simpa using Cv r⟩
theorem Dp {kvs:List (List Key×V)}(ok:HOk P w H h)(e:Rd H a (.dT kvs)):kvs.length<=sizeLine/\(a == nV)=false/\
  ∃xs,KT H kvs xs/\h.DictOfH (wI (fv P w)) a xs:=by
 obtain⟨z,y,xs,r,o,es,ep,h1,h2,h3,h4,h5⟩:=(show ObjOk P w H h a (.dT kvs)from Tg ok e);refine⟨z,y,xs,r,o,es,ep,h1,h2,h3,h4,λx hx=>?_,h5⟩;have all:∀{l:List (List Key×V)}{m:List (List Key×Addr×aC)},KT H l m->∀x∈m,(wI (fv P w)).is h x.1 x.2.1:=by
  intro l m q
  induction q with
  |nil=>intro x hx;exact nomatch hx
  |@cons p q ps qs hq t ih=>
   intro x hx;rcases aX.mp hx with e | hx
   ·subst e;exact Ax ok (by rw[<-hq.1];exact hq.2.1)
   ·exact ih x hx
 exact all r x hx
theorem Z6 {kvs:List (List Key×V)}(ok:HOk P w H h)(e:H a=some (.dT kvs)):kvs.length<=sizeLine/\(a == nV)=false/\
  ∃xs,KT H kvs xs/\h.DictOfH (wI (fv P w)) a xs:=Dp ok (.inl e)
end
def DGet (H:Hp)(a:Addr)(y:V)(r:Option V):Prop:=
 (∃kvs k,Rd H a (.dK kvs)/\y=kV k/\r=gi kvs k)\/∃kvs k b,Rd H a (.dT kvs)/\y=.ref b/\H b=some (.tup (k.map kV))/\r=gi kvs k
def DPut (H:Hp)(a:Addr)(y v:V)(H':Hp):Prop:=
 (∃kvs k,H a=some (.dK kvs)/\y=kV k/\kvs.length < sizeLine/\H'=upd H a (.dK (mq kvs k v)))\/
 ∃kvs k b,H a=some (.dT kvs)/\y=.ref b/\H b=some (.tup (k.map kV))/\kvs.length < sizeLine/\H'=upd H a (.dT (mq kvs k v))
theorem DGet.k {H:Hp}{a:Addr}{kvs:List (Key×V)}{k:Key}(e:H a=some (.dK kvs)):DGet H a (kV k) (gi kvs k):=.inl ⟨kvs,k,.inl e,rfl,rfl⟩
theorem DPut.k {H:Hp}{a:Addr}{kvs:List (Key×V)}{k:Key}{v:V}(e:H a=some (.dK kvs))(hl:kvs.length < sizeLine):DPut H a (kV k) v (upd H a (.dK (mq kvs k v))):=.inl ⟨kvs,k,e,rfl,hl,rfl⟩
section
variable {X:Cx}{f':List (Addr×Obj)}{σ:St}{H:Hp}{s:aG}{a:Addr}{y v:V}{u r:aC}{o:Option V}{A:cC}{E:aC->aG->Prop}
theorem Inv.big (I:Inv X f' σ H s):nV < s.heap.objs.size:=by
 have h:cW < s.heap.objs.size:=(I.mod.glob.keeps I.bk).lt;exact jE (by decide) h
theorem Nz {Q:aC->aG->Prop}(hu:A.units+1 < jH)(I:Inv X f' σ H s)(g:DGet H a y (some v))(ry:RelV y u)(h:∀w' s',Inv X f' σ H s'->RelV v w'->Q w' s') :
  aL (aS X.prog X.w) A (rH (.ref a) u) Q E s:=by
 rcases g with⟨kvs,k,e,ey,l⟩ | ⟨kvs,k,b,e,ey,eb,l⟩
 ·subst ey;obtain⟨z,hd,vs,CK,dd⟩:=Do I.hok e;obtain⟨w',hw,EU⟩:=RelO.some_of (v:=v) (o:=vO vs k) (by rw[l];exact CK.val k);exact wpAny_getItem_of (Dm ry) dd.mapOf hw (h w' _ (I.tok _) EU)
 ·subst ey;cases(show u=bZ b from ry);obtain⟨z,hd,xs,CK,dd⟩:=Dp I.hok e;obtain⟨w',hw,EU⟩:=RelO.some_of (v:=v) (o:=(wU xs k).map (·.2)) (by rw[l];exact CK.val k);obtain⟨p,hp,BC⟩:=gY.mp hw;refine wpAny_getItem_heap (uR hu) (Ax I.hok eb) dd hp ?_;rw[BC];exact h w' _ (I.tok _) EU
theorem Vs {Q:aC->aG->Prop}(hu:A.units+1 < jH)(I:Inv X f' σ H s)(g:DGet H a y o)(ry:RelV y u)(h:∀s',Inv X f' σ H s'->Q (.bool (!o.isSome)) s') :
  aL (aS X.prog X.w) A (jX .NotIn u (.ref a)) Q E s:=by
 rcases g with⟨kvs,k,e,ey,l⟩ | ⟨kvs,k,b,e,ey,eb,l⟩
 ·subst ey;obtain⟨z,hd,vs,CK,dd⟩:=Do I.hok e;refine wpAny_notIn_of (Dm ry) hd dd.mapOf ?_;rw[<-(CK.val k).isSome_eq,<-l];exact h _ (I.tok _)
 ·subst ey;cases(show u=bZ b from ry);obtain⟨z,hd,xs,CK,dd⟩:=Dp I.hok e;refine wpAny_notIn_heap (uR hu) (Ax I.hok eb) hd dd ?_;have q:=(CK.val k).isSome_eq;rw[Option.isSome_map]at q;rw[<-q,<-l];exact h _ (I.tok _)
theorem Im {h':Heap}{t':Nat}{ob:HO}(I:Inv X f' σ H s)(mu:Mut (H a))(hs:gI a s.heap h')(he:∃q,h'.get? a=some q)(new:ObjOk X.prog X.w (upd H a ob) h' a ob) :
  Inv X f' σ (upd H a ob) { s with heap:=h',toks:=t' }:=
 I.write (x:=a) (e:=a) mu (.inl rfl) (λb q hb z=>(hs.2 b hb).trans z) he new
theorem X5 {P:aU}{w:aZ}{H':Hp}{h':Heap}{kvs:List (Key×V)}{vs:List (Key×aC)}(z:kvs.length<=sizeLine)(hd:(a == nV)=false)(CK:KV kvs vs)(dd:h'.DictOf (fv P w) a vs) :
  ObjOk P w H' h' a (.dK kvs):=⟨z,hd,vs,CK,dd⟩
theorem N0 {H':Hp}{Q:Unit->aG->Prop}(hu:A.units+1 < jH)(I:Inv X f' σ H s)(g:DPut H a y v H')(ry:RelV y u)(rv:RelV v r)(h:∀s',Inv X f' σ H' s'->Q () s') :
  aL (aS X.prog X.w) A (setItem (.ref a) u r) Q E s:=by
 rcases g with⟨kvs,k,e,ey,l,eH⟩ | ⟨kvs,k,b,e,ey,eb,l,eH⟩
 ·subst ey eH;obtain⟨z,hd,vs,CK,dd⟩:=Z5 I.hok e;have hz:vs.length<=sizeLine:=(by rw[<-CK.length];exact z);have hl:(mq kvs k v).length<=sizeLine:=(by have:=qw kvs k v;lia);refine wpAny_setItem_pairs (hsz:=hz) (Dm ry) dd λh' MJ hs=>h _ ?_;have he:∃q,h'.get? a=some q:=let ⟨q,_,_,hq,_⟩:=MJ;⟨q,hq⟩;exact Im I (by rw[e];exact rF) hs he (X5 hl hd (CK.put k rv) MJ)
 ·subst ey eH;cases(show u=bZ b from ry);obtain⟨z,hd,xs,CK,dd⟩:=Z6 I.hok e;have hz:xs.length<=sizeLine:=(by rw[<-Paired.length CK];exact z);have hl:(mq kvs k v).length<=sizeLine:=(by have:=qw kvs k v;lia);refine wpAny_setItem_heap (hsz:=hz) (uR hu) (Ax I.hok eb) dd λh' MJ hs=>h _ ?_;obtain⟨q,es,ep,hq,h2,h3,h4,_,h5⟩:=MJ;refine Im I (by rw[e];exact rF) hs ⟨q,hq⟩ ⟨hl,hd,_,(CK.put k eb rv).keeps λc ys ec=>?_,q,es,ep,hq,h2,h3,h4,h5⟩;rw[ao (ou ec e (λz=>nomatch z))];exact ec
end
section
variable {X:Cx}{f':List (Addr×Obj)}{σ:St}{H:Hp}{s:aG}{a:Addr}{kvs:List (Key×V)}{k:Key}{u:aC}{A:cC}{E:aC->aG->Prop}
end
def X6 (i:Expr):Prop:=∀ov iv,wY i false ov iv=operate [ov,iv] (rH ov iv)
theorem Vt {prog:aU}{w:aZ}{A:cC}{E:aC->aG->Prop}{s:aG}{env:Env}{value slice:Expr}{pos:Pos}{T id:String}{Q:aC->aG->Prop}
  (hl:jI (.type T) "__getitem__"=pure (some (.builtin id))) (hs:X6 slice)
  (h:aL (aS prog w) A (eval value env) (λo s₁=>aL (aS prog w) A (eval slice env) (λi s₂=>s₂.TypeIs o T/\aL (aS prog w) A (rH o i) Q E s₂) E s₁) E s) :
  aL (aS prog w) A (eval (.Subscript value slice pos) env) Q E s:=by
 refine Subscript_ (gB h (λo s₁ h₁=>gB h₁ (λi s₂ h₂=>?_) λ_ _ x=>x) λ_ _ x=>x);obtain⟨hT,h₂⟩:=h₂;unfold uU;refine aA ?_;rw[getitemInPython_of_ne hT.not_modules];refine aA (tW hT hl ?_);have AK:aL (aS prog w) A (wY slice false o i) (λr s₃=>aL (aS prog w) A (letTemporaryGo value o r >>= λ_=>pure r) Q E s₃) E s₂:=by
  rw[hs o i];exact wpAny_operating (gB h₂ (λr s₃ h₃=>aA (wpAny_letTemporaryGo (wpAny_pure h₃))) λ_ _ x=>x)
 first
  |exact wpAny_pure (aA AK)
  |exact aA (wpAny_pure (aA AK))
  |exact aA AK
theorem Hl {X:Cx}{f':List (Addr×Obj)}{σ:St}{H:Hp}{s:aG}{a:Addr}{y:V}{o:Option V}(I:Inv X f' σ H s)(g:DGet H a y o):s.TypeIs (.ref a) "dict":=by
 rcases g with⟨kvs,k,e,_,_⟩ | ⟨kvs,k,b,e,_,_,_⟩
 ·obtain⟨_,_,vs,_,dd⟩:=Do I.hok e;exact dd.typeIs
 ·obtain⟨_,_,xs,_,dd⟩:=Dp I.hok e;exact dd.typeIs
def Z7 (td ty:TE):TE:=λσ H Q=>td σ H λx H1=>ty σ H1 λy H2=>∃a v,x=.ref a/\DGet H2 a y (some v)/\Q v H2
def Vu (ty td:TE):TE:=λσ H Q=>ty σ H λy H1=>td σ H1 λx H2=>∃a o,x=.ref a/\DGet H2 a y o/\Q (.bl (!o.isSome)) H2
def Z8 (td ty tv:TE):TS:=λD σ H=>tv σ H λv H1=>td σ H1 λx H2=>ty σ H2 λy H3=>∃a H4,x=.ref a/\DPut H3 a y v H4/\D.nx σ H4
section
variable {X:Cx}{o i e value:Expr}{pos BH CN:Pos}{td ty tv:TE}
theorem Vv (hu:X.A.units+1 < jH)(ho:PE X o td)(hi:PE X i ty)(hs:X6 i):PE X (.Subscript o i pos) (Z7 td ty):=by
 intro f' s σ H Q I h;refine Vt PySem.F.slot_dict_getitem.lookup hs (thn (ho f' s σ H _ I h) λu s1 AD=>?_);obtain⟨x,H1,I1,rx,q1⟩:=AD;refine thn (hi f' s1 σ H1 _ I1 q1) λiv s2 AD=>?_;obtain⟨y,H2,I2,ry,a,v,ex,g,q2⟩:=AD;subst ex;obtain rfl:u=bZ a:=rx;exact⟨Hl I2 g,Nz hu I2 g ry λw' s3 I3 EU=>⟨v,H2,I3,EU,q2⟩⟩
theorem N4 (hu:X.A.units+1 < jH)(hi:PE X i ty)(ho:PE X o td):PC X .NotIn i o (Vu ty td):=by
 intro f' s σ H Q I h;refine thn (hi f' s σ H _ I h) λiv s1 AD=>?_;obtain⟨y,H1,I1,ry,q1⟩:=AD;refine thn (ho f' s1 σ H1 _ I1 q1) λu s2 AD=>?_;obtain⟨x,H2,I2,rx,a,ov,ex,g,q2⟩:=AD;subst ex;obtain rfl:u=bZ a:=rx;exact Vs hu I2 g ry λs3 I3=>⟨.bl (!ov.isSome),H2,I3,rfl,q2⟩
theorem Vw (hu:X.A.units+1 < jH)(ho:PE X o td)(hi:PE X i ty)(hv:PE X value tv)(hs:qU value (some (.Subscript o i BH)) pos.line X.env=pure false) :
  PS X (.Assign [.Subscript o i BH] value pos) (Z8 td ty tv):=by
 intro f' s σ H D I h;refine wpAny_Assign_Subscript (thn (hv f' s σ H _ I h) λr s1 AD=>?_) hs;obtain⟨v,H1,I1,rv,q1⟩:=AD;refine thn (ho f' s1 σ H1 _ I1 q1) λu s2 AD=>?_;obtain⟨x,H2,I2,rx,q2⟩:=AD;refine thn (hi f' s2 σ H2 _ I2 q2) λiv s3 AD=>?_;obtain⟨y,H3,I3,ry,a,H4,ex,g,q3⟩:=AD;subst ex;obtain rfl:u=bZ a:=rx;exact N0 hu I3 g ry rv λs4 I4=>⟨σ,H4,I4,q3⟩
end
theorem Q0 {P:aU}{w:aZ}{H:Hp}(h:Heap)(hb:nV < h.objs.size):ObjOk P w H (h.push { cls:=.type "dict",data:=.dict #[] }) h.objs.size (.dK []):=
 ⟨gO _,beq_eq_false_iff_ne.mpr (Ne.symm (cE hb)),[],.nil,Heap.DictOf.new h⟩
def X7:TE:=λ_ H Q=>∀p,H p=none->Q (.ref p) (upd H p (.dK []))
section
variable {X:Cx}{pos:Pos}
theorem Q1:PE X (.Dict [] [] pos) X7:=λf' s σ H Q I h=>
 wpAny_Dict_empty ⟨.ref s.heap.objs.size,_,I.laid (a:=s.heap.objs.size) (o:=.dK []) (t':=s.toks) (λ_ _ q=>aI _ q) (aN _) (Q0 s.heap I.big),rfl,h _ (I.hok.fresh (aN _))⟩
end
structure M1 (X:Cx)(o:Expr)(m:Str)(AX:Pos)(e:Expr)(AN:Pos):Prop where
 base:nP o m X.env (eval o X.env)=eval o X.env
 few:((jU AN (cJ [e] X.env)).all (λx=>!x.1) && (vS AN (sE [] X.env)).all (λx=>x.1.isSome) && decide (([e]:List Expr).length+([]:List vM).length+(if ([]:List vM).isEmpty then 0 else 1) < 30))=true
 line:(AX.endLine == AN.line)=true
 trees:jU AN (cJ [e] X.env)=[(false,eval e X.env)]
section
variable {X:Cx}{f':List (Addr×Obj)}{σ:St}{H:Hp}{s:aG}{a:Addr}{y d:V}{u r:aC}{o:Option V}{A:cC}{E:aC->aG->Prop}
end
section
variable {X:Cx}{o e f:Expr}{AX AN:Pos}{td ty tx:TE}
end
section
variable {X:Cx}{f':List (Addr×Obj)}{σ:St}{H:Hp}{s:aG}{a:Addr}{kvs:List (Key×V)}{A:cC}{E:aC->aG->Prop}
end
section
variable {X:Cx}{f':List (Addr×Obj)}{σ:St}{H:Hp}{s:aG}{a:Addr}{y:V}{u:aC}{A:cC}{E:aC->aG->Prop}
end
section
variable {κ:Type}[DecidableEq κ]
end
end L2
namespace Bits
open PySem
theorem Fj (a b:Nat):(2 * a) &&& (2 * b+1)=2 * (a &&& b):=by
 apply pY;intro i;cases i with
 |zero=>simp
 |succ i=>
  rw[oZ,kQ,kQ,kQ,show 2 * a / 2=a by lia,show(2 * b+1) / 2=b by lia,show 2 * (a &&& b) / 2=a &&& b by lia,oZ]
theorem Io (a b:Nat):(2 * a+1) &&& (2 * b)=2 * (a &&& b):=by
 rw[Nat.and_comm,Fj,Nat.and_comm]
theorem Vx (a b:Nat):(2 * a) &&& (2 * b)=2 * (a &&& b):=by
 apply pY;intro i;cases i with
 |zero=>simp
 |succ i=>
  rw[oZ,kQ,kQ,kQ,show 2 * a / 2=a by lia,show 2 * b / 2=b by lia,show 2 * (a &&& b) / 2=a &&& b by lia,oZ]
theorem Vy:∀(m:Nat),0 < m->∃k,m - (m &&& (m - 1))=2 ^ k/\2 ^ k<=m/\m &&& 2 ^ k=2 ^ k:=by
 intro m
 induction m using Nat.strongRecOn with
 |ind m ih=>
  intro hm;rcases Nat.mod_two_eq_zero_or_one m with h | h
  ·obtain⟨q,rfl⟩:∃q,m=2 * q:=⟨m / 2,by lia⟩;obtain⟨k,h1,h2,h3⟩:=ih q (by lia) (by lia);have e:2 * q - 1=2 * (q - 1)+1:=(by lia);refine⟨k+1,?_,?_,?_⟩
   ·rw[e,Fj,rA];lia
   ·rw[rA];lia
   ·rw[rA,tQ (2 ^ k) 2,Vx,h3]
  ·obtain⟨q,rfl⟩:∃q,m=2 * q+1:=⟨m / 2,by lia⟩;refine⟨0,?_,?_,?_⟩
   ·have e:2 * q+1 - 1=2 * q:=(by lia);rw[e,Io,Nat.and_self];lia
   ·rw[Nat.pow_zero];lia
   ·rw[Nat.pow_zero];have:=Io q 0;apply pY;intro i;cases i with
    |zero=>simp
    |succ i=>simp[kQ]
def qz (n:Nat)(m:Int):Prop:=0<=m/\m < 2 ^ n
theorem jb {n:Nat}{m:Int}(h:qz n m):∃k:Nat,m=(k:Int)/\k < 2 ^ n:=by
 obtain⟨h0,h1⟩:=h;refine⟨m.toNat,by lia,?_⟩;have:((2:Int) ^ n)=((2 ^ n:Nat):Int):=(by simp);rw[this]at h1;lia
theorem Ay {n k:Nat}(h:k < 2 ^ n):qz n (k:Int):=by
 refine⟨by lia,?_⟩;have:((2:Int) ^ n)=((2 ^ n:Nat):Int):=(by simp);rw[this];lia
theorem N5 (n:Nat):qz n 0:=Ay (k:=0) (tZ n)
theorem Q2 {n k:Nat}(h:k < n):qz n (2 ^ k):=by
 have e:((2:Int) ^ k)=((2 ^ k:Nat):Int):=(by simp);rw[e];exact Ay (Nat.pow_lt_pow_right (by decide) h)
theorem N6 (a b:Nat):nO (a:Int) (b:Int)=((a ||| b:Nat):Int):=by
 unfold nO nZ xG;have h1:decide (0<=-(a:Int) - 1)=false:=(by simp;lia);have h2:decide (0<=-(b:Int) - 1)=false:=(by simp;lia);rw[h1,h2];dsimp only;have e1:(-(-(a:Int) - 1) - 1).toNat=a:=(by lia);have e2:(-(-(b:Int) - 1) - 1).toNat=b:=(by lia);rw[e1,e2];lia
theorem Vz {n:Nat}{a b:Int}(ha:qz n a)(hb:qz n b):qz n (nO a b):=by
 obtain⟨x,rfl,hx⟩:=jb ha;obtain⟨y,rfl,hy⟩:=jb hb;rw[N6];exact Ay (Nat.or_lt_two_pow hx hy)
theorem Ip (a b:Nat):nZ (a:Int) (b:Int)=((a &&& b:Nat):Int):=by
 rw[PyProof.Rows.bitAnd_pp (by lia) (by lia)];rfl
def MaskP (n:Nat)(m:Int)(p:Nat->Prop):Prop:=qz n m/\∀j,j < n->(m.toNat.testBit j=true↔p j)
theorem MaskP.iff {n:Nat}{m:Int}{p q:Nat->Prop}(h:MaskP n m p)(e:∀j,j < n->(p j↔q j)):MaskP n m q:=
 ⟨h.1,λj hj=>(h.2 j hj).trans (e j hj)⟩
theorem jk (n:Nat):MaskP n 0 (λ_=>False):=⟨N5 n,λj _=>by simp⟩
theorem V0 (k:Nat):((2:Int) ^ k).toNat=2 ^ k:=by
 have e:((2:Int) ^ k)=((2 ^ k:Nat):Int):=(by simp);rw[e,gL]
theorem qh {n k:Nat}(h:k < n):MaskP n (2 ^ k) (λj=>j=k):=⟨Q2 h,λj _=>by
  rw[V0,Nat.testBit_two_pow];simp[eq_comm]⟩
theorem uu {n:Nat}{a b:Int}{p q:Nat->Prop}(ha:MaskP n a p)(hb:MaskP n b q):MaskP n (nO a b) (λj=>p j\/q j):=by
 refine⟨Vz ha.1 hb.1,λj hj=>?_⟩;have ea:=ha.2 j hj;have eb:=hb.2 j hj;obtain⟨x,rfl,hx⟩:=jb ha.1;obtain⟨y,rfl,hy⟩:=jb hb.1;rw[N6,gL,Nat.testBit_or,qR];rw[gL]at ea eb;rw[ea,eb]
theorem MaskP.uniq {n:Nat}{a b:Int}{p:Nat->Prop}(ha:MaskP n a p)(hb:MaskP n b p):a=b:=by
 have ea:=ha.2;have eb:=hb.2;obtain⟨x,rfl,hx⟩:=jb ha.1;obtain⟨y,rfl,hy⟩:=jb hb.1;rw[gL]at ea eb;congr 1;apply pY;intro j;by_cases hj:j < n
 ·have:=(ea j hj).trans (eb j hj).symm;cases h1:x.testBit j<;>cases h2:y.testBit j<;>simp_all
 ·have hp:2 ^ n<=2 ^ j:=uA (by decide) (by lia);rw[Nat.testBit_lt_two_pow (by lia),Nat.testBit_lt_two_pow (by lia)]
theorem MaskP.zero_iff {n:Nat}{a:Int}{p:Nat->Prop}(ha:MaskP n a p):a=0↔∀j,j < n->¬p j:=by
 constructor
 ·intro AC j hj h;subst AC;have:=(ha.2 j hj).mpr h;simp at this
 ·intro h;exact ha.uniq ((jk n).iff λj hj=>⟨λz=>z.elim,λz=>h j hj z⟩)
theorem V1 (x k:Nat)(h:x &&& 2 ^ k=2 ^ k)(j:Nat):(x - 2 ^ k).testBit j=(x.testBit j && decide (j≠k)):=by
 have hb:x.testBit k=true:=by
  have:=congrArg (λz=>Nat.testBit z k) h;simp only[oZ,Nat.testBit_two_pow_self,uX]at this;exact this
 have hp:=tZ k;have ho:x / 2 ^ k % 2=1:=by
  rw[Nat.testBit_eq_decide_div_mod_eq]at hb;exact of_decide_eq_true hb
 have ex:=Nat.div_add_mod x (2 ^ k);have hl:x % 2 ^ k < 2 ^ k:=pA _ hp;generalize x / 2 ^ k=a at ho ex;generalize x % 2 ^ k=b at ex hl;obtain⟨c,rfl⟩:∃c,a=2 * c+1:=⟨a / 2,by lia⟩;have e2:x - 2 ^ k=2 ^ k * (2 * c)+b:=by
  rw[<-ex,Nat.mul_add,Nat.mul_one];lia
 rw[e2,<-ex,Nat.testBit_two_pow_mul_add _ hl,Nat.testBit_two_pow_mul_add _ hl];by_cases hj:j < k
 ·rw[if_pos hj,if_pos hj];have:decide (j≠k)=true:=(by simp;lia);rw[this,uX]
 ·rw[if_neg hj,if_neg hj];by_cases e:j=k
  ·subst e;simp
  ·obtain⟨d,rfl⟩:∃d,j=k+(d+1):=⟨j - k - 1,by lia⟩;have e3:k+(d+1) - k=d+1:=(by lia);rw[e3,kQ,kQ,show 2 * c / 2=c by lia,show(2 * c+1) / 2=c by lia];have:decide (k+(d+1)≠k)=true:=(by simp);rw[this,uX]
theorem N7 {n:Nat}{m:Int}{p:Nat->Prop}(h:MaskP n m p)(h0:m≠0):∃k:Nat,nZ m (-m)=2 ^ k/\k < n/\p k/\MaskP n (uG m (2 ^ k)) (λj=>p j/\j≠k)/\uG m (2 ^ k) < m:=by
 have hm:=h.2;obtain⟨x,rfl,hx⟩:=jb h.1;have IH:0 < x:=(by lia);obtain⟨k,h1,h2,h3⟩:=Vy x IH;have hk:k < n:=(Nat.pow_lt_pow_iff_right (by decide)).mp (nC h2 hx);have e:((2:Int) ^ k)=((2 ^ k:Nat):Int):=(by simp);rw[gL]at hm;have hb:x.testBit k=true:=by
  have:=congrArg (λz=>Nat.testBit z k) h3;simp only[oZ,Nat.testBit_two_pow_self,uX]at this;exact this
 have e3:uG (x:Int) (2 ^ k)=((x - 2 ^ k:Nat):Int):=by
  rw[e,PyProof.Rows.bitXor_and,Ip,h3];lia
 refine⟨k,?_,hk,(hm k hk).mp hb,?_,?_⟩
 ·rw[PyProof.Rows.bitAnd_pn (by lia) (by lia)];have e1:(xG (-(x:Int))).toNat=x - 1:=(by unfold xG;lia);rw[e1,e,<-h1];have:=Nat.and_le_left (n:=x) (m:=x - 1);simp only[gL];lia
 ·rw[e3];refine⟨Ay (by lia),λj hj=>?_⟩;rw[gL,V1 x k h3 j,iB,hm j hj,decide_eq_true_iff]
 ·rw[e3];have:0 < 2 ^ k:=tZ k;lia
theorem N8 {n:Nat}{m:Int}(h:qz n m)(j:Nat):(nZ (m / 2 ^ ((j:Int)).toNat) 1 != 0)=m.toNat.testBit j:=by
 obtain⟨x,rfl,hx⟩:=jb h;rw[gL,gL];have e:((x:Int)) / 2 ^ j=((x / 2 ^ j:Nat):Int):=(by simp);rw[e,show(1:Int)=((1:Nat):Int)from rfl,Ip,Nat.and_one_is_mod,Nat.testBit_eq_decide_div_mod_eq];have:=Nat.mod_two_eq_zero_or_one (x / 2 ^ j);rcases this with z | z<;>rw[z]<;>simp
def RelP (n:Nat)(ns:List Int)(R:Nat->Nat->Prop):Prop:=ns.length=n/\∀i m,ns[i]?=some m->MaskP n m (R i)
theorem RelP.iff {n:Nat}{ns:List Int}{R S:Nat->Nat->Prop}(h:RelP n ns R)(e:∀i j,i < n->j < n->(R i j↔S i j)):RelP n ns S:=
 ⟨h.1,λi m hm=>(h.2 i m hm).iff λj hj=>e i j (by rw[<-h.1];exact(aM.mp hm).1) hj⟩
def PartP (n:Nat)(ns:List Int)(i:Nat)(R:Nat->Nat->Prop):Prop:=ns.length=i/\∀i m,ns[i]?=some m->MaskP n m (R i)
theorem PartP.nil {n:Nat}{R:Nat->Nat->Prop}:PartP n [] 0 R:=⟨rfl,λi m e=>by simp at e⟩
theorem PartP.snoc {n:Nat}{os:List Int}{i:Nat}{R:Nat->Nat->Prop}{y:Int}(h:PartP n os i R)(hy:MaskP n y (R i)):PartP n (os++[y]) (i+1) R:=by
 refine⟨by rw[aQ,h.1];rfl,λj m e=>?_⟩;by_cases hj:j < os.length
 ·rw[eK hj]at e;exact h.2 j m e
 ·rw[gF (by lia)]at e;have hl:=(aM.mp e).1;simp only[eE,oX]at hl;have e0:j - os.length=0:=(by lia);rw[e0]at e;have ej:j=i:=(by have:=h.1;lia);subst ej;cases e;exact hy
theorem RelP.at {n:Nat}{ns:List Int}{R:Nat->Nat->Prop}(h:RelP n ns R){k:Nat}(hk:k < n):∃m,ns[k]?=some m/\MaskP n m (R k):=by
 have DT:k < ns.length:=(by rw[h.1];exact hk);exact⟨ns[k],aK DT,h.2 k _ (aK DT)⟩
inductive Star (n:Nat)(R:Nat->Nat->Prop):Nat->Nat->Prop
 |refl {i:Nat}:Star n R i i
 |step {i k j:Nat}:R i k->k < n->Star n R k j->Star n R i j
theorem Star.trans {n:Nat}{R:Nat->Nat->Prop}{i j k:Nat}(a:Star n R i j)(b:Star n R j k):Star n R i k:=by
 induction a with
 |refl=>exact b
 |step r h _ ih=>exact .step r h (ih b)
inductive Thru (n:Nat)(R:Nat->Nat->Prop)(m:Nat):Nat->Nat->Prop
 |refl {i:Nat}:Thru n R m i i
 |one {i j:Nat}:R i j->Thru n R m i j
 |step {i k j:Nat}:k < n->k < m->Thru n R m i k->Thru n R m k j->Thru n R m i j
theorem Thru.zero {n:Nat}{R:Nat->Nat->Prop}{i j:Nat}:Thru n R 0 i j↔j=i\/R i j:=by
 constructor
 ·intro h;cases h with
  |refl=>exact .inl rfl
  |one r=>exact .inr r
  |step _ h _ _=>exact absurd h (pB _)
 ·rintro(rfl | h)
  ·exact .refl
  ·exact .one h
theorem Thru.mono {n:Nat}{R:Nat->Nat->Prop}{m m':Nat}(hm:m<=m'){i j:Nat}(h:Thru n R m i j):Thru n R m' i j:=by
 induction h with
 |refl=>exact .refl
 |one r=>exact .one r
 |step h1 h2 _ _ II IJ=>exact .step h1 (by lia) II IJ
theorem Thru.succ {n:Nat}{R:Nat->Nat->Prop}{m:Nat}(hm:m < n){i j:Nat}:Thru n R (m+1) i j↔Thru n R m i j\/(Thru n R m i m/\Thru n R m m j):=by
 constructor
 ·intro h
  induction h with
  |refl=>exact .inl .refl
  |one r=>exact .inl (.one r)
  |@step i k j h1 h2 _ _ II IJ=>
   by_cases hk:k=m
   ·subst hk;refine .inr ⟨?_,?_⟩
    ·rcases II with a | a
     ·exact a
     ·exact a.1
    ·rcases IJ with a | a
     ·exact a
     ·exact a.2
   ·have DT:k < m:=(by lia);rcases II with a | a<;>rcases IJ with b | b
    ·exact .inl (.step h1 DT a b)
    ·exact .inr ⟨.step h1 DT a b.1,b.2⟩
    ·exact .inr ⟨a.1,.step h1 DT a.2 b⟩
    ·exact .inr ⟨a.1,b.2⟩
 ·rintro(a | ⟨a,b⟩)
  ·exact a.mono (by lia)
  ·exact .step hm (by lia) (a.mono (by lia)) (b.mono (by lia))
theorem Thru.star {n:Nat}{R:Nat->Nat->Prop}{i j:Nat}(hj:j < n):Thru n R n i j↔Star n R i j:=by
 constructor
 ·intro h
  induction h with
  |refl=>exact .refl
  |one r=>exact .step r hj .refl
  |step h1 _ _ _ II IJ=>exact(II h1).trans (IJ hj)
 ·intro h
  induction h with
  |refl=>exact .refl
  |step r h _ ih=>exact .step h h (.one r) (ih hj)
def pick {α:Type}(m:Int)(xs:List α)(k:Nat):List α:=(dG k).filterMap λi=>if m.toNat.testBit i=true then xs[i]? else none
theorem yt {α:Type}{m:Int}{xs:List α}{k:Nat}{x:α}(h:m.toNat.testBit k=true)(e:xs[k]?=some x):pick m xs (k+1)=pick m xs k++[x]:=by
 unfold pick;rw[lW,sY];simp[h,e]
theorem B6 {α:Type}{m:Int}{xs:List α}{k:Nat}(h:m.toNat.testBit k=false):pick m xs (k+1)=pick m xs k:=by
 unfold pick;rw[lW,sY];simp[h]
theorem Q3 {α:Type}{m:Int}{xs:List α}{k:Nat}{x:α}:x∈pick m xs k↔∃i,i < k/\m.toNat.testBit i=true/\xs[i]?=some x:=by
 unfold pick;rw[List.mem_filterMap];constructor
 ·intro AC;obtain⟨i,hi,e⟩:=AC
  split at e
  ·exact⟨i,iW.mp hi,by assumption,e⟩
  ·cases e
 ·intro AC;obtain⟨i,hi,h,e⟩:=AC;exact⟨i,iW.mpr hi,by rw[if_pos h];exact e⟩
theorem Iq {α:Type}(m:Int)(xs:List α)(k:Nat):(pick m xs k).length<=k:=by
 unfold pick;have:=List.length_filterMap_le (λi=>if m.toNat.testBit i=true then xs[i]? else none) (dG k)
 rw[iS]at this;exact this
end Bits
namespace S63
open PySem L2 Bits
def B7 (n:Nat)(R:Nat->Nat->Prop)(H:Hp)(Q:VK):Prop:=∀(r:Addr)(ns:List Int) (H':Hp),Same H H'->H r=none->H' r=some (.lst (ns.map V.int))->RelP n ns R->Q (.ref r) H'
def K7:Sp:=λvs H Q _=>∃n:Nat,vs=[.int (n:Int)]/\n<=300/\B7 n (λ_ _=>False) H Q
def K8:Sp:=λvs H Q _=>∃n:Nat,vs=[.int (n:Int)]/\n<=300/\B7 n (λi j=>j=i) H Q
def N9 (T:Nat->(Nat->Nat->Prop)->(Nat->Nat->Prop)->Nat->Nat->Prop)(K:aB):Sp:=λvs H Q _=>∃(n:Nat)(a b:Addr) (ns ms:List Int) (R S:Nat->Nat->Prop),vs=[.ref a,.ref b]/\SqL K H a (ns.map V.int)/\RelP n ns R/\SqL K H b (ms.map V.int)/\RelP n ms S/\n<=300/\B7 n (T n R S) H Q
def orR:Nat->(Nat->Nat->Prop)->(Nat->Nat->Prop)->Nat->Nat->Prop:=λ_ R S i j=>R i j\/S i j
def ku:Nat->(Nat->Nat->Prop)->(Nat->Nat->Prop)->Nat->Nat->Prop:=λn R S i j=>∃k,k < n/\R i k/\S k j
def sv:Nat->(Nat->Nat->Prop)->Nat->Nat->Prop:=λn R i j=>j=i/\∀k,k < n->¬R i k
abbrev Az:=N9 orR
abbrev K9:=N9 ku
def Ir (K:aB):Sp:=λvs H Q _=>∃(n:Nat)(m:Int) (a:Addr) (ns:List Int) (p:Nat->Prop) (S:Nat->Nat->Prop),vs=[.int m,.ref a]/\MaskP n m p/\SqL K H a (ns.map V.int)/\RelP n ns S/\∀z:Int,MaskP n z (λj=>∃k,k < n/\p k/\S k j)->Q (.int z) H
def Dq (T:Nat->(Nat->Nat->Prop)->Nat->Nat->Prop)(K:aB):Sp:=λvs H Q _=>∃(n:Nat)(a:Addr) (ns:List Int) (R:Nat->Nat->Prop),vs=[.ref a]/\SqL K H a (ns.map V.int)/\RelP n ns R/\n<=300/\B7 n (T n R) H Q
def Iu (K:aB):Sp:=λvs H Q _=>∃(a:Addr)(n:Nat) (m:Int) (xs:List V),vs=[.ref a,.int m]/\qz n m/\SqL K H a xs/\xs.length<=300/\
 ∀(r:Addr)(H':Hp),Same H H'->H r=none->H' r=some (.lst (pick m xs xs.length))->Q (.ref r) H'
theorem Fk (n:Nat):(dJ n [V.int 0]).flatten=(dJ n (0:Int)).map V.int:=by
 induction n with
 |zero=>rfl
 |succ n ih=>rw[iZ,nS,ih,iZ];rfl
theorem iq {ns:List Int}{i:Nat}{x:V}(h:(ns.map V.int)[i]?=some x):∃m,ns[i]?=some m/\x=.int m:=by
 rw[cQ]at h;obtain⟨m,e,rfl⟩:=gY.mp h;exact⟨m,e,rfl⟩
def X8:gQ:={ kind:=.function,names:=[(".0",.local),("place",.local)],isGenerator:=false,isCoroutine:=false,more:=[] }
def X9:gQ:={ kind:=.function,names:=[(".0",.local),("mask",.local),("another",.local)],isGenerator:=false,isCoroutine:=false,more:=[] }
def Ya:gQ:={ kind:=.function,names:=[(".0",.local),("place",.local),("mask",.local)],isGenerator:=false,isCoroutine:=false,more:=[] }
section
variable {P:aU}{w:aZ}{K:aB}{mg:Str->Option aC}{base:Heap}
theorem scNh:aw zzj zzj (aj sNo):=fsN
theorem Z9 {f:Addr}{fd:bQ}(F:Fun K "nothing" "nothing" sNo f fd):‹1› f fd zzj K7:=by
 exists F,scNh
 ·obtain⟨n,rfl,_⟩:=h;rfl
 obtain⟨n,rfl,BP,q⟩:=h;refine⟨_,ak (az (ba Eb (bc (bq ah ag)) (pv 0))),?_⟩;refine⟨sz1,λl hl=>⟨_,rfl,l,_,_,rfl,rfl,af,by lia,by lia,?_,λp hp=>?_⟩⟩
 ·show 1 * ((n:Int)).toNat<=sizeLine;exact small (by lia)
 ·have s1:=Same.trans (ae hl (.lst [.int 0])) (ae hp (.lst (dJ ((n:Int)).toNat [V.int 0]).flatten));have e:((n:Int)).toNat=n:=(by lia);refine q p (dJ n 0) _ s1 (Same.free (ae hl (.lst [.int 0])) hp) ?_ ⟨iA,λi m hm=>?_⟩
  ·rw[af,e,Fk]
  ·rw[List.eq_of_mem_replicate (bV hm)];exact jk n
theorem csSm {X:Cx}:cp X ["place"] [] [] X8 []:=ip rfl (by decide +kernel) (by decide +kernel) (by decide +kernel)
theorem scSz:aw zzj zzj (aj Ku):=fsN
theorem V2 {f:Addr}{fd:bQ}(F:Fun K "the_same" "the_same" Ku f fd)(mr:mg "range"=none):‹1› f fd zzj K8:=by
 exists F,scSz
 ·obtain⟨n,rfl,_⟩:=h;rfl
 obtain⟨n,rfl,BP,q⟩:=h;refine⟨_,ak (az (dz (ns:=["place"]) (ys:=[]) (sc:=X8) csSm rfl (i6 rfl mr (aa (pv 0) ag)) (λC s H fp=>bo (i:=0) (by show(["place"]:List Str).Nodup;decide +kernel) rfl (cD rfl)) (λC s H fp=>cz) (λC s H fp=>ba Ab ah (pv 0)))),?_⟩;refine⟨_,rfl,(n:Int),rfl,by lia,by lia,λD hD=>?_⟩;have e:((n:Int)).toNat=n:=(by lia);refine Ak (n:=((n:Int)).toNat) (λj ys G=>Same H G/\G D=some (.lst ys)/\ys=((dG j).map λi:Nat=>(2:Int) ^ i).map V.int) ⟨ae hD _,af,rfl⟩ (λj ys G z=>z.2.1) ?_ ?_
 ·intro j ys G hj AC;obtain⟨sG,gD,rfl⟩:=AC;refine⟨bj (by rw[aJ,aJ,iS];lia),⟨[some _],rfl,rfl⟩,?_⟩;refine⟨_,rfl,_,_,rfl,rfl,⟨by lia,by lia,by decide⟩,gD,Same.put sG hD _,af,?_⟩;rw[lW,cU,cU];have z:(1:Int) * 2 ^ (0+(j:Int)).toNat=2 ^ j:=by
   rw[xA,show(0+(j:Int)).toNat=j by lia]
  show _++[V.int ((1:Int) * 2 ^ (0+(j:Int)).toNat)]=_;rw[z];rfl
 ·intro ys G AC;obtain⟨sG,gD,rfl⟩:=AC;rw[e]at gD;refine q D _ G sG hD gD ⟨by rw[aJ,iS],λi m hm=>?_⟩;rw[cQ]at hm;obtain⟨i',hi,rfl⟩:=gY.mp hm;obtain⟨h1,h2⟩:=aM.mp hi;rw[List.getElem_range]at h2;subst h2;rw[iS]at h1;exact qh h1
theorem csEi {X:Cx}:cp X ["mask","another"] [] [] X9 []:=ip rfl (by decide +kernel) (by decide +kernel) (by decide +kernel)
theorem scEh:aw zzm zzm (aj Kv):=fsN
theorem V3 {f:Addr}{fd:bQ}(F:Fun K "either_of" "either_of" Kv f fd)(mz:mg "zip"=none):‹1› f fd zzm (Az K):=by
 exists F,scEh
 ·obtain⟨n,a,b,ns,ms,R,S,rfl,_⟩:=h;rfl
 obtain⟨n,a,b,ns,ms,R,S,rfl,ha,rn,hb,rm,BP,q⟩:=h;refine⟨_,ak (az (dz (ns:=["mask","another"]) (ys:=[]) (sc:=X9) csEi rfl (B5 rfl mz (aa (pv 0) (aa (pv 1) ag))) (λC s H fp=>pg2 rfl) (λC s H fp=>cz) (λC s H fp=>ba J1 (pv 0) (pv 1)))),?_⟩;dsimp only[bh,Cx.nox];refine⟨_,rfl,_,rfl,a,b,_,_,rfl,ha,hb,λD hD=>?_⟩;have l1:=rn.1;have l2:=rm.1;refine vz (K:=K) (a:=a) (b:=b) (xs:=ns.map V.int) (ws:=ms.map V.int) (by rw[aJ,aJ,l1,l2]) (λi ys G=>Same H G/\G D=some (.lst ys)/\∃os:List Int,ys=os.map V.int/\PartP n os i (orR n R S))
  ⟨ae hD _,af,[],rfl,.nil⟩ (λi ys G z=>z.2.1) (λi ys G _ z=>⟨z.1.seq ha,z.1.seq hb⟩) ?_ ?_ ?_
 ·intro i ys G hi AC;obtain⟨sG,gD,os,rfl,op⟩:=AC;rw[aJ]at hi;have ol:=op.1;exact bj (by rw[aJ];lia)
 ·intro i x y t ys G hx hy AC ht;obtain⟨sG,gD,os,rfl,op⟩:=AC;obtain⟨u,eu,rfl⟩:=iq hx;obtain⟨v,ev,rfl⟩:=iq hy;have mu:=rn.2 i u eu;have mv:=rm.2 i v ev;have Dt:D≠t:=aq gD ht;refine⟨t,_,rfl,SqT.of af,rfl,_,_,rfl,_,_,rfl,rfl,⟨[some _,some _],rfl,rfl⟩,?_⟩;refine⟨_,rfl,_,rfl,_,_,rfl,rfl,(by rw[ao Dt];exact gD),Same.put (Same.put sG (Same.free sG ht) _) hD _,af,os++[nO u v],(by rw[cU];rfl),op.snoc (uu mu mv)⟩
 ·intro ys G AC;obtain⟨sG,gD,os,rfl,op⟩:=AC;rw[aJ,l1]at op;exact q D os G sG hD gD op
theorem Fl:aw ["mask","relation","reached","lowest"] zzc (aj Es):=fsN
theorem Q4 {f:Addr}{fd:bQ}(F:Fun K "reached_from" "reached_from" Es f fd):‹1› f fd zzc (Ir K):=by
 exists F,Fl
 ·obtain⟨n,m,a,ns,p,S,rfl,_⟩:=h;rfl
 obtain⟨n,m0,a,ns,p0,S,rfl,mm0,ha,rn,q⟩:=h;refine⟨_,ai (bf (i:=2) Fl.nd rfl (cD rfl) ah) (ai (tq fX (tu (pv 0) (λ_=>rfl)) (ai (bf (i:=3) Fl.nd rfl (cD rfl) (ba D4 (pv 0) (m9 jt (pv 0)))) (ai (Mc (i:=2) Fl.nd rfl (cD rfl) (av ax (pv 1) (ba D3 (Ai PySem.F.plainAttrs_int PySem.F.slot_int_bit_length PySem.F.type_int_bit_length Vr (pv 3)) ah) (λ_ _=>rfl)) Xh) (ak (Mc (i:=0) Fl.nd rfl (cD rfl) (pv 3) Uo))))) (ak (az (pv 2)))),?_⟩;dsimp only[bh,Cx.nox];refine⟨λk σ G=>∃(m z:Int)(v:Option V) (p r:Nat->Prop),σ=[some (.int m),some (.ref a),some (.int z),v]/\G=H/\MaskP n m p/\MaskP n z r/\(∀j,j < n->((∃k,k < n/\p0 k/\S k j)↔r j\/∃k,k < n/\p k/\S k j))/\k=m.toNat,⟨_,m0,0,none,p0,λ_=>False,rfl,rfl,mm0,jk n,λj hj=>⟨.inr,λz=>z.elim (λf=>f.elim) id⟩,rfl⟩,?_⟩;intro k σ G AC;obtain⟨m,z,v,p,r,rfl,rfl,mm,mz,OV,rfl⟩:=AC;refine⟨_,rfl,(m != 0),rfl,?_⟩;refine fb (λc=>?_) (λc=>?_)
 ·have m0:m≠0:=(by simpa using c);obtain⟨k,e1,k1,kp,k2,k3⟩:=N7 mm m0;refine⟨λσ' G'=>∃(m' z:Int)(v:Option V) (p r:Nat->Prop),σ'=[some (.int m'),some (.ref a),some (.int z),v]/\G'=G/\MaskP n m' p/\MaskP n z r/\(∀j,j < n->((∃k,k < n/\p0 k/\S k j)↔r j\/∃k,k < n/\p k/\S k j))/\m'.toNat < m.toNat,λσ' G' y=>?_,?_⟩
  ·obtain⟨m',z',v',p',r',y1,y2,y3,y4,y5,y6⟩:=y;exact⟨_,y6,m',z',v',p',r',y1,y2,y3,y4,y5,rfl⟩
  ·obtain⟨rr,er,mr⟩:=rn.at k1;have vr:(ns.map V.int)[k]?=some (.int rr):=(by rw[cQ,er];rfl);refine⟨_,rfl,_,rfl,_,rfl,_,_,rfl,rfl,?_⟩;show ox 3 (V.int (nZ m (-m))) _ _ _;rw[e1];have ek:(((qJ ((2:Int) ^ k):Nat):Int)) - 1=(k:Int):=(by rw[Qz];lia);refine⟨_,rfl,_,rfl,_,rfl,rfl,_,rfl,rfl,_,_,rfl,rfl,a,_,_,_,rfl,rfl,ha,(by rw[ek];exact bp vr),_,_,rfl,rfl,?_⟩;refine⟨_,rfl,_,rfl,_,_,rfl,rfl,_,_,_,_,_,rfl,rfl,k2,uu mz mr,λj hj=>?_,?_⟩
   ·rw[OV j hj];constructor
    ·rintro(h | ⟨i,hi,h1,h2⟩)
     ·exact .inl (.inl h)
     ·by_cases e:i=k
      ·subst e;exact .inl (.inr h2)
      ·exact .inr ⟨i,hi,⟨h1,e⟩,h2⟩
    ·rintro((h | h) | ⟨i,hi,h1,h2⟩)
     ·exact .inl h
     ·exact .inr ⟨k,k1,kp,h⟩
     ·exact .inr ⟨i,hi,h1.1,h2⟩
   ·have:=k2.1.1;have:=mm.1.1;lia
 ·have m0:m=0:=(by simpa using c);refine⟨_,rfl,q z (mz.iff λj hj=>?_)⟩;rw[OV j hj];constructor
  ·exact .inl
  ·rintro(h | ⟨i,hi,h1,_⟩)
   ·exact h
   ·exact absurd h1 (mm.zero_iff.mp m0 i hi)
end
def Yb:gQ:={ kind:=.function,names:=[(".0",.local),("mask",.local),("known",.free)],isGenerator:=false,isCoroutine:=false,more:=[] }
def Yc:gQ:={ kind:=.function,names:=[(".0",.local),("row",.local),("middle",.free),("through",.free)],isGenerator:=false,isCoroutine:=false,more:=[] }
def Yd:gQ:={ kind:=.function,names:=[(".0",.local),("place",.local),("letter",.local),("mask",.free)],isGenerator:=false,isCoroutine:=false,more:=[] }
abbrev nOn:List Str:=["first","second","known","mask"]
abbrev nAg:List Str:=["relation","rows","middle","through"]
abbrev nLi:List Str:=zyt
section
variable {P:aU}{w:aZ}{K:aB}{mg:Str->Option aC}{base:Heap}
theorem Q5:aw nOn zzt (aj Kw):=fsN
theorem cOn {CX:CXT}{f:Addr}{AF:aC}{A:cC}{outer:List Env}{s:aG}{H:Hp}{E:XK} :
  cp (bh CX P w K mg base nOn "one_then_other" (aj Kw) f AF A outer s H E).nox ["mask"] ["known"] [2] Yb [("known",s.heap.objs.size+1)]:=csN [(".0",.local),("mask",.local),("known",.cell)]
theorem Ye {f fR:Addr}{fd dR:bQ}(F:Fun K "one_then_other" "one_then_other" Kw f fd)
  (GR:‹1› fR dR zzc (Ir K)) (bR:Binds K dR zzc []) (kR:aR K (.ref fR)=true) (mR:mg "reached_from"=some (.ref fR)) :
  ‹2› f fd zzt (K9 K):=by
 exists F,Q5
 ·obtain⟨n,a,b,ns,ms,R,S,rfl,_⟩:=h;rfl
 obtain⟨n,a,b,ns,ms,R,S,rfl,ha,rn,hb,rm,BP,q⟩:=h;refine⟨_,ai (bf (i:=2) Q5.nd rfl (oV rfl) Q1) (ai (fh fX rfl (c7 (pv 0)) (bo (i:=3) Q5.nd rfl (cD rfl)) (ak (de (L8 (N4 (Kf hr) (pv 3) (pv 2)) (by with_unfolding_all rfl)) (ak (Vw (Kf hr) (pv 2) (pv 3) (ar GR hr rfl mR kR bR .nil bb (aa (pv 3) (aa (pv 1) ag))) rfl)) cf))) (ak (az (dz (ns:=["mask"]) (ys:=["known"]) (sc:=Yb) cOn rfl (c7 (pv 0)) (λC s H fp=>bo (i:=0) (by show(["mask","known"]:List Str).Nodup;decide +kernel) rfl (cD rfl)) (λC s H fp=>cz) (λC s H fp=>Vv (Kf hr) (pv 1) (pv 0) (λ_ _=>rfl)))))),?_⟩
 dsimp only[bh,Cx.nox];intro d hd;have l1:=rn.1;have s0:Same H (upd H d (.dK [])):=ae hd _;refine⟨_,rfl,a,rfl,⟨_,s0.seq ha⟩,i7 (K:=K) (a:=a) (xs:=ns.map V.int) (λi σ G=>∃(kvs:List (Key×V))(v:Option V),σ=[some (.ref a),some (.ref b),some (.ref d),v]/\Same H G/\G d=some (.dK kvs)/\kvs.length<=i/\(∀(m:Int) z,gi kvs (lD m)=some z->∃y,z=.int y/\MaskP n y (λj=>∃k,k < n/\m.toNat.testBit k=true/\S k j))/\∀j,j < i->∀m,ns[j]?=some m->∃z,gi kvs (lD m)=some z) ⟨[],none,rfl,s0,af,aN _,(λk z e=>nomatch e),λj hj=>absurd hj (pB _)⟩ (λi σ G _ AD=>by obtain⟨_,_,_,sG,_⟩:=AD;exact sG.seq ha) ?_ ?_⟩
 ·intro i x σ G hx AC;obtain⟨kvs,v,rfl,sG,gd,kl,kv,kj⟩:=AC;obtain⟨m,em,rfl⟩:=iq hx;have mm:=rn.2 i m em;have hi:i < ns.length:=(aM.mp em).1;refine⟨_,rfl,_,rfl,d,_,rfl,DGet.k (k:=lD m) gd,_,rfl,?_⟩;have old:∀z,gi kvs (lD m)=some z->∀j,j < i+1->∀m',ns[j]?=some m'->∃z,gi kvs (lD m')=some z:=λz ez j hj m' JX=>by
   by_cases RF:j < i
   ·exact kj j RF m' JX
   ·have:j=i:=(by lia);subst this;rw[em]at JX;cases JX;exact⟨z,ez⟩
  cases ev:gi kvs (lD m)with
  |some z=>exact dh ⟨kvs,_,rfl,sG,gd,by lia,kv,old z ev⟩
  |none=>
   refine iz ⟨_,rfl,_,rfl,n,m,b,ms,_,S,rfl,⟨mm.1,λj _=>Iff.rfl⟩,sG.seq hb,rm,λz mz=>?_⟩;refine⟨_,rfl,_,rfl,d,_,rfl,DPut.k (k:=lD m) gd (bj (by lia)),?_⟩;refine⟨_,_,rfl,Same.put sG hd _,af,?_,λk y e=>?_,λj hj m' JX=>?_⟩
   ·have:=qw kvs (lD m) (.int z);lia
   ·rw[Fi]at e
    split at e
    ·rename_i ek
     cases ek;cases e;exact⟨z,rfl,mz⟩
    ·exact kv k y e
   ·rw[Fi]
    split
    ·exact⟨_,rfl⟩
    ·rename_i AO
     by_cases RF:j < i
     ·exact kj j RF m' JX
     ·have:j=i:=(by lia);subst this;rw[em]at JX;cases JX;exact absurd rfl AO
 ·intro σ G AC;obtain⟨kvs,v,rfl,sG,gd,kl,kv,kj⟩:=AC;rw[aJ]at kl kj;refine⟨_,rfl,a,rfl,⟨_,sG.seq ha⟩,λD hD=>?_⟩;refine dy (K:=K) (a:=a) (xs:=ns.map V.int) (λi ys G2=>Same G G2/\G2 D=some (.lst ys)/\∃os:List Int,ys=os.map V.int/\PartP n os i (ku n R S)) ⟨ae hD _,af,[],rfl,.nil⟩ (λi ys G2 z=>z.2.1) (λi ys G2 _ z=>(Same.trans sG z.1).seq ha) ?_ ?_
  ·intro i x ys G2 hx AC;obtain⟨s2,gD,os,rfl,op⟩:=AC;obtain⟨m,em,rfl⟩:=iq hx;have hi:i < ns.length:=(aM.mp em).1;have ol:=op.1;obtain⟨z,ez⟩:=kj i hi m em;obtain⟨m',rfl,mm'⟩:=kv _ _ ez;have dg:=DGet.k (k:=lD m) (s2 _ _ gd);rw[ez]at dg;refine⟨bj (by rw[aJ];lia),⟨[some _],rfl,rfl⟩,?_⟩;refine⟨_,rfl,_,rfl,d,_,rfl,dg,gD,Same.put s2 hD _,af,os++[m'],(by rw[cU];rfl),op.snoc (mm'.iff λj hj=>?_)⟩;have pm:=rn.2 i m em;constructor
   ·intro AC;obtain⟨k,hk,h1,h2⟩:=AC;exact⟨k,hk,(pm.2 k hk).mp h1,h2⟩
   ·intro AC;obtain⟨k,hk,h1,h2⟩:=AC;exact⟨k,hk,(pm.2 k hk).mpr h1,h2⟩
  ·intro ys G2 AC;obtain⟨s2,gD,os,rfl,op⟩:=AC;rw[aJ,l1]at op;exact q D os G2 (Same.trans sG s2) (Same.free sG hD) gD op
theorem Fm:aw nAg zzb (aj An):=fsN
theorem cAg {CX:CXT}{f:Addr}{AF:aC}{A:cC}{outer:List Env}{s:aG}{H:Hp}{E:XK} :
  cp (bh CX P w K mg base nAg "again_and_again" (aj An) f AF A outer s H E).nox zyl ["middle","through"] [2,3] Yc [("through",s.heap.objs.size+1+1),("middle",s.heap.objs.size+1)]:=csN [(".0",.local),("row",.local),("middle",.cell),("through",.cell)]
theorem Q6 {f fE fS:Addr}{fd dE dS:bQ}(F:Fun K "again_and_again" "again_and_again" An f fd)
  (GE:‹1› fE dE zzm (Az K)) (bE:Binds K dE zzm []) (kE:aR K (.ref fE)=true) (mE:mg "either_of"=some (.ref fE))
  (GS:‹1› fS dS zzj K8) (bS:Binds K dS zzj []) (kS:aR K (.ref fS)=true) (mS:mg "the_same"=some (.ref fS))
  (ml:mg "len"=none) (mr:mg "range"=none):‹2› f fd zzb (Dq Star K):=by
 exists F,Fm
 ·obtain⟨n,a,ns,R,rfl,_⟩:=h;rfl
 obtain⟨n,a,ns,R,rfl,ha,rn,BP,q⟩:=h;refine⟨_,ai (bf (i:=1) Fm.nd rfl (cD rfl) (ar GE hr rfl mE kE bE .nil bb (aa (ar GS hr rfl mS kS bS .nil bb (aa (bz cg rfl ml gT (aa (pv 0) ag)) ag)) (aa (pv 0) ag)))) (ai (fh fX rfl (i6 rfl mr (aa (bz cg rfl ml gT (aa (pv 1) ag)) ag)) (bo (i:=2) Fm.nd rfl (oV rfl)) (ai (bf (i:=3) Fm.nd rfl (oV rfl) (av ax (pv 1) (pv 2) (λ_ _=>rfl))) (ak (j5 (i0:=1) (ns:=zyl) (ys:=["middle","through"]) (sc:=Yc) Fm.nd rfl rfl cAg rfl (c7 (pv 1)) (λC s H fp=>bo (i:=0) (by show(["row","middle","through"]:List Str).Nodup;decide +kernel) rfl (cD rfl)) (λC s H fp=>cz) (λC s H fp=>pf (Fg (K:=K) rfl (ba D4 (ba Mh (pv 0) (pv 1)) ah) (λ_=>rfl)) (ba J1 (pv 0) (pv 2)) (pv 0)))))) (ak (az (pv 1)))),?_⟩;dsimp only[bh,Cx.nox];have l1:=rn.1;refine⟨_,rfl,a,_,rfl,.inl ha,n,(by rw[aJ,l1];rfl),BP,λr1 n1 G1 s1 h1 g1 HF=>?_⟩;refine⟨_,rfl,n,r1,a,n1,ns,_,R,rfl,SqL.of g1,HF,s1.seq ha,rn,BP,λr2 n2 G2 s2 h2 g2 KY=>?_⟩;have DG:=Same.trans s1 s2;have l2:=KY.1;refine⟨_,rfl,r2,_,rfl,.inl (SqL.of g2),_,rfl,by lia,(by rw[aJ];lia),ny (n:=((((n2.map V.int).length:Nat):Int)).toNat) (λi σ G=>∃(r:Addr)(os:List Int) (v2 v3:Option V),σ=[some (.ref a),some (.ref r),v2,v3]/\Same H G/\H r=none/\G r=some (.lst (os.map V.int))/\RelP n os (Thru n R i)) ⟨r2,n2,none,none,rfl,DG,Same.free s1 h2,g2,KY.iff λi j _ _=>Thru.zero.symm⟩ ?_ ?_⟩
 ·intro i σ G hi AC;obtain⟨r,os,v2,v3,rfl,sG,CF,gr,ro⟩:=AC;have e0:((((n2.map V.int).length:Nat):Int)).toNat=n:=(by rw[aJ];lia);rw[e0]at hi;obtain⟨t,et,mt⟩:=ro.at hi;have vt:(os.map V.int)[i]?=some (.int t):=(by rw[cQ,et];rfl);refine⟨_,rfl,_,rfl,r,_,_,_,rfl,rfl,SqL.of gr,(by rw[rB];exact bp vt),?_⟩;refine⟨_,rfl,r,rfl,⟨_,SqL.of gr⟩,λD hD=>?_⟩;have lo:=ro.1;refine dy (K:=K) (a:=r) (xs:=os.map V.int) (λj ys G2=>Same G G2/\G2 D=some (.lst ys)/\∃us:List Int,ys=us.map V.int/\PartP n us j (Thru n R (i+1))) ⟨ae hD _,af,[],rfl,.nil⟩ (λi ys G2 z=>z.2.1) (λi ys G2 _ z=>SqL.of (z.1 _ _ gr)) ?_ ?_
  ·intro j x ys G2 hx AC;obtain⟨s2,gD,us,rfl,up⟩:=AC;obtain⟨m,em,rfl⟩:=iq hx;have mm:=ro.2 j m em;have hj:j < os.length:=(aM.mp em).1;have ul:=up.1;refine⟨bj (by rw[aJ];lia),⟨[some _],rfl,rfl⟩,?_⟩;refine⟨_,rfl,_,rfl,_,_,rfl,rfl,(by show(0:Int)<=0+(i:Int);lia),_,_,rfl,rfl,_,rfl,?_⟩;have bt:(nZ (m / 2 ^ (0+(i:Int)).toNat) 1 != 0)=m.toNat.testBit i:=(by rw[rB];exact N8 mm.1 i);have AK:∀y:Int,MaskP n y (Thru n R (i+1) j)->G2 D=some (.lst (us.map V.int))/\Same G (upd G2 D (.lst (us.map V.int++[.int y])))/\upd G2 D (.lst (us.map V.int++[.int y])) D=some (.lst (us.map V.int++[.int y]))/\∃ws:List Int,us.map V.int++[.int y]=ws.map V.int/\PartP n ws (j+1) (Thru n R (i+1)):=λy my=>
    ⟨gD,Same.put s2 hD _,af,us++[y],(by rw[cU];rfl),up.snoc my⟩
   refine fb (λc=>?_) (λc=>?_)
   ·have c':m.toNat.testBit i=true:=bt ▸ c;have ci:=(mm.2 i hi).mp c';refine⟨_,rfl,_,rfl,_,_,rfl,rfl,AK _ ((uu mm mt).iff λl hl=>?_)⟩;rw[Thru.succ hi];constructor
    ·rintro(h | h)
     ·exact .inl h
     ·exact .inr ⟨ci,h⟩
    ·rintro(h | h)
     ·exact .inl h
     ·exact .inr h.2
   ·have c':m.toNat.testBit i=false:=by
     rw[<-bt];exact vH.mpr c
    refine⟨_,rfl,AK _ (mm.iff λl hl=>?_)⟩;rw[Thru.succ hi];constructor
    ·exact .inl
    ·rintro(h | h)
     ·exact h
     ·have:=(mm.2 i hi).mpr h.1;rw[c']at this;cases this
  ·intro ys G2 AC;obtain⟨s2,gD,us,rfl,up⟩:=AC;rw[aJ,lo]at up;exact⟨D,us,_,_,rfl,Same.trans sG s2,Same.free sG hD,gD,up⟩
 ·intro σ G AC;obtain⟨r,os,v2,v3,rfl,sG,CF,gr,ro⟩:=AC;have e0:((((n2.map V.int).length:Nat):Int)).toNat=n:=(by rw[aJ];lia);rw[e0]at ro;exact⟨_,rfl,q r os G sG CF gr (ro.iff λi j _ hj=>Thru.star hj)⟩
theorem csWh {X:Cx}:cp X ["place","mask"] [] [] Ya []:=ip rfl (by decide +kernel) (by decide +kernel) (by decide +kernel)
theorem scWn:aw zzb zzb (aj Et):=fsN
theorem Q7 {f:Addr}{fd:bQ}(F:Fun K "where_nothing" "where_nothing" Et f fd)(me:mg "enumerate"=none):‹1› f fd zzb (Dq sv K):=by
 exists F,scWn
 ·obtain⟨n,a,ns,R,rfl,_⟩:=h;rfl
 obtain⟨n,a,ns,R,rfl,ha,rn,BP,q⟩:=h;refine⟨_,ak (az (dz (ns:=["place","mask"]) (ys:=[]) (sc:=Ya) csWh rfl (yr rfl me (aa (pv 0) ag)) (λC s H fp=>pg2 rfl) (λC s H fp=>cz) (λC s H fp=>pf (Fg (K:=K) rfl (pv 1) (λ_=>rfl)) ah (ba Ab ah (pv 0))))),?_⟩;dsimp only[bh,Cx.nox];have l1:=rn.1;refine⟨_,rfl,a,_,rfl,ha,λD hD=>?_⟩;refine uo (K:=K) (a:=a) (xs:=ns.map V.int) (λi ys G=>Same H G/\G D=some (.lst ys)/\∃us:List Int,ys=us.map V.int/\PartP n us i (sv n R)) ⟨ae hD _,af,[],rfl,.nil⟩ (λi ys G z=>z.2.1) (λi ys G _ z=>z.1.seq ha) ?_ ?_ ?_
 ·intro i ys G hi AC;obtain⟨sG,gD,us,rfl,up⟩:=AC;rw[aJ]at hi;have ul:=up.1;exact bj (by rw[aJ];lia)
 ·intro i x t ys G hx AC ht;obtain⟨sG,gD,us,rfl,up⟩:=AC;obtain⟨m,em,rfl⟩:=iq hx;have hi:i < ns.length:=(aM.mp em).1;have mm:=rn.2 i m em;have Dt:D≠t:=aq gD ht;refine⟨t,_,rfl,SqT.of af,rfl,_,_,rfl,_,_,rfl,rfl,⟨[some _,some _],rfl,rfl⟩,?_⟩;refine⟨_,rfl,_,rfl,?_⟩;generalize EY:upd G t (.tup [.int (i:Int),.int m])=G2;have KZ:Same H G2:=(by rw[<-EY];exact Same.put sG (Same.free sG ht) _);have CO:G2 D=some (.lst (us.map V.int)):=(by rw[<-EY,ao Dt];exact gD);have AK:∀y:Int,MaskP n y (sv n R i)->G2 D=some (.lst (us.map V.int))/\Same H (upd G2 D (.lst (us.map V.int++[.int y])))/\upd G2 D (.lst (us.map V.int++[.int y])) D=some (.lst (us.map V.int++[.int y]))/\∃ws:List Int,us.map V.int++[.int y]=ws.map V.int/\PartP n ws (i+1) (sv n R):=λy my=>
   ⟨CO,Same.put KZ hD _,af,us++[y],(by rw[cU];rfl),up.snoc my⟩
  refine fb (λc=>?_) (λc=>?_)
  ·have m0:¬m=0:=(by simpa using c);refine AK _ ((jk n).iff λj hj=>⟨λf=>f.elim,λh=>m0 (mm.zero_iff.mpr h.2)⟩)
  ·have m0:m=0:=(by simpa using c);refine⟨_,rfl,_,_,rfl,rfl,⟨by lia,by lia,by decide⟩,?_⟩;have z:(1:Int) * 2 ^ ((i:Int)).toNat=2 ^ i:=(by rw[xA,gL]);have f1:=AK _ ((qh (n:=n) (k:=i) (by lia)).iff λj hj=>⟨λe=>⟨e,mm.zero_iff.mp m0⟩,λe=>e.1⟩);rw[<-z]at f1;exact f1
 ·intro ys G AC;obtain⟨sG,gD,us,rfl,up⟩:=AC;rw[aJ,l1]at up;exact q D us G sG hD gD up
theorem scLi:aw nLi zyt (aj Ao):=fsN
theorem cLi {CX:CXT}{f:Addr}{AF:aC}{A:cC}{outer:List Env}{s:aG}{H:Hp}{E:XK} :
  cp (bh CX P w K mg base nLi "letters_in" (aj Ao) f AF A outer s H E).nox ["place","letter"] ["mask"] [1] Yd [("mask",s.heap.objs.size+1)]:=csN [(".0",.local),("place",.local),("letter",.local),("mask",.cell)]
theorem Q8 {f:Addr}{fd:bQ}(F:Fun K "letters_in" "letters_in" Ao f fd)(me:mg "enumerate"=none):‹1› f fd zyt (Iu K):=by
 exists F,scLi
 ·obtain⟨a,n,m,xs,rfl,_⟩:=h;rfl
 obtain⟨a,n,m,xs,rfl,mm,ha,BP,q⟩:=h;refine⟨_,ak (az (dz (ns:=["place","letter"]) (ys:=["mask"]) (sc:=Yd) cLi rfl (yr rfl me (aa (pv 0) ag)) (λC s H fp=>pg2 rfl) (λC s H fp=>Ic (Fg (K:=K) rfl (ba D4 (ba Mh (pv 2) (pv 0)) ah) (λ_=>rfl))) (λC s H fp=>pv 1))),?_⟩;dsimp only[bh,Cx.nox];refine⟨_,rfl,a,_,rfl,ha,λD hD=>?_⟩;refine uo (K:=K) (a:=a) (xs:=xs) (λi ys G=>Same H G/\G D=some (.lst ys)/\ys=pick m xs i) ⟨ae hD _,af,rfl⟩ (λi ys G z=>z.2.1) (λi ys G _ z=>z.1.seq ha) ?_ ?_ ?_
 ·intro i ys G hi AC;obtain⟨sG,gD,rfl⟩:=AC;have:=Iq m xs i;exact bj (by lia)
 ·intro i x t ys G hx AC ht;obtain⟨sG,gD,rfl⟩:=AC;have Dt:D≠t:=aq gD ht;refine⟨t,_,rfl,SqT.of af,rfl,_,_,rfl,_,_,rfl,rfl,⟨[some _,some _],rfl,rfl⟩,?_⟩;refine⟨_,rfl,_,rfl,_,_,rfl,rfl,(by show(0:Int)<=(i:Int);lia),_,_,rfl,rfl,_,rfl,?_⟩;have KZ:Same H (upd G t (.tup [.int (i:Int),x])):=Same.put sG (Same.free sG ht) _;have CO:upd G t (.tup [.int (i:Int),x]) D=some (.lst (pick m xs i)):=(by rw[ao Dt];exact gD);have bt:=N8 mm i;refine fb (λc=>?_) (λc=>?_)
  ·have c':m.toNat.testBit i=true:=bt ▸ c;exact⟨_,rfl,CO,Same.put KZ hD _,af,(yt c' hx).symm⟩
  ·have c':m.toNat.testBit i=false:=by
    rw[<-bt];exact vH.mpr c
   exact⟨KZ,CO,(B6 c').symm⟩
 ·intro ys G AC;obtain⟨sG,gD,rfl⟩:=AC;exact q D G sG hD gD
end
open S1
def jq (l:List Int):Da:=.tup (l.map λv=>.flat (.int v))
theorem jz (l:List Int):(jq l).fix=true:=by
 unfold jq;rw[Da.fix];exact d8 (λ_=>by rw[Da.fix]) l
def LetAt (K:aB)(H:Hp)(r:Addr)(ls:List (List Int)):Prop:=∃xs,H r=some (.lst xs)/\Holds K H xs (ls.map jq)
def Fn (K:aB):Sp:=λvs H Q _=>∃(r:Addr)(c:Nat) (ls:List (List Int)),vs=[.ref r,.int (c:Int)]/\LetAt K H r ls/\c<=6/\ls.length<=100/\(∀l∈ls,l.length<=10)/\
 ∀(r':Addr)(H':Hp),Same H H'->H r'=none->LetAt K H' r' (longer ls c)->Q (.ref r') H'
def v7 (K:aB):Sp:=λvs H Q _=>∃(a:Addr)(ws:List (Str×Nat)),vs=[.ref a]/\Hold K H (.ref a) (fw ws)/\fo ws/\
 ∀(r':Addr)(H':Hp),Same H H'->H r'=none->LetAt K H' r' (fk (ws.map (·.2)))->Q (.ref r') H'
def Oa:gQ:={ kind:=.function,names:=[(".0",.local),("value",.local),("letter",.free)],isGenerator:=false,isCoroutine:=false,more:=[] }
section
variable {P:aU}{w:aZ}{K:aB}{mg:Str->Option aC}{base:Heap}
theorem Q9:aw zym zyu (aj xp):=fsN
theorem cLo {CX:CXT}{f:Addr}{AF:aC}{A:cC}{outer:List Env}{s:aG}{H:Hp}{E:XK} :
  cp (bh CX P w K mg base zym "each_longer" (aj xp) f AF A outer s H E).nox ["value"] zz1 [3] Oa [("letter",s.heap.objs.size+1)]:=csN [(".0",.local),("value",.local),("letter",.cell)]
theorem Ob {f:Addr}{fd:bQ}(F:Fun K "each_longer" "each_longer" xp f fd)(mr:mg "range"=none):‹1› f fd zyu (Fn K):=by
 exists F,Q9
 ·obtain⟨r,c,ls,rfl,_⟩:=h;rfl
 obtain⟨r,c,ls,rfl,⟨vs,BE,CL⟩,c6,JY,MA,q⟩:=h;refine⟨_,ai (bf (i:=2) Q9.nd rfl (cD rfl) (bc ag)) (ai (fh fX rfl (c7 (pv 0)) (bo (i:=3) Q9.nd rfl (oV rfl)) (ak (df (ki fG PySem.F.slot_list_extend PySem.F.type_list_extend Mt (pv 2) (aa (dz (ns:=["value"]) (ys:=zz1) (sc:=Oa) cLo rfl (i6 rfl mr (aa (pv 1) ag)) (λC s H fp=>bo (i:=0) (by show(["value","letter"]:List Str).Nodup;decide +kernel) rfl (cD rfl)) (λC s H fp=>cz) (λC s H fp=>ba (r:=λx y H Q=>jf K x y H Q\/g0 K x y H Q) pw (pv 1) (cb (aa (pv 0) ag)))) ag))))) (ak (az (pv 2)))),?_⟩;dsimp only[bh,Cx.nox];refine⟨sz0,λu hu=>?_⟩;have ll:vs.length=ls.length:=(by rw[CL.length,aJ]);refine⟨_,rfl,r,rfl,⟨_,SqL.of (ae hu _ _ _ BE)⟩,i7 (K:=K) (a:=r) (xs:=vs) (λi σ G=>∃(xs:List V)(v:Option V),σ=[some (.ref r),some (.int (c:Int)),some (.ref u),v]/\Same H G/\G u=some (.lst xs)/\Holds K G xs ((longer (ls.take i) c).map jq)) ⟨[],none,rfl,ae hu _,af,.nil⟩ (λi σ G _ AD=>by obtain⟨_,_,_,sG,_⟩:=AD;exact SqL.of (sG _ _ BE)) ?_ ?_⟩
 ·intro i x σ G hx AC;obtain⟨xs,v,rfl,sG,gu,hd⟩:=AC;generalize AJ:gg.mk _ _ _ _=BG;revert AJ BG;refine id ?_;intro BG AJ;obtain⟨l,el,hl⟩:=CL.getm hx;obtain⟨a,ys,rfl,ha,BO⟩:=Hold.tupI hl;have ey:ys=l.map V.int:=BO.ints;subst ey;have hil:i < ls.length:=(aM.mp el).1;have lw:l.length<=10:=MA l (bV el);have xl:xs.length<=600:=by
   rw[hd.length,aJ,va,cK];exact cH (Nat.mul_le_mul (show min i ls.length<=100 by lia) c6) (by decide)
  refine⟨_,rfl,.inl ⟨rfl,_,SqL.of gu⟩,_,rfl,(c:Int),rfl,by lia,by lia,λD hD=>?_⟩;have uD:u≠D:=aq gu hD;refine Ak (n:=(c:Int).toNat) (λj zs G'=>Same G G'/\G' D=some (.lst zs)/\Holds K G' zs (((dG j).map λ(v:Nat)=>l++[(v:Int)]).map jq)) ⟨ae hD _,af,.nil⟩ (λj zs G' h=>h.2.1) ?_ ?_
  ·intro j zs G' hj AC;obtain⟨s1,d1,k1⟩:=AC;have zl:zs.length=j:=(by rw[k1.length,aJ,aJ,iS]);refine⟨bj (by lia),⟨[some _],rfl,rfl⟩,?_⟩;refine⟨_,rfl,_,rfl,sz1,λt ht=>?_⟩;have Dt:D≠t:=aq d1 ht;have hD':G D=none:=hD;have AK:∀(p:Addr)(G2:Hp),Same G' G2->G2 p=some (.tup ((l++[(j:Int)]).map V.int))->G2 D=some (.lst zs)/\Same G (upd G2 D (.lst (zs++[.ref p])))/\upd G2 D (.lst (zs++[.ref p])) D=some (.lst (zs++[.ref p]))/\
     Holds K (upd G2 D (.lst (zs++[.ref p]))) (zs++[.ref p]) (((dG (j+1)).map λ(v:Nat)=>l++[(v:Int)]).map jq):=λp G2 s2 hp=>by
    have FZ:G2 D=some (.lst zs):=s2 _ _ d1;refine⟨FZ,Same.put (Same.trans s1 s2) hD' _,af,?_⟩;rw[lW,cU,cU];refine Holds.append (Holds.stay ((Tups.of s2).trans (Tups.put FZ _)) (by rw[oF];exact d8 (λ_=>jz _) _) k1) (.one (.tup (SqT.of ?_) (oy _)));rw[ao (ou hp FZ (by intro z;cases z))];exact hp
   have IG:SqT K G' a (l.map V.int):=ha.same (Same.trans sG s1);by_cases FU:l=[]
   ·subst FU;refine .inr ⟨a,t,[.int (0+(j:Int))],rfl,rfl,IG.same (ae ht _),SqT.of af,AK t _ (ae ht _) ?_⟩;rw[af];simp
   ·refine .inl ⟨a,t,l.map V.int,[.int (0+(j:Int))],rfl,rfl,IG.same (ae ht _),SqT.of af,(by simpa using FU),small (by rw[aJ];show l.length+1<=1000;lia),(λe=>by cases e),λ_ p hp=>AK p _ (Same.trans (ae ht _) (ae hp _)) ?_⟩;rw[af];simp
  ·intro zs G' AC;obtain⟨s1,d1,k1⟩:=AC;have ct:(c:Int).toNat=c:=(by lia);rw[ct]at k1;have zl:zs.length=c:=(by rw[k1.length,aJ,aJ,iS]);have IK:G' u=some (.lst xs):=s1 _ _ gu;subst AJ;refine⟨u,D,xs,zs,rfl,rfl,IK,d1,small (by lia),xs++zs,_,rfl,Same.put (Same.trans sG s1) hu _,af,?_⟩;have tk:ls.take (i+1)=ls.take i++[l]:=(by rw[eX,el];rfl);rw[tk,Hi,cU];refine Holds.append (Holds.stay ((Tups.of s1).trans (Tups.put IK _)) ?_ hd) (Holds.stay (Tups.put IK _) ?_ k1)
   ·exact d8 jz _
   ·exact d8 jz _
 ·intro σ G AC;obtain⟨xs,v,rfl,sG,gu,hd⟩:=AC;refine⟨_,rfl,q u G sG hu ⟨xs,gu,?_⟩⟩;rw[ll,gN]at hd;exact hd
theorem La:aw ["speech","letters","pair"] zyi (aj Er):=fsN
theorem Lb {f g:Addr}{fd gd:bQ}(F:Fun K "letters_of" "letters_of" Er f fd)(G:‹1› g gd zyu (Fn K))(bG:Binds K gd zyu [])(kG:aR K (.ref g)=true)
  (mG:mg "each_longer"=some (.ref g)):‹2› f fd zyi (v7 K):=by
 exists F,La
 ·obtain⟨a,ws,rfl,_⟩:=h;rfl
 obtain⟨a,ws,rfl,hs,sk,q⟩:=h;refine⟨_,ai (bf (i:=1) La.nd rfl (cD rfl) (bc (aa (cb ag) ag))) (ai (fh fX rfl (Aa (pv 0)) (bo (i:=2) La.nd rfl (cD rfl)) (ak (bf (i:=1) La.nd rfl (cD rfl) (ar G hr rfl mG kG bG .nil bb (aa (pv 1) (aa (av cq (pv 2) ah (λ_ _=>rfl)) ag)))))) (ak (az (pv 1)))),?_⟩;dsimp only[bh,Cx.nox];refine⟨sz0,λt ht=>⟨sz1,λr CT=>?_⟩⟩;have tr:t≠r:=aq af CT;have CF:H r=none:=Same.free (ae ht _) CT;obtain⟨a',vs,ea,ha,hd⟩:=Hold.tupI hs;cases ea;have ll:vs.length=ws.length:=(by rw[hd.length,aJ]);have s0:Same H (upd (upd H t (.tup [])) r (.lst [.ref t])):=Same.put (ae ht _) CF _;refine⟨_,rfl,a,rfl,⟨_,ha.same s0⟩,Hv (K:=K) (a:=a) (xs:=vs) (λi σ G=>∃(r:Addr)(v:Option V),σ=[some (.ref a),some (.ref r),v]/\Same H G/\H r=none/\LetAt K G r (fk ((ws.take i).map (·.2)))) ⟨r,none,rfl,s0,CF,[.ref t],af,.one (.tup (SqT.of (by rw[ao tr,af])) .nil)⟩ (λi σ G _ AD=>by obtain⟨_,_,_,sG,_⟩:=AD;exact ha.same sG) ?_ ?_⟩
 ·intro i x σ G hx AC;obtain⟨r,v,rfl,sG,CF,lt⟩:=AC;generalize JZ:gg.mk _ _ _ _=UV;revert JZ UV;refine id ?_;intro UV JZ;obtain⟨w',ew,hw⟩:=hd.getm hx;obtain⟨b,ys,rfl,hb,BO⟩:=Hold.tupI hw;have hi:i < ws.length:=(aM.mp ew).1;have wm:w'∈ws:=bV ew;have h6:=sk.cnt w' wm;cases BO with
  |cons h1 r1=>
   cases r1 with
   |cons h2 r2=>
    cases r2;cases h1.flatI;cases h2.flatI;have i3:=sk.hi;have lm:(fk ((ws.take i).map (·.2))).length<=36:=by
     rw[mf];refine cH (Nj _ λc hc=>?_) ?_
     ·obtain⟨z,hz,rfl⟩:=jN.mp hc;exact(sk.cnt z (pZ hz)).2
     ·rw[aJ,cK];exact cH (uA (by decide) (show min i ws.length<=2 by lia)) (by decide)
    refine⟨_,rfl,_,rfl,b,_,_,_,rfl,rfl,hb.same sG,rfl,r,w'.2,_,rfl,lt,h6.2,by lia,λl hl=>?_,λr' G' s' CT lt'=>?_⟩
    ·rw[(ja _).wide l hl,aJ,cK];lia
    ·subst JZ;refine⟨r',_,rfl,Same.trans sG s',Same.free sG CT,?_⟩;have tk:(ws.take (i+1)).map (·.2)=(ws.take i).map (·.2)++[w'.2]:=(by rw[eX,ew];simp);rw[tk,vq];exact lt'
 ·intro σ G AC;obtain⟨r,v,rfl,sG,CF,lt⟩:=AC;refine⟨_,rfl,q r G sG CF ?_⟩;rw[ll,gN]at lt;exact lt
end
def LstP (P:Nat->V->Prop)(k:Nat)(xs:List V):Prop:=xs.length=k/\∀c y,xs[c]?=some y->P c y
theorem LstP.nil {P:Nat->V->Prop}:LstP P 0 []:=⟨rfl,λc y e=>by simp at e⟩
theorem LstP.imp {P P':Nat->V->Prop}{k:Nat}{xs:List V}(h:LstP P k xs)(e:∀c y,c < k->P c y->P' c y):LstP P' k xs:=
 ⟨h.1,λc y hc=>e c y (by rw[<-h.1];exact(aM.mp hc).1) (h.2 c y hc)⟩
theorem LstP.append {P P':Nat->V->Prop}{k k':Nat}{xs ys:List V}(h:LstP P k xs)(h2:LstP P' k' ys)(e:∀c y,c < k'->P' c y->P (k+c) y):LstP P (k+k') (xs++ys):=by
 refine⟨by rw[aQ,h.1,h2.1],λc y hc=>?_⟩;by_cases hl:c < xs.length
 ·rw[eK hl]at hc;exact h.2 c y hc
 ·rw[gF (by lia)]at hc;have h3:=(aM.mp hc).1;have:=e _ y (by have:=h2.1;lia) (h2.2 _ y hc);have h1:=h.1;rw[show k+(c - xs.length)=c by lia]at this;exact this
theorem LstP.one {P:Nat->V->Prop}{x:V}(h:P 0 x):LstP P 1 [x]:=⟨rfl,λc y hc=>by
  have:=(aM.mp hc).1;simp only[eE,oX]at this;have e:c=0:=(by lia);subst e;cases hc;exact h⟩
theorem LstP.snoc {P:Nat->V->Prop}{k:Nat}{xs:List V}{y:V}(h:LstP P k xs)(hy:P k y):LstP P (k+1) (xs++[y]):=
 h.append (P':=λc=>P (k+c)) (.one (by rw[Nat.add_zero];exact hy)) λ_ _ _ z=>z
theorem LstP.drop1 {P:Nat->V->Prop}{k:Nat}{xs:List V}(h:LstP P (k+1) xs):LstP (λc=>P (c+1)) k (xs.drop 1):=by
 refine⟨by rw[gZ,h.1];lia,λc y hc=>?_⟩;rw[List.getElem?_drop,jD]at hc;exact h.2 _ y hc
theorem LstP.take1 {P:Nat->V->Prop}{k:Nat}{xs:List V}(h:LstP P (k+1) xs):LstP P 1 (xs.take 1):=by
 refine⟨by rw[cK,h.1];lia,λc y hc=>?_⟩;rw[List.getElem?_take]at hc
 split at hc
 ·exact h.2 _ y hc
 ·cases hc
theorem LstP.rep {P:Nat->V->Prop}{k:Nat}{x:V}(h:∀c,c < k->P c x):LstP P k (dJ k x):=by
 refine⟨iA,λc y hc=>?_⟩;have h1:=(aM.mp hc).1;rw[iA]at h1;rw[mK,if_pos h1]at hc;cases hc;exact h c h1
theorem LstP.at {P:Nat->V->Prop}{k:Nat}{xs:List V}(h:LstP P k xs){c:Nat}(hc:c < k):∃y,xs[c]?=some y/\P c y:=by
 have DT:c < xs.length:=(by rw[h.1];exact hc);exact⟨xs[c],aK DT,h.2 c _ (aK DT)⟩
theorem LstP.set {P P':Nat->V->Prop}{k:Nat}{xs:List V}{j:Nat}{x:V}(h:LstP P k xs)(hx:P' j x)(e:∀c y,c < k->c≠j->P c y->P' c y):LstP P' k (xs.set j x):=by
 refine⟨by rw[oU,h.1],λc y hc=>?_⟩;rw[List.getElem?_set]at hc
 split at hc
 ·rename_i hj
  subst hj
  split at hc
  ·cases hc;exact hx
  ·cases hc
 ·rename_i hj
  exact e c y (by rw[<-h.1];exact(aM.mp hc).1) (λz=>hj z.symm) (h.2 c y hc)
theorem o6 (xs:List V):d7 xs (some 1) none=xs.drop 1:=by
 unfold d7;rw[HT.sIx_none,show(some (1:Int))=some ((1:Nat):Int)from rfl,HT.sIx_nat];cases xs with
 |nil=>rfl
 |cons x xs=>simp[Nat.min_def]
theorem Th (xs:List V):d7 xs none (some 1)=xs.take 1:=by
 unfold d7;rw[HT.sIx_none,show(some (1:Int))=some ((1:Nat):Int)from rfl,HT.sIx_nat];cases xs with
 |nil=>rfl
 |cons x xs=>simp[Nat.min_def]
def br (G:Hp)(D:Addr):Hp:=λb=>if b=D then none else G b
theorem cj {G:Hp}{D b:Addr}(h:b≠D):br G D b=G b:=by unfold br;rw[if_neg h]
theorem gw {G:Hp}{D:Addr}{o:HO}:br (upd G D o) D=br G D:=by
 funext b
 by_cases h:b=D
 ·unfold br;rw[if_pos h,if_pos h]
 ·rw[cj h,cj h,ao h]
theorem hide_le {G:Hp}{D:Addr}:Same (br G D) G:=λb o e=>by
 by_cases h:b=D
 ·unfold br at e;rw[if_pos h]at e;cases e
 ·rw[cj h]at e;exact e
theorem d6 {G G':Hp}{D:Addr}(s:Same G G'):Same (br G D) (br G' D):=λb o e=>by
 by_cases h:b=D
 ·unfold br at e;rw[if_pos h]at e;cases e
 ·rw[cj h]at e ⊢;exact s _ _ e
theorem sx {H G:Hp}{D:Addr}(s:Same H G)(h:H D=none):Same H (br G D):=λb o e=>by
 rw[cj (aq e h)];exact s _ _ e
theorem Fo {G:Hp}{D:Addr}{o:HO}:Same (br G D) (upd G D o):=λb u e=>by
 by_cases h:b=D
 ·unfold br at e;rw[if_pos h]at e;cases e
 ·rw[cj h]at e;rw[ao h];exact e
def jr (H G:Hp):Hp:=λb=>match H b with | none=>G b | some _=>none
theorem B8 {H G:Hp}{b:Addr}(h:H b=none):jr H G b=G b:=by unfold jr;rw[h]
theorem qi {H G:Hp}{b:Addr}{o:HO}(h:jr H G b=some o):H b=none/\G b=some o:=by
 unfold jr at h;cases e:H b with
 |none=>rw[e]at h;exact⟨rfl,h⟩
 |some _=>rw[e]at h;cases h
theorem Cw {H G G':Hp}(s:Same G G'):Same (jr H G) (jr H G'):=λb o e=>by
 obtain⟨h1,h2⟩:=qi e;rw[B8 h1];exact s _ _ h2
theorem Iv {H G:Hp}:Same (jr H G) G:=λb o e=>(qi e).2
theorem Oc {H G:Hp}{D:Addr}{o:HO}:br (jr H (upd G D o)) D=br (jr H G) D:=by
 funext b
 by_cases h:b=D
 ·unfold br;rw[if_pos h,if_pos h]
 ·rw[cj h,cj h];unfold jr;rw[ao h]
theorem v8 {H G X:Hp}{D:Addr}{o:HO}(h:H D=some o)(s:Same (jr H G) X):Same (jr H G) (br X D):=λb u e=>by
 have:b≠D:=λz=>(by subst z;have:=(qi e).1;rw[h]at this;cases this);rw[cj this];exact s _ _ e
abbrev Rl:=Nat->Nat->Prop
def RelAt (H:Hp)(n:Nat)(R:Rl)(x:V):Prop:=∃a ns,x=.ref a/\H a=some (.lst (ns.map V.int))/\RelP n ns R
def RowAt (H:Hp)(n k:Nat)(W:Nat->Rl)(x:V):Prop:=∃a xs,x=.ref a/\H a=some (.lst xs)/\LstP (λc=>RelAt H n (W c)) k xs
def WaysAt (H:Hp)(n k:Nat)(W:Nat->Nat->Rl)(x:V):Prop:=∃a xs,x=.ref a/\H a=some (.lst xs)/\LstP (λr=>RowAt H n k (W r)) k xs
theorem RelAt.mono {H H':Hp}{n:Nat}{R:Rl}{x:V}(e:Same H H')(h:RelAt H n R x):RelAt H' n R x:=by
 obtain⟨a,ns,rfl,g,r⟩:=h;exact⟨a,ns,rfl,e _ _ g,r⟩
abbrev uw (H:Hp)(n k:Nat)(W:Nat->Rl)(xs:List V):Prop:=LstP (λc=>RelAt H n (W c)) k xs
theorem c5 {H H':Hp}{n k:Nat}{W:Nat->Rl}{xs:List V}(e:Same H H')(h:uw H n k W xs):uw H' n k W xs:=h.imp λ_ _ _ z=>z.mono e
theorem RowAt.mono {H H':Hp}{n k:Nat}{W:Nat->Rl}{x:V}(e:Same H H')(h:RowAt H n k W x):RowAt H' n k W x:=by
 obtain⟨a,xs,rfl,g,r⟩:=h;exact⟨a,xs,rfl,e _ _ g,c5 e r⟩
theorem RowAt.eq {H:Hp}{n k:Nat}{W W':Nat->Rl}{x:V}(h:RowAt H n k W x)(e:∀c,c < k->W c=W' c):RowAt H n k W' x:=by
 obtain⟨a,xs,rfl,g,r⟩:=h;exact⟨a,xs,rfl,g,r.imp λc y hc z=>by rw[<-e c hc];exact z⟩
theorem WaysAt.mono {H H':Hp}{n k:Nat}{W:Nat->Nat->Rl}{x:V}(e:Same H H')(h:WaysAt H n k W x):WaysAt H' n k W x:=by
 obtain⟨a,xs,rfl,g,r⟩:=h;exact⟨a,xs,rfl,e _ _ g,r.imp λc y _ z=>z.mono e⟩
def Fp (n k:Nat)(W:Nat->Nat->Rl)(H:Hp)(Q:VK):Prop:=∀(x:V)(H':Hp),Same H H'->WaysAt H' n k W x->Q x H'
def mw (k1:Nat)(W2:Nat->Nat->Rl)(r c:Nat):Rl:=if c=0 then W2 (r - k1+1) 0 else if c < k1 then λ_ _=>False else W2 (r - k1+1) (c - k1+1)
def nh (n k1:Nat)(W1 W2:Nat->Nat->Rl)(r c:Nat):Rl:=
 if r < k1 then if c=0/\r=0 then orR n (W1 0 0) (W2 0 0)else if c < k1 then W1 r c else if r=0 then W2 0 (c - k1+1)else λ_ _=>False
 else mw k1 W2 r c
def qj (n k1:Nat)(W1 W2:Nat->Nat->Rl)(r c:Nat):Rl:=
 if r < k1 then if c=0 then ku n (W1 r 0) (W2 0 0)else if c < k1 then W1 r c else ku n (W1 r 0) (W2 0 (c - k1+1))
 else mw k1 W2 r c
def wa (n:Nat)(W:Nat->Nat->Rl)(r c:Nat):Rl:=
 if c=0 then if r=0 then Star n (W 0 0)else ku n (W r 0) (Star n (W 0 0))
 else orR n (W r c) (ku n (ku n (W r 0) (Star n (W 0 0))) (W 0 c))
def Ti (r c:Nat):Rl:=if r=c then λ_ _=>False else λi j=>j=i
def Has (P:aU)(w:aZ)(K:aB)(mg:Str->Option aC)(base:Heap)(k:Nat)(x:Str)(ps:List Str)(sp:Sp):Prop:=
 ∃f d,FnOk P w K mg base CX0 k f d ps sp/\Binds K d ps []/\aR K (.ref f)=true/\mg x=some (.ref f)
def Fq:Sp:=λvs H Q _=>∃(n k:Nat)(W:Nat->Nat->Rl) (x:V),vs=[x]/\WaysAt H n (k+1) W x/\k<=300/\n<=300/\
 ∀(r:Addr)(xs:List V) (H':Hp),Same H H'->H r=none->H' r=some (.lst xs)->uw H' n k (λ_ _ _=>False) xs->Q (.ref r) H'
def Iw:Sp:=λvs H Q _=>∃n:Nat,vs=[.int (n:Int)]/\n<=300/\Fp n 2 Ti H Q
section
variable {P:aU}{w:aZ}{K:aB}{mg:Str->Option aC}{base:Heap}
theorem scNw:aw zzj zzj (aj E2):=fsN
theorem Ra {f:Addr}{fd:bQ}(F:Fun K "note_ways" "note_ways" E2 f fd)
  (hN:Has P w K mg base 1 "nothing" zzj K7) (hS:Has P w K mg base 1 "the_same" zzj K8) :
  ‹2› f fd zzj Iw:=by
 obtain⟨fN,dN,GN,bN,kN,mN⟩:=hN;obtain⟨fS,dS,GS,bS,kS,mS⟩:=hS;exists F,scNw
 ·obtain⟨n,rfl,_⟩:=h;rfl
 obtain⟨n,rfl,BP,q⟩:=h;refine⟨_,ak (az (bc (aa (bc (aa (ar GN hr rfl mN kN bN .nil bb (aa (pv 0) ag)) (aa (ar GS hr rfl mS kS bS .nil bb (aa (pv 0) ag)) ag))) (aa (bc (aa (ar GS hr rfl mS kS bS .nil bb (aa (pv 0) ag)) (aa (ar GN hr rfl mN kN bN .nil bb (aa (pv 0) ag)) ag))) ag)))),?_⟩;refine⟨_,rfl,n,rfl,BP,λr1 n1 G1 s1 _ g1 v1=>⟨_,rfl,n,rfl,BP,λr2 n2 G2 s2 _ g2 v2=>⟨sz2,λp hp=>?_⟩⟩⟩;refine⟨_,rfl,n,rfl,BP,λr3 n3 G3 s3 _ g3 v3=>⟨_,rfl,n,rfl,BP,λr4 n4 G4 s4 _ g4 v4=>⟨sz2,λp2 BC=>⟨sz2,λp3 BU=>?_⟩⟩⟩⟩;have a1:Same G2 (upd G2 p (.lst [.ref r1,.ref r2])):=ae hp _;have a2:Same (upd G2 p (.lst [.ref r1,.ref r2])) G4:=Same.trans s3 s4;have a3:Same G4 (upd (upd G4 p2 (.lst [.ref r3,.ref r4])) p3 (.lst [.ref p,.ref p2])):=Same.trans (ae BC _) (ae BU _);have IL:=Same.trans a1 (Same.trans a2 a3);refine q _ _ (Same.trans (Same.trans s1 s2) IL) ⟨p3,_,rfl,af,?_⟩;refine(LstP.one ?_).snoc ?_
 ·refine⟨p,_,rfl,(Same.trans a2 a3) _ _ af,(LstP.one ?_).snoc ?_⟩
  ·exact⟨r1,n1,rfl,(Same.trans s2 IL) _ _ g1,v1⟩
  ·exact⟨r2,n2,rfl,IL _ _ g2,v2⟩
 ·refine⟨p2,_,rfl,ae BU _ _ _ af,(LstP.one ?_).snoc ?_⟩
  ·exact⟨r3,n3,rfl,(Same.trans s4 a3) _ _ g3,v3⟩
  ·exact⟨r4,n4,rfl,a3 _ _ g4,v4⟩
theorem scFi:aw zyp zyp (aj Kz):=fsN
theorem V4 (k:Nat)(x:V):(dJ k [x]).flatten=dJ k x:=by
 induction k with
 |zero=>rfl
 |succ k ih=>rw[iZ,nS,ih,iZ];rfl
theorem V5 {f:Addr}{fd:bQ}(F:Fun K "filling" "filling" Kz f fd)
  (hN:Has P w K mg base 1 "nothing" zzj K7) (ml:mg "len"=none):‹2› f fd zyp Fq:=by
 obtain⟨fN,dN,GN,bN,kN,mN⟩:=hN;exists F,scFi
 ·obtain⟨n,k,W,x,rfl,_⟩:=h;rfl
 obtain⟨n,k,W,x,rfl,⟨a,xs,rfl,ga,la⟩,BV,AM,q⟩:=h;refine⟨_,ak (az (ba Eb (bc (aa (ar GN hr rfl mN kN bN .nil bb (aa (bz cg rfl ml gT (aa (av ax (av ax (pv 0) ah (λ_ _=>rfl)) ah (λ_ _=>rfl)) ag)) ag)) ag)) (ba D3 (bz cg rfl ml gT (aa (pv 0) ag)) ah))),?_⟩;dsimp only[bh,Cx.nox];obtain⟨y0,e0,b,zs,rfl,gb,lb⟩:=la.at (c:=0) (by lia);obtain⟨z0,f0,c,ns,rfl,gc,rv⟩:=lb.at (c:=0) (by lia);have lc:=rv.1;have lx:=la.1;refine⟨_,rfl,a,_,_,_,rfl,rfl,SqL.of ga,bp (j:=0) e0,b,_,_,_,rfl,rfl,SqL.of gb,bp (j:=0) f0,c,_,rfl,.inl (SqL.of gc),n,(by rw[aJ,lc];rfl),AM,λr1 n1 G1 s1 h1 g1 v1=>?_⟩;refine⟨sz1,λl hl=>⟨_,rfl,a,_,rfl,.inl (SqL.of (ae hl _ _ _ (s1 _ _ ga))),_,_,rfl,rfl,l,_,_,rfl,rfl,af,?_,?_,?_,λp hp=>?_⟩⟩
 ·rw[lx];lia
 ·rw[lx];lia
 ·rw[lx];show 1 * (((k+1:Nat):Int) - 1).toNat<=sizeLine;exact small (by lia)
 ·have sA:=Same.trans s1 (ae hl (.lst [.ref r1]));refine q p _ _ (Same.trans sA (ae hp _)) (Same.free sA hp) af ?_;rw[V4,lx,show(((k+1:Nat):Int) - 1).toNat=k by lia];exact .rep λc _=>⟨r1,n1,rfl,ae hp _ _ _ (ae hl _ _ _ g1),v1⟩
end
def yu:Sp:=λvs H Q _=>∃(n k1 k2:Nat)(W1 W2:Nat->Nat->Rl) (x y:V),vs=[x,y]/\WaysAt H n (k1+1) W1 x/\WaysAt H n (k2+1) W2 y/\k1+k2<=300/\n<=300/\
 ∀(r:Addr)(xs:List V) (H':Hp),Same H H'->H r=none->H' r=some (.lst xs)->LstP (λd=>RowAt H' n (k1+k2+1) (mw (k1+1) W2 (k1+1+d))) k2 xs->Q (.ref r) H'
def Dr (T:Nat->Nat->(Nat->Nat->Rl)->(Nat->Nat->Rl)->Nat->Nat->Rl):Sp:=λvs H Q _=>∃(n k1 k2:Nat)(W1 W2:Nat->Nat->Rl) (x y:V),vs=[x,y]/\WaysAt H n (k1+1) W1 x/\WaysAt H n (k2+1) W2 y/\k1+k2<=300/\n<=300/\
 Fp n (k1+k2+1) (T n (k1+1) W1 W2) H Q
section
variable {P:aU}{w:aZ}{K:aB}{mg:Str->Option aC}{base:Heap}
theorem Yf:aw ["first","second","fill"] zzt (aj xq):=fsN
def Yg:gQ:={ kind:=.function,names:=[(".0",.local),("row",.local),("fill",.free)],isGenerator:=false,isCoroutine:=false,more:=[] }
theorem cBh {CX:CXT}{f:Addr}{AF:aC}{A:cC}{outer:List Env}{s:aG}{H:Hp}{E:XK} :
  cp (bh CX P w K mg base ["first","second","fill"] "behind" (aj xq) f AF A outer s H E).nox zyl ["fill"] [2] Yg [("fill",s.heap.objs.size+1)]:=csN [(".0",.local),("row",.local),("fill",.cell)]
theorem Od {f:Addr}{fd:bQ}(F:Fun K "behind" "behind" xq f fd)(hF:Has P w K mg base 2 "filling" zyp Fq):‹3› f fd zzt yu:=by
 obtain⟨fF,dF,GF,bF,kF,mF⟩:=hF;exists F,Yf
 ·obtain⟨n,k1,k2,W1,W2,x,y,rfl,_⟩:=h;rfl
 obtain⟨n,k1,k2,W1,W2,x,y,rfl,w1,w2,BV,AM,q⟩:=h;refine⟨_,ai (bf (i:=2) Yf.nd rfl (oV rfl) (ar GF hr rfl mF kF bF .nil bb (aa (pv 0) ag))) (ak (az (dz (ns:=zyl) (ys:=["fill"]) (sc:=Yg) cBh rfl (c7 (cn dq (pv 1) (cv ah) cy)) (λC s H fp=>bo (i:=0) (by show(["row","fill"]:List Str).Nodup;decide +kernel) rfl (cD rfl)) (λC s H fp=>cz) (λC s H fp=>ba d9 (ba d9 (cn (r:=P2 K) dq (pv 0) cy (cv ah)) (pv 1)) (cn (r:=P2 K) dq (pv 0) (cv ah) cy))))),?_⟩;dsimp only[bh,Cx.nox];refine⟨_,rfl,n,k1,W1,x,rfl,w1,by lia,AM,λrf fl G1 s1 h1 g1 l1=>?_⟩;obtain⟨a2,IM,rfl,K',MN⟩:=w2.mono s1;refine⟨_,rfl,_,rfl,a2,IM,rfl,SqL.of K',λp hp=>⟨p,rfl,⟨_,SqL.of af⟩,λD hD=>?_⟩⟩;rw[o6]at hD ⊢;have s2:Same G1 (upd G1 p (.lst (IM.drop 1))):=ae hp _;have ld:=MN.drop1;have MO:G1 D=none:=Same.free s2 hD;refine dy (K:=K) (a:=p) (xs:=IM.drop 1) (λi ys G=>Same (upd G1 p (.lst (IM.drop 1))) G/\G D=some (.lst ys)/\LstP (λd=>RowAt (br G D) n (k1+k2+1) (mw (k1+1) W2 (k1+1+d))) i ys)
  ⟨ae hD _,af,.nil⟩ (λi ys G z=>z.2.1) (λi ys G _ z=>SqL.of (z.1 _ _ af)) ?_ ?_
 ·intro i x ys G hx AC;obtain⟨sG,gD,ly⟩:=AC;have hi:i < k2:=(by rw[<-ld.1];exact(aM.mp hx).1);have sA:Same G1 G:=Same.trans s2 sG;obtain⟨b,zs,rfl,IP,EZ⟩:=ld.2 i x hx;have gb:=sA _ _ IP;have yl:=ly.1;have fl1:=l1.1;have zl:=EZ.1;refine⟨bj (by lia),⟨[some _],rfl,rfl⟩,?_⟩;refine⟨_,rfl,_,rfl,b,zs,rfl,SqL.of gb,λp1 DM=>?_⟩;rw[Th];have t1:=ae DM (.lst (zs.take 1));refine⟨_,rfl,p1,rf,_,fl,rfl,rfl,af,t1 _ _ (sA _ _ g1),small (by rw[cK];lia),λp2 BC=>?_⟩;have t2:=ae BC (.lst (zs.take 1++fl));have RG:=Same.trans t1 t2;refine⟨_,rfl,_,rfl,b,zs,rfl,SqL.of (RG _ _ gb),λp3 BU=>?_⟩;rw[o6];have t3:=ae BU (.lst (zs.drop 1));refine⟨p2,p3,_,_,rfl,rfl,t3 _ _ af,af,small (by rw[aQ,cK,gZ];lia),λp4 F'=>?_⟩;have t4:=ae F' (.lst (zs.take 1++fl++zs.drop 1));have t:=Same.trans (Same.trans RG t3) t4;have J':=t _ _ gD;have hp4D:p4≠D:=λe=>(by subst e;rw[Same.trans RG t3 _ _ gD]at F';cases F');refine⟨J',Same.put (Same.trans sG t) hD _,af,?_⟩;rw[gw];have sH:=sx (D:=D) (Same.trans sA t) MO;refine(ly.imp λd y _ z=>z.mono (d6 t)).snoc ⟨p4,_,rfl,by rw[cj hp4D];exact af,?_⟩;have hk:k1+k2+1=1+k1+k2:=(by lia);rw[hk];refine LstP.append (k:=1+k1) (k':=k2) (P':=λc=>RelAt (br _ D) n (W2 (i+1) (c+1))) (LstP.append (k:=1) (k':=k1) (P':=λc=>RelAt (br _ D) n (λ_ _=>False)) ((c5 sH EZ).take1.imp λc y hc z=>?_) (c5 sH l1) λc y hc z=>?_) (c5 sH EZ).drop1 λc y hc z=>?_
  ·have:c=0:=(by lia);subst this;unfold mw;rw[if_pos rfl,show k1+1+i - (k1+1)+1=i+1 by lia];exact z
  ·unfold mw;rw[if_neg (by lia),if_pos (by lia)];exact z
  ·unfold mw;rw[if_neg (by lia),if_neg (by lia),show k1+1+i - (k1+1)+1=i+1 by lia,show 1+k1+c - (k1+1)+1=c+1 by lia];exact z
 ·intro ys G AC;obtain⟨sG,gD,ly⟩:=AC;rw[ld.1]at ly;exact q D ys G (Same.trans s1 (Same.trans s2 sG)) (Same.free s1 MO) gD (ly.imp λd y _ z=>z.mono hide_le)
theorem Rb:aw ["one","other","start","fill"] zzm (aj Ar):=fsN
def Tj:gQ:={ kind:=.function,names:=[(".0",.local),("row",.local),("fill",.free)],isGenerator:=false,isCoroutine:=false,more:=[] }
theorem cEw_ {CX:CXT}{f:Addr}{AF:aC}{A:cC}{outer:List Env}{s:aG}{H:Hp}{E:XK} :
  cp (bh CX P w K mg base ["one","other","start","fill"] "either_ways" (aj Ar) f AF A outer s H E).nox zyl ["fill"] [3] Tj [("fill",s.heap.objs.size+1)]:=csN [(".0",.local),("row",.local),("fill",.cell)]
theorem Re {f:Addr}{fd:bQ}(F:Fun K "either_ways" "either_ways" Ar f fd)(hE:Has P w K mg base 1 "either_of" zzm (Az K))(hF:Has P w K mg base 2 "filling" zyp Fq)
  (hB:Has P w K mg base 3 "behind" zzt yu):‹4› f fd zzm (Dr nh):=by
 obtain⟨fE,dE,GE,bE,kE,mE⟩:=hE;obtain⟨fF,dF,GF,bF,kF,mF⟩:=hF;obtain⟨fB,dB,GB,bB,kB,mB⟩:=hB;exists F,Rb
 ·obtain⟨n,k1,k2,W1,W2,x,y,rfl,_⟩:=h;rfl
 obtain⟨n,k1,k2,W1,W2,x,y,rfl,w1,w2,BV,AM,q⟩:=h;refine⟨_,ai (bf (i:=2) Rb.nd rfl (cD rfl) (ba d9 (ba d9 (bc (aa (ar GE (hr.mono (by decide)) rfl mE kE bE .nil bb (aa (av ax (av ax (pv 0) ah (λ_ _=>rfl)) ah (λ_ _=>rfl)) (aa (av ax (av ax (pv 1) ah (λ_ _=>rfl)) ah (λ_ _=>rfl)) ag))) ag)) (cn dq (av ax (pv 0) ah (λ_ _=>rfl)) (cv ah) cy)) (cn dq (av ax (pv 1) ah (λ_ _=>rfl)) (cv ah) cy))) (ai (bf (i:=3) Rb.nd rfl (oV rfl) (ar GF (hr.mono (by decide)) rfl mF kF bF .nil bb (aa (pv 1) ag))) (ak (az (ba d9 (ba d9 (bc (aa (pv 2) ag)) (dz (ns:=zyl) (ys:=["fill"]) (sc:=Tj) cEw_ rfl (c7 (cn dq (pv 0) (cv ah) cy)) (λC s H fp=>bo (i:=0) (by show(["row","fill"]:List Str).Nodup;decide +kernel) rfl (cD rfl)) (λC s H fp=>cz) (λC s H fp=>ba d9 (pv 0) (pv 1)))) (ar GB hr rfl mB kB bB .nil bb (aa (pv 0) (aa (pv 1) ag))))))),?_⟩;dsimp only[bh,Cx.nox];obtain⟨a1,xs1,rfl,IQ,KA⟩:=id w1;obtain⟨a2,IM,rfl,K',MN⟩:=id w2;obtain⟨_,e1,b1,DH,rfl,FL,HG⟩:=KA.at (c:=0) (by lia);obtain⟨_,f1,c1,KB,rfl,IR,HF⟩:=HG.at (c:=0) (by lia);obtain⟨_,e2,b2,GG,rfl,HH,LA⟩:=MN.at (c:=0) (by lia);obtain⟨_,f2,c2,RH,rfl,LB,KY⟩:=LA.at (c:=0) (by lia);have zl1:=HG.1;have RI:=LA.1;refine⟨_,rfl,a1,_,_,_,rfl,rfl,SqL.of IQ,bp (j:=0) e1,b1,_,_,_,rfl,rfl,SqL.of FL,bp (j:=0) f1,_,rfl,a2,_,_,_,rfl,rfl,SqL.of K',bp (j:=0) e2,b2,_,_,_,rfl,rfl,SqL.of HH,bp (j:=0) f2,n,c1,c2,KB,RH,_,_,rfl,SqL.of IR,HF,SqL.of LB,KY,AM,λr0 n0 G1 s1 h1 g1 v1=>?_⟩;refine⟨sz1,λp0 MP=>?_⟩;have t0:=ae MP (.lst [.ref r0]);have IC:=Same.trans s1 t0;refine⟨_,rfl,a1,_,_,_,rfl,rfl,SqL.of (IC _ _ IQ),bp (j:=0) e1,_,rfl,b1,DH,rfl,SqL.of (IC _ _ FL),λp1 DM=>?_⟩;rw[o6];have t1:=ae DM (.lst (DH.drop 1));refine⟨p0,p1,_,_,rfl,rfl,t1 _ _ af,af,small (by rw[gZ];show 1+_<=_;lia),λp2 BC=>?_⟩;have t2:=ae BC (.lst ([.ref r0]++DH.drop 1));have DG:=Same.trans IC (Same.trans t1 t2);refine⟨_,rfl,a2,_,_,_,rfl,rfl,SqL.of (DG _ _ K'),bp (j:=0) e2,_,rfl,b2,GG,rfl,SqL.of (DG _ _ HH),λp3 BU=>?_⟩;rw[o6];have t3:=ae BU (.lst (GG.drop 1));refine⟨p2,p3,_,_,rfl,rfl,t3 _ _ af,af,small (by rw[aQ,gZ,gZ];show 1+_+_<=_;lia),λp4 F'=>?_⟩;have t4:=ae F' (.lst ([.ref r0]++DH.drop 1++GG.drop 1));have IS:=Same.trans DG (Same.trans t3 t4);have UW:=(Same.trans t0 (Same.trans (Same.trans t1 t2) (Same.trans t3 t4))) _ _ g1;have UX:(upd (upd (upd (upd (upd G1 p0 (.lst [.ref r0])) p1 (.lst (DH.drop 1))) p2 (.lst ([.ref r0]++DH.drop 1))) p3 (.lst (GG.drop 1))) p4 (.lst ([.ref r0]++DH.drop 1++GG.drop 1))) p4=some (.lst ([.ref r0]++DH.drop 1++GG.drop 1)):=af;generalize upd (upd (upd (upd (upd G1 p0 (.lst [.ref r0])) p1 (.lst (DH.drop 1))) p2 (.lst ([.ref r0]++DH.drop 1))) p3 (.lst (GG.drop 1))) p4 (.lst ([.ref r0]++DH.drop 1++GG.drop 1))=G2 at IS UW UX ⊢;clear t4 t3 DG t2 t1 IC t0;refine⟨_,rfl,n,k2,W2,.ref a2,rfl,w2.mono IS,by lia,AM,λrf fl G3 s3 h3 g3 l3=>?_⟩;have CU:=Same.trans IS s3;refine⟨_,rfl,sz1,λp5 MQ=>?_⟩;have t5:=ae MQ (.lst [.ref p4]);have RJ:=Same.trans CU t5;refine⟨_,rfl,_,rfl,a1,xs1,rfl,SqL.of (RJ _ _ IQ),λp6 hp6=>⟨p6,rfl,⟨_,SqL.of af⟩,λD hD=>?_⟩⟩;rw[o6]at hD ⊢;have t6:=ae hp6 (.lst (xs1.drop 1));have MR:=Same.trans RJ t6;have UY:=(Same.trans s3 (Same.trans t5 t6)) _ _ UX;have UZ:=(Same.trans s3 (Same.trans t5 t6)) _ _ UW;have U':=(Same.trans t5 t6) _ _ g3;have MS:=c5 (Same.trans t5 t6) l3;have VA:(upd (upd G3 p5 (.lst [.ref p4])) p6 (.lst (xs1.drop 1))) p5=some (.lst [.ref p4]):=t6 _ _ af;have VB:(upd (upd G3 p5 (.lst [.ref p4])) p6 (.lst (xs1.drop 1))) p6=some (.lst (xs1.drop 1)):=af;generalize upd (upd G3 p5 (.lst [.ref p4])) p6 (.lst (xs1.drop 1))=G6 at MR UY UZ U' MS VA VB hD ⊢;clear t6 t5 RJ;have ld:=KA.drop1;have fl1:=l3.1;refine dy (K:=K) (a:=p6) (xs:=xs1.drop 1) (λi ys G=>Same G6 G/\G D=some (.lst ys)/\LstP (λd=>RowAt (br G D) n (k1+k2+1) (nh n (k1+1) W1 W2 (1+d))) i ys)
  ⟨ae hD _,af,.nil⟩ (λi ys G z=>z.2.1) (λi ys G _ z=>SqL.of (z.1 _ _ VB)) ?_ ?_
 ·intro i x ys G hx AC;obtain⟨sG,gD,ly⟩:=AC;have hi:i < k1:=(by rw[<-ld.1];exact(aM.mp hx).1);obtain⟨b,zs,rfl,IP,EZ⟩:=(ld.2 i x hx).mono MR;have gb:=sG _ _ IP;have yl:=ly.1;have zl:=EZ.1;refine⟨bj (by lia),⟨[some _],rfl,rfl⟩,?_⟩;refine⟨_,rfl,_,rfl,b,rf,zs,fl,rfl,rfl,gb,sG _ _ U',small (by lia),λp7 MT=>?_⟩;have t7:=ae MT (.lst (zs++fl));have J':=t7 _ _ gD;have hpD:p7≠D:=λe=>(by subst e;rw[gD]at MT;cases MT);refine⟨J',Same.put (Same.trans sG t7) hD _,af,?_⟩;rw[gw];have sH:=sx (D:=D) (Same.trans sG t7) hD;refine(ly.imp λd y _ z=>z.mono (d6 t7)).snoc ⟨p7,_,rfl,by rw[cj hpD];exact af,?_⟩;rw[show k1+k2+1=k1+1+k2 by lia];refine LstP.append (k:=k1+1) (k':=k2) (P':=λc=>RelAt (br _ D) n (λ_ _=>False)) ((c5 sH EZ).imp λc y hc z=>?_) (c5 sH MS) λc y hc z=>?_
  ·unfold nh;rw[if_pos (by lia),if_neg (by lia),if_pos (by lia),jD 1 i];exact z
  ·unfold nh;rw[if_pos (by lia),if_neg (by lia),if_neg (by lia),if_neg (by lia)];exact z
 ·intro ys G AC;obtain⟨sG,gD,ly⟩:=AC;rw[ld.1]at ly;have RL:=ly.imp λd y _ z=>z.mono hide_le;have yl:=ly.1;refine⟨p5,D,_,_,rfl,rfl,sG _ _ VA,gD,small (by show 1+_<=_;lia),λp7 MT=>?_⟩;have t7:=ae MT (.lst ([.ref p4]++ys));have s7:=Same.trans MR (Same.trans sG t7);refine⟨_,rfl,_,rfl,n,k1,k2,W1,W2,.ref a1,.ref a2,rfl,w1.mono s7,w2.mono s7,BV,AM,λrb bs G9 s9 h9 g9 l9=>?_⟩;have bl:=l9.1;refine⟨p7,rb,_,_,rfl,rfl,s9 _ _ af,g9,small (by rw[aQ];show 1+_+_<=_;lia),λp8 RM=>?_⟩;have t8:=ae RM (.lst ([.ref p4]++ys++bs));have sT:=Same.trans sG (Same.trans t7 (Same.trans s9 t8));refine q _ _ (Same.trans s7 (Same.trans s9 t8)) ⟨p8,_,rfl,af,?_⟩;rw[show k1+k2+1=1+k1+k2 by lia];refine LstP.append (k:=1+k1) (k':=k2) (LstP.append (k:=1) (k':=k1) (.one ?_) (RL.imp λd y _ z=>z.mono (Same.trans t7 (Same.trans s9 t8))) λd y hd z=>?_) (l9.imp λd y _ z=>z.mono t8) λd y hd z=>?_
  ·refine⟨p4,_,rfl,sT _ _ UY,?_⟩;refine LstP.append (k:=1+k1) (k':=k2) (LstP.append (k:=1) (k':=k1) (.one ?_) (c5 (Same.trans MR sT) HG).drop1 λc y hc z=>?_) (c5 (Same.trans MR sT) LA).drop1 λc y hc z=>?_
   ·refine⟨r0,n0,rfl,sT _ _ UZ,?_⟩;unfold nh;rw[if_pos (by lia),if_pos (by lia)];exact v1
   ·unfold nh;rw[if_pos (by lia),if_neg (by lia),if_pos (by lia),jD 1 c];exact z
   ·unfold nh;rw[if_pos (by lia),if_neg (by lia),if_neg (by lia),if_pos rfl,show 1+k1+c - (k1+1)+1=c+1 by lia];exact z
  ·rw[show 1+k1+k2=k1+k2+1 by lia];exact z
  ·rw[show 1+k1+k2=k1+k2+1 by lia];refine z.eq λc hc=>?_;unfold nh;rw[if_neg (by lia),jD k1 1]
theorem Lc:aw zyo zzt (aj As):=fsN
def Tn:gQ:={ kind:=.function,names:=[(".0",.local),("relation",.local),("one_then_other",.globalImplicit),("row",.free)],isGenerator:=false,isCoroutine:=false,more:=[] }
theorem cTw_ {CX:CXT}{f:Addr}{AF:aC}{A:cC}{outer:List Env}{s:aG}{H:Hp}{E:XK} :
  cp (bh CX P w K mg base zyo "then_ways" (aj As) f AF A outer s H E).nox zzb zyl [3] Tn [("row",s.heap.objs.size+1)]:=csN [(".0",.local),("relation",.local),("one_then_other",.globalImplicit),("row",.cell)]
theorem Rf {f:Addr}{fd:bQ}(F:Fun K "then_ways" "then_ways" As f fd)(hO:Has P w K mg base 2 "one_then_other" zzt (K9 K))
  (hB:Has P w K mg base 3 "behind" zzt yu):‹4› f fd zzt (Dr qj):=by
 obtain⟨fO,dO,GO,bO,kO,mO⟩:=hO;obtain⟨fB,dB,GB,bB,kB,mB⟩:=hB;exists F,Lc
 ·obtain⟨n,k1,k2,W1,W2,x,y,rfl,_⟩:=h;rfl
 obtain⟨n,k1,k2,W1,W2,x,y,rfl,w1,w2,BV,AM,q⟩:=h;refine⟨_,ai (bf (i:=2) Lc.nd rfl (cD rfl) (bc ag)) (ai (fh fX rfl (c7 (pv 0)) (bo (i:=3) Lc.nd rfl (oV rfl)) (ai (j5 (i0:=4) (ns:=zzb) (ys:=zyl) (sc:=Tn) Lc.nd rfl rfl cTw_ rfl (c7 (av ax (pv 1) ah (λ_ _=>rfl))) (λC s H fp=>bo (i:=0) (by show(["relation","row"]:List Str).Nodup;decide +kernel) rfl (cD rfl)) (λC s H fp=>cz) (λC s H fp=>ar GO (hr.mono (by decide)) rfl mO kO bO .nil bb (aa (av (r:=Bn K) ax (pv 1) ah (λ_ _=>rfl)) (aa (pv 0) ag)))) (ak (df (ki fG jF jG gq (pv 2) (aa (ba d9 (ba d9 (cn dq (pv 4) cy (cv ah)) (cn dq (pv 3) (cv ah) cy)) (cn dq (pv 4) (cv ah) cy)) ag)))))) (ak (az (ba d9 (pv 2) (ar GB hr rfl mB kB bB .nil bb (aa (pv 0) (aa (pv 1) ag))))))),?_⟩;dsimp only[bh,Cx.nox];obtain⟨a1,xs1,rfl,IQ,KA⟩:=id w1;obtain⟨a2,IM,rfl,K',MN⟩:=id w2;obtain⟨_,e2,b2,GG,rfl,HH,LA⟩:=MN.at (c:=0) (by lia);have RI:=LA.1;have VC:=KA.1;refine⟨sz0,λu hu=>?_⟩;refine⟨_,rfl,a1,rfl,⟨_,SqL.of (ae hu _ _ _ IQ)⟩,i7 (K:=K) (a:=a1) (xs:=xs1) (λi σ G=>∃(ys:List V)(v3 v4:Option V),σ=[some (.ref a1),some (.ref a2),some (.ref u),v3,v4]/\Same H G/\G u=some (.lst ys)/\LstP (λd=>RowAt (br G u) n (k1+k2+1) (qj n (k1+1) W1 W2 d)) i ys) ⟨[],none,none,rfl,ae hu _,af,.nil⟩ (λi σ G _ AD=>by obtain⟨_,_,_,_,sG,_⟩:=AD;exact SqL.of (sG _ _ IQ)) ?_ ?_⟩
 ·intro i x σ G hx AC;obtain⟨ys,v3,v4,rfl,sG,gu,ly⟩:=AC;generalize AJ:gg.mk _ _ _ _=BG;revert AJ BG;refine id ?_;intro BG AJ;have hi:i < k1+1:=(by rw[<-VC];exact(aM.mp hx).1);have yl:=ly.1;obtain⟨b1,DH,rfl,FL,HG⟩:=KA.2 i x hx;obtain⟨_,f1,c1,KB,rfl,IR,HF⟩:=HG.at (c:=0) (by lia);have zl1:=HG.1;refine⟨_,rfl,a2,_,_,_,rfl,rfl,SqL.of (sG _ _ K'),bp (j:=0) e2,b2,rfl,⟨_,SqL.of (sG _ _ HH)⟩,λD hD=>?_⟩;have MO:H D=none:=Same.free sG hD;refine dy (K:=K) (a:=b2) (xs:=GG) (λj us G2=>Same G G2/\G2 D=some (.lst us)/\uw (br (br G2 D) u) n j (λc=>ku n (W1 i 0) (W2 0 c)) us)
   ⟨ae hD _,af,.nil⟩ (λi ys G z=>z.2.1) (λi ys G _ z=>SqL.of (z.1 _ _ (sG _ _ HH))) ?_ ?_
  ·intro j x us G2 KC AC;obtain⟨s2,gD,lu⟩:=AC;have hj:j < k2+1:=(by rw[<-RI];exact(aM.mp KC).1);have ul:=lu.1;obtain⟨c2,RH,rfl,LB,KY⟩:=LA.2 j x KC;have sA:=Same.trans sG s2;refine⟨bj (by lia),⟨[some _],rfl,rfl⟩,?_⟩;refine⟨_,rfl,b1,_,_,_,rfl,rfl,SqL.of (sA _ _ FL),bp (j:=0) f1,_,rfl,n,c1,c2,KB,RH,_,_,rfl,SqL.of (sA _ _ IR),HF,SqL.of (sA _ _ LB),KY,AM,λr3 n3 G3 s3 h3 g3 v3=>?_⟩;have RN:r3≠D:=λe=>(by subst e;rw[gD]at h3;cases h3);refine⟨s3 _ _ gD,Same.put (Same.trans s2 s3) hD _,af,?_⟩;rw[gw];have hru:r3≠u:=λe=>(by subst e;rw[s2 _ _ gu]at h3;cases h3);exact(c5 (d6 (d6 s3)) lu).snoc ⟨r3,n3,rfl,by rw[cj hru,cj RN];exact g3,v3⟩
  ·intro us G2 AC;obtain⟨s2,gD,lu⟩:=AC;rw[RI]at lu;have ul:=lu.1;have HI:=s2 _ _ gu;have uD:u≠D:=aq gu hD;refine⟨_,rfl,.inl ⟨rfl,_,SqL.of HI⟩,?_⟩;refine⟨_,rfl,_,rfl,D,us,rfl,SqL.of gD,λp1 DM=>?_⟩;rw[Th];have t1:=ae DM (.lst (us.take 1));have sA:=Same.trans (Same.trans sG s2) t1;refine⟨_,rfl,_,rfl,b1,DH,rfl,SqL.of (sA _ _ FL),λp2 BC=>?_⟩;rw[o6];have t2:=ae BC (.lst (DH.drop 1));refine⟨p1,p2,_,_,rfl,rfl,t2 _ _ af,af,small (by rw[cK,gZ];lia),λp3 BU=>?_⟩;have t3:=ae BU (.lst (us.take 1++DH.drop 1));have RO:=Same.trans t1 (Same.trans t2 t3);refine⟨_,rfl,_,rfl,D,us,rfl,SqL.of (RO _ _ gD),λp4 F'=>?_⟩;rw[o6];have t4:=ae F' (.lst (us.drop 1));refine⟨p3,p4,_,_,rfl,rfl,t4 _ _ af,af,small (by rw[aQ,cK,gZ,gZ];lia),λp5 MQ=>?_⟩;have t5:=ae MQ (.lst (us.take 1++DH.drop 1++us.drop 1));have MU:=Same.trans RO (Same.trans t4 t5);have gu5:=MU _ _ HI;have pu:p5≠u:=λe=>(by subst e;rw[(Same.trans RO t4) _ _ HI]at MQ;cases MQ);refine⟨u,_,_,rfl,rfl,gu5,bj (by lia),?_⟩;subst AJ;refine⟨_,_,_,rfl,Same.put (Same.trans (Same.trans sG s2) MU) hu _,af,?_⟩;rw[gw];have sH:Same H (br _ u):=sx (D:=u) (Same.trans (Same.trans sG s2) MU) hu;have VD:=c5 (Same.trans (d6 (hide_le:Same (br G2 D) G2)) (d6 (D:=u) MU)) lu;refine(ly.imp λd y _ z=>z.mono (d6 (Same.trans s2 MU))).snoc ⟨p5,_,rfl,by rw[cj pu];exact af,?_⟩;have hk:k1+k2+1=1+k1+k2:=(by lia);rw[hk];refine LstP.append (k:=1+k1) (k':=k2) (LstP.append (k:=1) (k':=k1) (VD.take1.imp λc y hc z=>?_) (c5 sH HG).drop1 λc y hc z=>?_) VD.drop1 λc y hc z=>?_
   ·have:c=0:=(by lia);subst this;unfold qj;rw[if_pos hi,if_pos rfl];exact z
   ·unfold qj;rw[if_pos hi,if_neg (by lia),if_pos (by lia),jD 1 c];exact z
   ·unfold qj;rw[if_pos hi,if_neg (by lia),if_neg (by lia),show 1+k1+c - (k1+1)+1=c+1 by lia];exact z
 ·intro σ G AC;obtain⟨ys,v3,v4,rfl,sG,gu,ly⟩:=AC;rw[VC]at ly;have RL:=ly.imp λd y _ z=>z.mono hide_le;have yl:=ly.1;refine⟨_,rfl,_,rfl,_,rfl,n,k1,k2,W1,W2,.ref a1,.ref a2,rfl,w1.mono sG,w2.mono sG,BV,AM,λrb bs G9 s9 h9 g9 l9=>?_⟩;have bl:=l9.1;refine⟨u,rb,_,_,rfl,rfl,s9 _ _ gu,g9,small (by lia),λp8 RM=>?_⟩;have t8:=ae RM (.lst (ys++bs));refine q _ _ (Same.trans sG (Same.trans s9 t8)) ⟨p8,_,rfl,af,?_⟩;rw[show k1+k2+1=k1+1+k2 by lia];refine LstP.append (k:=k1+1) (k':=k2) (RL.imp λd y hd z=>?_) (l9.imp λd y _ z=>z.mono t8) λd y hd z=>?_
  ·rw[show k1+1+k2=k1+k2+1 by lia];exact z.mono (Same.trans s9 t8)
  ·rw[show k1+1+k2=k1+k2+1 by lia];refine z.eq λc hc=>?_;unfold qj;rw[if_neg (by lia)]
end
def o7 (n:Nat)(Wr:Nat->Rl)(A:Rl)(W0:Nat->Rl)(c:Nat):Rl:=if c=0 then ku n (Wr 0) A else orR n (Wr c) (ku n (ku n (Wr 0) A) (W0 c))
def To:Sp:=λvs H Q _=>∃(n k:Nat)(Wr W0:Nat->Rl) (A:Rl) (x y z:V),vs=[x,y,z]/\RowAt H n (k+1) Wr x/\RelAt H n A y/\RowAt H n (k+1) W0 z/\k<=300/\n<=300/\
 ∀(r:Addr)(xs:List V) (H':Hp),Same H H'->H r=none->H' r=some (.lst xs)->uw (br (jr H H') r) n (k+1) (o7 n Wr A W0) xs->Q (.ref r) H'
def Tp:Sp:=λvs H Q _=>∃(n k:Nat)(W:Nat->Nat->Rl) (x:V),vs=[x]/\WaysAt H n (k+1) W x/\k<=300/\n<=300/\Fp n (k+1) (wa n W) H Q
section
variable {P:aU}{w:aZ}{K:aB}{mg:Str->Option aC}{base:Heap}
theorem Rg:aw zyn zyq (aj xt):=fsN
def Tq:gQ:={ kind:=.function,names:=[(".0",.local),("old",.local),("begun",.local),("either_of",.globalImplicit),("one_then_other",.globalImplicit),("ended",.free)],isGenerator:=false,isCoroutine:=false,more:=[] }
theorem cAr_ {CX:CXT}{f:Addr}{AF:aC}{A:cC}{outer:List Env}{s:aG}{H:Hp}{E:XK} :
  cp (bh CX P w K mg base zyn "again_row" (aj xt) f AF A outer s H E).nox ["old","begun"] ["ended"] [3] Tq [("ended",s.heap.objs.size+1)]:=csN [(".0",.local),("old",.local),("begun",.local),("either_of",.globalImplicit),("one_then_other",.globalImplicit),("ended",.cell)]
theorem Yh {f:Addr}{fd:bQ}(F:Fun K "again_row" "again_row" xt f fd)(hO:Has P w K mg base 2 "one_then_other" zzt (K9 K))(hE:Has P w K mg base 1 "either_of" zzm (Az K))(mz:mg "zip"=none) :
  ‹3› f fd zyq To:=by
 obtain⟨fO,dO,GO,bO,kO,mO⟩:=hO;obtain⟨fE,dE,GE,bE,kE,mE⟩:=hE;exists F,Rg
 ·obtain⟨n,k,Wr,W0,R,x,y,z,rfl,_⟩:=h;rfl
 obtain⟨n,k,Wr,W0,R,x,y,z,rfl,wr,wy,w0,BV,AM,q⟩:=h;refine⟨_,ai (bf (i:=3) Rg.nd rfl (oV rfl) (ar GO hr rfl mO kO bO .nil bb (aa (av ax (pv 0) ah (λ_ _=>rfl)) (aa (pv 1) ag)))) (ai (j5 (i0:=4) (ns:=["old","begun"]) (ys:=["ended"]) (sc:=Tq) Rg.nd rfl rfl cAr_ rfl (B5 rfl mz (aa (cn dq (pv 0) (cv ah) cy) (aa (cn dq (pv 2) (cv ah) cy) ag))) (λC s H fp=>pg2 rfl) (λC s H fp=>cz) (λC s H fp=>ar GE (hr.mono (by decide)) rfl mE kE bE .nil bb (aa (pv 0) (aa (ar GO hr rfl mO kO bO .nil bb (aa (pv 2) (aa (pv 1) ag))) ag)))) (ak (az (ba d9 (bc (aa (pv 3) ag)) (pv 4))))),?_⟩;dsimp only[bh,Cx.nox];obtain⟨b,zs,rfl,gb,lb⟩:=wr;obtain⟨c,ns,rfl,gc,rc⟩:=wy;obtain⟨b0,HJ,rfl,IP,EZ⟩:=w0;obtain⟨_,e1,c1,KB,rfl,IR,HF⟩:=lb.at (c:=0) (by lia);have zl:=lb.1;have zl0:=EZ.1;refine⟨_,rfl,b,_,_,_,rfl,rfl,SqL.of gb,bp (j:=0) e1,_,rfl,n,c1,c,KB,ns,_,_,rfl,SqL.of IR,HF,SqL.of gc,rc,AM,λr1 n1 G1 s1 h1 g1 v1=>?_⟩;refine⟨_,rfl,_,rfl,b,zs,rfl,SqL.of (s1 _ _ gb),λp1 DM=>?_⟩;rw[o6];have t1:=ae DM (.lst (zs.drop 1));refine⟨_,rfl,_,rfl,b0,HJ,rfl,SqL.of ((Same.trans s1 t1) _ _ IP),λp2 BC=>?_⟩;rw[o6];have t2:=ae BC (.lst (HJ.drop 1));have s2:=Same.trans s1 (Same.trans t1 t2);have HK:=(Same.trans t1 t2) _ _ g1;refine⟨p1,p2,_,_,rfl,SqL.of (t2 _ _ af),SqL.of af,λD hD=>?_⟩;have VE:(upd (upd G1 p1 (.lst (zs.drop 1))) p2 (.lst (HJ.drop 1))) p1=some (.lst (zs.drop 1)):=t2 _ _ af;have VF:(upd (upd G1 p1 (.lst (zs.drop 1))) p2 (.lst (HJ.drop 1))) p2=some (.lst (HJ.drop 1)):=af;generalize upd (upd G1 p1 (.lst (zs.drop 1))) p2 (.lst (HJ.drop 1))=G2 at s2 HK hD VE VF ⊢;have ld:=lb.drop1;have VG:=EZ.drop1;refine vz (K:=K) (a:=p1) (b:=p2) (xs:=zs.drop 1) (ws:=HJ.drop 1) (by rw[ld.1,VG.1]) (λi ys G=>Same G2 G/\G D=some (.lst ys)/\uw (br (jr H G) D) n i (λc=>o7 n Wr R W0 (c+1)) ys)
  ⟨ae hD _,af,.nil⟩ (λi ys G z=>z.2.1) (λi ys G _ z=>⟨SqL.of (z.1 _ _ VE),SqL.of (z.1 _ _ VF)⟩) ?_ ?_ ?_
 ·intro i ys G hi AC;obtain⟨sG,gD,ly⟩:=AC;have yl:=ly.1;rw[ld.1]at hi;exact bj (by lia)
 ·intro i x y t ys G hx hy AC ht;obtain⟨sG,gD,ly⟩:=AC;obtain⟨c3,ns3,rfl,gc3,rv3⟩:=(ld.2 i x hx).mono (Same.trans s2 sG);obtain⟨c4,ns4,rfl,gc4,rv4⟩:=(VG.2 i y hy).mono (Same.trans s2 sG);have tt:=ae ht (.tup [.ref c3,.ref c4]);refine⟨t,_,rfl,SqT.of af,rfl,_,_,rfl,_,_,rfl,rfl,⟨[some _,some _],rfl,rfl⟩,?_⟩;refine⟨_,rfl,_,rfl,_,rfl,n,r1,c4,n1,ns4,_,_,rfl,SqL.of ((Same.trans sG tt) _ _ HK),v1,SqL.of (tt _ _ gc4),rv4,AM,λr5 n5 G5 s5 h5 g5 v5=>?_⟩;have s3:=Same.trans tt s5;refine⟨n,c3,r5,ns3,n5,_,_,rfl,SqL.of (s3 _ _ gc3),rv3,SqL.of g5,v5,AM,λr6 n6 G6 s6 h6 g6 v6=>?_⟩;have s4:=Same.trans s3 s6;have RN:r6≠D:=λe=>(by subst e;rw[s3 _ _ gD]at h6;cases h6);refine⟨s4 _ _ gD,Same.put (Same.trans sG s4) hD _,af,?_⟩;rw[Oc];refine(c5 (d6 (Cw s4)) ly).snoc ⟨r6,n6,rfl,by rw[cj RN,B8 (Same.free (Same.trans s2 (Same.trans sG s3)) h6)];exact g6,?_⟩;show RelP n n6 (o7 n Wr R W0 (i+1));unfold o7;rw[if_neg (by lia)];exact v6
 ·intro ys G AC;obtain⟨sG,gD,ly⟩:=AC;rw[ld.1]at ly;have yl:=ly.1;refine⟨_,rfl,sz1,λp3 BU=>?_⟩;have t3:=ae BU (.lst [.ref r1]);refine⟨_,rfl,p3,D,_,_,rfl,rfl,af,t3 _ _ gD,small (by show 1+_<=_;lia),λp4 F'=>?_⟩;have t4:=ae F' (.lst ([.ref r1]++ys));have RP:=Same.trans t3 t4;have sT:=Same.trans s2 (Same.trans sG RP);have HL:G p4=none:=Same.free t3 F';refine q p4 _ _ sT (Same.free (Same.trans s2 sG) HL) af ?_;rw[jD k 1];have VH:jr H G p4=none:=by
   cases e:jr H G p4 with
   |none=>rfl
   |some o=>rw[(qi e).2]at HL;cases HL
  refine LstP.append (k:=1) (k':=k) (.one ⟨r1,n1,rfl,?_,?_⟩) (c5 (Same.trans hide_le (sx (Cw RP) VH)) ly) λc y hc z=>?_
  ·rw[cj (aq HK (Same.free sG HL)),B8 h1];exact(Same.trans sG RP) _ _ HK
  ·unfold o7;rw[if_pos rfl];exact v1
  ·rw[jD 1 c];exact z
theorem Rh:aw ["ways","anew","rows"] zyp (aj xr):=fsN
def Tr:gQ:={ kind:=.function,names:=[(".0",.local),("row",.local),("again_row",.globalImplicit),("anew",.free),("ways",.free)],isGenerator:=false,isCoroutine:=false,more:=[] }
theorem cAw_ {CX:CXT}{f:Addr}{AF:aC}{A:cC}{outer:List Env}{s:aG}{H:Hp}{E:XK} :
  cp (bh CX P w K mg base ["ways","anew","rows"] "again_ways" (aj xr) f AF A outer s H E).nox zyl ["anew","ways"] [1,0] Tr [("ways",s.heap.objs.size+1),("anew",s.heap.objs.size+1+1)]:=csN [(".0",.local),("row",.local),("again_row",.globalImplicit),("anew",.cell),("ways",.cell)]
theorem Yi {f:Addr}{fd:bQ}(F:Fun K "again_ways" "again_ways" xr f fd)(hA:Has P w K mg base 2 "again_and_again" zzb (Dq Star K))(hR:Has P w K mg base 3 "again_row" zyq To) :
  ‹4› f fd zyp Tp:=by
 obtain⟨fA,dA,GA,bA,kA,mA⟩:=hA;obtain⟨fR,dR,GR,bR,kR,mR⟩:=hR;exists F,Rh
 ·obtain⟨n,k,W,x,rfl,_⟩:=h;rfl
 obtain⟨n,k,W,x,rfl,w1,BV,AM,q⟩:=h;refine⟨_,ai (bf (i:=1) Rh.nd rfl (oV rfl) (ar GA (hr.mono (by decide)) rfl mA kA bA .nil bb (aa (av ax (av ax (pv 0) ah (λ_ _=>rfl)) ah (λ_ _=>rfl)) ag))) (ai (j5 (i0:=2) (ns:=zyl) (ys:=["anew","ways"]) (sc:=Tr) Rh.nd rfl rfl cAw_ rfl (c7 (pv 0)) (λC s H fp=>bo (i:=0) (by show(["row","anew","ways"]:List Str).Nodup;decide +kernel) rfl (cD rfl)) (λC s H fp=>cz) (λC s H fp=>ar GR hr rfl mR kR bR .nil bb (aa (pv 0) (aa (pv 1) (aa (av (r:=Bn K) ax (pv 2) ah (λ_ _=>rfl)) ag))))) (ai (vj (pv 1) (Mb (av ax (pv 2) ah (λ_ _=>rfl)) ah D8)) (ak (az (pv 2))))),?_⟩;dsimp only[bh,Cx.nox];obtain⟨a,xs,rfl,ga,la⟩:=id w1;obtain⟨_,e0,b0,HJ,rfl,IP,EZ⟩:=la.at (c:=0) (by lia);obtain⟨_,f0,c0,ns0,rfl,gc0,rv0⟩:=EZ.at (c:=0) (by lia);have xl:=la.1;refine⟨_,rfl,a,_,_,_,rfl,rfl,SqL.of ga,bp (j:=0) e0,b0,_,_,_,rfl,rfl,SqL.of IP,bp (j:=0) f0,n,c0,ns0,_,rfl,SqL.of gc0,rv0,AM,λr1 n1 G1 s1 h1 g1 v1=>?_⟩;refine⟨_,rfl,a,rfl,⟨_,SqL.of (s1 _ _ ga)⟩,λD hD=>?_⟩;refine dy (K:=K) (a:=a) (xs:=xs) (λi ys G=>Same G1 G/\G D=some (.lst ys)/\((i=0/\ys=[])\/∃(b:Addr)(us rest:List V),i=rest.length+1/\ys=.ref b::rest/\G1 b=none/\b≠D/\G b=some (.lst us)/\uw (br (br G D) b) n (k+1) (o7 n (W 0) (Star n (W 0 0)) (W 0)) us/\LstP (λd=>RowAt (br (br G D) b) n (k+1) (o7 n (W (d+1)) (Star n (W 0 0)) (W 0))) rest.length rest))
  ⟨ae hD _,af,.inl ⟨rfl,rfl⟩⟩ (λi ys G z=>z.2.1) (λi ys G _ z=>SqL.of (z.1 _ _ (s1 _ _ ga))) ?_ ?_
 ·intro i x ys G hx AC;obtain⟨sG,gD,MV⟩:=AC;have hi:i < k+1:=(by rw[<-xl];exact(aM.mp hx).1);have sA:=Same.trans s1 sG;have yl:ys.length=i:=by
   rcases MV with⟨rfl,rfl⟩ | ⟨b,us,rest,e,rfl,_⟩
   ·rfl
   ·rw[e];rfl
  refine⟨bj (by lia),⟨[some _],rfl,rfl⟩,?_⟩;refine⟨_,rfl,_,rfl,_,rfl,a,_,_,_,rfl,rfl,SqL.of (sA _ _ ga),bp (j:=0) e0,n,k,W i,W 0,_,x,.ref r1,.ref b0,rfl,(la.2 i x hx).mono sA,⟨r1,n1,rfl,sG _ _ g1,v1⟩,⟨b0,HJ,rfl,sA _ _ IP,c5 sA EZ⟩,BV,AM,λr us G2 s2 h2 g2 l2=>?_⟩;have rD:r≠D:=λe=>(by subst e;rw[gD]at h2;cases h2);refine⟨s2 _ _ gD,Same.put (Same.trans sG s2) hD _,af,.inr ?_⟩;rcases MV with⟨rfl,rfl⟩ | ⟨b,RQ,rest,e,rfl,hb,bD,gb,lu,lr⟩
  ·refine⟨r,us,[],rfl,rfl,Same.free sG h2,rD,by rw[ao rD];exact g2,?_,.nil⟩;rw[gw];exact c5 (d6 (v8 gD Iv)) l2
  ·have rb:r≠b:=λe=>(by subst e;rw[gb]at h2;cases h2);refine⟨b,RQ,rest++[.ref r],(by rw[aQ,e];rfl),rfl,hb,bD,(by rw[ao bD];exact s2 _ _ gb),?_,?_⟩
   ·rw[gw];exact c5 (d6 (d6 s2)) lu
   ·rw[gw,aQ];refine(lr.imp λd y _ z=>z.mono (d6 (d6 s2))).snoc ⟨r,us,rfl,by rw[cj rb,cj rD];exact g2,?_⟩;have ei:W (rest.length+1)=W i:=(by rw[e]);rw[ei];exact c5 (Same.trans hide_le (v8 gb (v8 gD Iv))) l2
 ·intro ys G AC;obtain⟨sG,gD,MV⟩:=AC;rw[xl]at MV;rcases MV with⟨z,_⟩ | ⟨b,us,rest,e,rfl,hb,bD,gb,lu,lr⟩
  ·lia
  have ul:=lu.1;have er:rest.length=k:=(by lia);refine⟨_,rfl,_,rfl,D,_,_,_,rfl,rfl,SqL.of gD,bp (j:=0) rfl,b,us,0,0,rfl,rfl,gb,?_,?_⟩
  ·unfold ixN;rw[ul,if_pos (by decide),if_pos (by lia)];rfl
  have hbH:H b=none:=Same.free s1 hb;refine⟨_,rfl,q _ _ (Same.put (Same.trans s1 sG) hbH _) ⟨D,.ref b::rest,rfl,by rw[ao (Ne.symm bD)];exact gD,?_⟩⟩;have sP:Same (br (br G D) b) (upd G b (.lst (us.set 0 (.ref r1)))):=λc o z=>by
   have hc:c≠b:=λw=>(by subst w;unfold br at z;rw[if_pos rfl]at z;cases z);rw[ao hc];exact hide_le _ _ (hide_le _ _ z)
  have BE:r1≠b:=aq g1 hb;rw[jD k 1];refine LstP.append (k:=1) (k':=k) (xs:=[.ref b]) (.one ⟨b,_,rfl,af,?_⟩) (er ▸ lr) λd y hd z=>?_
  ·rw[jD 1 k];refine LstP.set lu ⟨r1,n1,rfl,by rw[ao BE];exact sG _ _ g1,?_⟩ λc y hc h0 z=>?_
   ·unfold wa;rw[if_pos rfl,if_pos rfl];exact v1
   ·unfold wa;unfold o7 at z;rw[if_neg h0]at z ⊢;exact z.mono sP
  ·rw[jD 1 k];refine(z.mono sP).eq λc hc=>?_;unfold wa o7;rw[jD 1 d];by_cases h0:c=0
   ·rw[if_pos h0,if_pos h0,if_neg (by lia)]
   ·rw[if_neg h0,if_neg h0]
end
end S63
namespace L2
open PySem PySem.Spec PyProof.Rows
def Itv (K:aB)(a:Addr)(n:Nat):It:=
 ⟨λi H=>∃xs x,SqL K H a xs/\xs.length=n/\i < n/\xs[n - 1 - i]?=some x,λi H x H'=>H'=H/\∀xs,SqL K H a xs->xs[n - 1 - i]?=some x,λi _=>n<=i⟩
theorem Ri {P:aU}{w:aZ}{K:aB}{tg:Expr}(a it:Addr)(n:Nat):qr P w K tg (Itv K a n) [it] it (λi h=>i<=n/\h.IsRevIter it a ((n:Int) - 1 - (i:Int))) where
 mem:=by simp
 obj:=λi h st b hb=>by
  have e:b=it:=(by simpa using hb);subst e;obtain⟨_,o,e,c,d⟩:=st;exact⟨o,e,λv z=>by rw[d]at z;cases z⟩
 keep:=λi h h' st k=>⟨st.1,st.2.at λo e=>k it (by simp) o e⟩
 item:=by
  intro X hP hw hK hc i f' s σ H E I hf st hg;subst hP hw hK;obtain⟨xs,x,hq,hl,hi,hx⟩:=hg;obtain⟨its,rv,p,hz⟩:=I.list hq;obtain⟨u,hu,ru⟩:=rv.get hx;obtain⟨f0,f1,f2,f3,f4,f5⟩:=hf it (by simp);have e:(n:Int) - 1 - (i:Int)=((n - 1 - i:Nat):Int):=(by lia);have EM:=st.2;rw[e]at EM;refine wpAny_pyNext_rev_item EM p.isList (x:=u) (by simpa using hu) λh' CI sb=>?_;have e2:((n - 1 - i:Nat):Int) - 1=(n:Int) - 1 - ((i+1:Nat):Int):=(by lia);rw[e2]at CI;have I1:Inv X f' σ H { s with heap:=h' }:=I.turned (t':=s.toks) (λb o hb e=>(sb.2 b hb).trans e) f0 f1 f3 f4 f5;obtain⟨o,e,c,d⟩:=id CI;exact⟨u,rfl,zy (s:={ s with heap:=h' }) e c d (by decide) ⟨x,H,I1,ru,⟨rfl,λys hy=>by rw[I.list_inj hy hq];exact hx⟩,⟨hi,CI⟩,λb hb=>(hf b hb).1⟩⟩
 done:=by
  intro X hP hw hK hc i f' s σ H E I hf st hg;subst hP hw hK;have OW:n<=i:=hg;obtain⟨f0,f1,f2,f3,f4,f5⟩:=hf it (by simp);have e:(n:Int) - 1 - (i:Int)=-1:=(by have:=st.1;lia);have EM:=st.2;rw[e]at EM;exact wpAny_pyNext_rev_end (I.ok.hd hc) EM λh' eb=>⟨rfl,I.turned (t':=s.toks) (λb o hb e=>eb b o hb e) f0 f1 f3 f4 f5⟩
 self:=λ_ _ _ _ _ st h=>wpAny_pyIter_revIter st.2 h
section
variable {X:Cx}
def iRev (K:aB)(ta:TA):TI:=λσ H R=>ta σ H λvs H1=>∃a xs,vs=[.ref a]/\SqL K H1 a xs/\R (Itv K a xs.length) H1
theorem Yj {tg e1:Expr}{ta:TA}{p pos:Pos}(hg:Gl X "reversed")(hm:X.mg "reversed"=none)(ha:PA X [e1] ta)(hs:cJ [e1] X.env=[(false,eval e1 X.env)]:=by rfl)
  (BL:cJ [] X.env=[]:=by rfl):PI X tg (.Call (.Name "reversed" p) [e1] [] pos) (iRev X.K ta):=by
 intro f' s σ H R I h;refine Call_ (iw I hg hm (by kernel_rfl:jK (hX "reversed")=some (.type "reversed")) (gW (thn (ha pos f' s σ H _ I h) λus s1 ⟨vs,H1,I1,r1,q1⟩=>?_) (by rw[hs,BL]) (by rw[BL];rfl)));obtain⟨a,xs,e,hx,q⟩:=q1;subst e;obtain⟨u,rfl,ru⟩:=j9 r1;cases(show u=bZ a from ru);obtain⟨its,k1,p1,_⟩:=I1.list hx;have l1:=k1.length;refine call_reversed_list (p1.isList) ?_;have e:((its.toArray.size:Nat):Int) - 1=((xs.length:Nat):Int) - 1 - ((0:Nat):Int):=(by simp;lia);rw[e];have rv:(s1.heap.push (revObj a (((xs.length:Nat):Int) - 1 - ((0:Nat):Int)))).IsRevIter s1.heap.objs.size a (((xs.length:Nat):Int) - 1 - ((0:Nat):Int)):=⟨_,aY _ rfl,rfl,rfl⟩;refine wpAny_pyIter_revIter rv ?_;refine⟨s1.heap.objs.size,[s1.heap.objs.size],_,_,H1,rfl,I1.kept (t':=s1.toks) λb o e=>aI _ e,Ri a _ xs.length,⟨gO _,rv⟩,λb hb=>?_,q⟩;have e:b=s1.heap.objs.size:=(by simpa using hb);subst e;exact I1.fpOk (aN _) (I1.hok.fresh (aN _))
end
theorem V6 {K:aB}{a:Addr}{xs:List V}{g:TG}{tb:TS}{D:gg}{σ:St}{H:Hp}(Pv:Nat->St->Hp->Prop)(h0:Pv 0 σ H)(hl:∀i σ H,i<=xs.length->Pv i σ H->SqL K H a xs)
  (hs:∀i x σ H,xs.reverse[i]?=some x->Pv i σ H->g x σ H λσ2 H2=>tb { D with nx:=Pv (i+1),ct:=Pv (i+1),bk:=D.nx } σ2 H2) (hd:∀σ H,Pv xs.length σ H->D.nx σ H) :
  ∃W:Nat->Nat->St->Hp->Prop,(∃m,W 0 m σ H)/\∀i m σ H,W i m σ H->
   ((Itv K a xs.length).stop i H/\D.nx σ H)\/((Itv K a xs.length).go i H/\∃N:St->Hp->Prop,(∀σ' H',N σ' H'->∃m',m' < m/\W (i+1) m' σ' H')/\∀x H',(Itv K a xs.length).yld i H x H'->g x σ H' λσ2 H2=>tb { D with nx:=N,ct:=N,bk:=D.nx } σ2 H2):=by
 refine⟨λi m σ H=>i+m=xs.length/\Pv i σ H,⟨xs.length,by lia,h0⟩,?_⟩;intro i m σ H AC;obtain⟨e,p⟩:=AC;have q1:=hl i σ H (by lia) p;by_cases hi:i < xs.length
 ·have ex:xs[xs.length - 1 - i]?=some xs[xs.length - 1 - i]:=aK (by lia);refine .inr ⟨⟨xs,_,q1,rfl,hi,ex⟩,Pv (i+1),λσ' H' p'=>⟨m - 1,by lia,by lia,p'⟩,?_⟩;intro x H' AC;obtain⟨rfl,eu⟩:=AC;exact hs i x σ _ (by rw[sX hi];exact eu xs q1) p
 ·have e':i=xs.length:=(by lia);subst e';exact .inl ⟨aN _,hd σ H p⟩
section
variable {X:Cx}{f':List (Addr×Obj)}{σ:St}{H:Hp}{s:aG}
theorem A0 {prog:aU}{w:aZ}:∀{x:List Int}{its:List aC},Vals (x.map V.int) its->PySem.ItemsAre (gE prog w) x its
 | [],_,r=>by cases r;exact .nil
 |n::x,_,r=>by
  cases r with
  |cons h t=>
   obtain⟨tk,rfl⟩:=(show ∃t,_=oR n t from h);exact .cons (by show pE n (oR n tk)=true;simp[pE]) (A0 t)
theorem Inv.key (I:Inv X f' σ H s)(prog:aU)(w:aZ){a:Addr}{x:List Int}(h:SqT X.K H a (x.map V.int)):fZ (gE prog w) s.heap x a:=by
 obtain⟨its,r,p,_⟩:=I.tuple h;obtain⟨o,h1,h2,n,h3⟩:=p;exact⟨o,its.toArray,n,h1,h2,h3,by simpa using A0 r⟩
theorem Inv.eqT (I:Inv X f' σ H s){A:cC}(hu:A.units < jH){a b:Addr}{x y:List Int}(ha:SqT X.K H a (x.map V.int))(hb:SqT X.K H b (y.map V.int)):zQ A s (.ref a) (.ref b) (decide (x=y)):=
 λprog w _ _ hq=>uS hu (I.key prog w ha) (I.key prog w hb) hq
theorem Inv.tup_inj (I:Inv X f' σ H s){a:Addr}{x y:List Int}(ha:SqT X.K H a (x.map V.int))(hb:SqT X.K H a (y.map V.int)):x=y:=
 (I.key X.prog X.w ha).inj (I.key X.prog X.w hb)
def Iy (K:aB):V->List V->Hp->VK->Prop:=λx vs H Q=>∃(a b:Addr)(xs:List V) (ls:List (List Int)) (l:List Int),x=.ref a/\vs=[.ref b]/\SqL K H a xs/\Paired (λy m=>∃c,y=.ref c/\SqT K H c (m.map V.int)) xs ls/\
 SqT K H b (l.map V.int)/\l∈ls/\Q (.int (ls.idxOf l:Nat)) H
theorem j6 {α β:Type}{F:α->β->Prop}:∀{xs:List α}{ys:List β},Paired F xs ys->∀{i:Nat}{x:α},xs[i]?=some x->∃y,ys[i]?=some y/\F x y
 |_,_,.nil,i,x,e=>by simp at e
 |_,_,.cons h _,0,x,e=>by simp at e;subst e;exact⟨_,rfl,h⟩
 |_,_,.cons _ t,i+1,x,e=>by simpa using j6 t (i:=i) (x:=x) (by simpa using e)
theorem Oe {α:Type}[BEq α][LawfulBEq α]{l:α}:∀{ls:List α}{m:Nat},m < ls.idxOf l->∀(hm:m < ls.length),ls[m]≠l
 | [],m,h,hm=>absurd hm (pB _)
 |x::xs,m,h,hm=>by
  rw[List.idxOf_cons]at h;by_cases e:x == l
  ·rw[e]at h;exact absurd h (pB _)
  ·have e':(x == l)=false:=(by simpa using e);rw[e']at h;cases m with
   |zero=>simpa using e
   |succ m=>exact Oe (ls:=xs) (m:=m) (by simpa using h) (by simpa using hm)
open Classical in
theorem Fs (hu:X.A.units+8 < jH):MtM X "list.index" (Iy X.K):=by
 intro f' s σ H x vs v us Q I rx rv h;obtain⟨a,b,xs,ls,l,rfl,rfl,hx,hp,hb,hm,q⟩:=h;cases rx;obtain⟨u,rfl,ru⟩:=j9 rv;cases(show u=bZ b from ru);obtain⟨its,r,p,hz⟩:=I.list hx;obtain⟨⟨cls,dd,data,sl⟩,ho,hc,n,hd⟩:=p.isList;simp only at hc hd;subst hc hd;have AG:xs.length=ls.length:=Paired.length hp;have hil:=r.length;have hj:ls.idxOf l < ls.length:=rC.mpr hm
 let e:aC->Bool:=λy=>decide (∃c,y=.ref c/\SqT X.K H c (l.map V.int))
 have key:∀(m:Nat)(hm:m < its.length) (MW:m < ls.length),(∃c,its[m]=.ref c/\SqT X.K H c (ls[m].map V.int))/\e its[m]=decide (ls[m]=l):=λm hm MW=>by
  have VI:xs[m]?=some (xs[m]'(by lia)):=aK (by lia);obtain⟨y,ey,c,ec,sc⟩:=j6 hp VI;obtain⟨w,ew,EU⟩:=r.get VI;rw[aK MW]at ey;rw[aK hm]at ew;cases ey;have ew':its[m]=w:=cZ ew;rw[ec]at EU;have VJ:its[m]=.ref c:=ew'.trans EU;refine⟨⟨c,VJ,sc⟩,?_⟩;show decide (∃c',its[m]=.ref c'/\SqT X.K H c' (l.map V.int))=decide (ls[m]=l);rw[decide_eq_decide,VJ];constructor
  ·intro AC;obtain⟨c',e1,s1⟩:=AC;cases e1;exact I.tup_inj sc s1
  ·intro e1;exact⟨c,rfl,by rw[<-e1];exact sc⟩
 have hb63:=pj;refine rJ rV ⟨_,ho,rfl⟩ PySem.F.entry_list_index (PySem.F.args_list_index_2 _ _)
  (SeqAt.list_indexAt a its.toArray n dd sl (.ref b) e (ls.idxOf l) (by simp;lia) (by lia) ?_ ?_) ⟨ho,λy hy=>?_,⟨.int _,H,I.tok _,⟨_,rfl⟩,q⟩⟩
 ·rw[uB,(key _ (by lia) hj).2];simp[uT]
 ·intro m hms AZ;rw[uB,(key m (by simpa using hms) (by lia)).2];rw[decide_eq_false_iff_not];exact λe1=>Oe AZ (by lia) e1
 ·obtain⟨m,hm,rfl⟩:=Array.mem_iff_getElem.mp hy;have MX:m < its.length:=(by simpa using hm);obtain⟨⟨c,ec,sc⟩,ee⟩:=key m MX (by lia);rw[uB,ee,ec];refine I.eqT ?_ sc hb;show X.A.units+1 < jH;lia
theorem Of {K:aB}(hK:X.K=K)(hu:X.A.units+8 < jH):MtR X "list.index" (Iy K):=by
 subst hK;exact Fs hu
theorem Yk {K:aB}{T:String}{name:Str}{id:String}{r:V->List V->Hp->VK->Prop}{o e:Expr}{es:List Expr}{to:TE}{t:TA}{AX AN:Pos}(hK:X.K=K)(pa:xN T)(slot:Slot T name id)(JI:zR (.builtin id)=pure (.type "method_descriptor"))(hm:MtR X id r)(ho:PE X o to)(ha:PA X (e::es) t)
  (BY:nP o name X.env (eval o X.env)=eval o X.env:=by rfl)
  (JJ:((jU AN (cJ (e::es) X.env)).all (λx=>!x.1) && (vS AN (sE [] X.env)).all (λx=>x.1.isSome) && decide ((e::es).length+([]:List vM).length+(if ([]:List vM).isEmpty then 0 else 1) < 30))=true:=by rfl)
  (BZ:(AX.endLine == AN.line)=true:=by rfl) (hs:cJ (e::es) X.env=(false,eval e X.env)::cJ es X.env:=by rfl) (DQ:(jU AN (cJ es X.env)).any (·.1)=false:=by rfl) :
  PE X (.Call (.Attribute o name AX) (e::es) [] AN) (tBM K T r to t):=by
 subst hK;exact ki pa slot JI hm ho ha BY JJ BZ hs DQ
theorem V7 {K:aB}{T:String}{name:Str}{id:String}{r:V->List V->Hp->VK->Prop}{o:Expr}{to:TE}{AX AN:Pos}(hK:X.K=K)(pa:xN T)(slot:Slot T name id)(JI:zR (.builtin id)=pure (.type "method_descriptor"))(hm:MtR X id r)(ho:PE X o to)
  (BY:nP o name X.env (eval o X.env)=eval o X.env:=by rfl) (BZ:(AX.endLine == AN.line)=true:=by rfl):PE X (.Call (.Attribute o name AX) [] [] AN) (Xm K T r to):=by
 subst hK;exact Ai pa slot JI hm ho BY BZ
end
end L2
namespace S1
theorem B9 {AL:List (List Int)}{c:Nat}{m:List Int}:m∈longer AL c↔∃l∈AL,∃v:Nat,v < c/\m=l++[(v:Int)]:=by
 constructor
 ·exact oz
 ·intro AC;obtain⟨l,hl,v,hv,rfl⟩:=AC;exact List.mem_flatMap.mpr ⟨l,hl,List.mem_map.mpr ⟨v,iW.mpr hv,rfl⟩⟩
def Ld (cs:List Nat)(l:List Int):Prop:=l.length=cs.length/\∀(i:Nat)(v:Int),l[i]?=some v->∃c,cs[i]?=some c/\0<=v/\v < (c:Int)
theorem Cy {cs:List Nat}{c:Nat}{l:List Int}{v:Int}:Ld (cs++[c]) (l++[v])↔Ld cs l/\0<=v/\v < (c:Int):=by
 constructor
 ·intro AC;obtain⟨h1,h2⟩:=AC;have hl:l.length=cs.length:=(by simpa using h1);refine⟨⟨hl,λi u hi=>?_⟩,?_⟩
  ·have AZ:=(aM.mp hi).1;obtain⟨d,hd,r⟩:=h2 i u (by rw[eK AZ];exact hi);rw[eK (by lia)]at hd;exact⟨d,hd,r⟩
  ·obtain⟨d,hd,r⟩:=h2 l.length v (by simp);rw[hl]at hd;have:c=d:=(by simpa using hd);subst this;exact r
 ·intro AC;obtain⟨⟨h1,h2⟩,h3⟩:=AC;refine⟨by simp[h1],λi u hi=>?_⟩;rcases Nat.lt_trichotomy i l.length with q | q | q
  ·rw[eK q]at hi;obtain⟨d,hd,r⟩:=h2 i u hi;exact⟨d,by rw[eK (by lia)];exact hd,r⟩
  ·subst q;have e:v=u:=(by simpa using hi);subst e;exact⟨c,by rw[h1];simp,h3⟩
  ·rw[jW (by rw[aQ,gK];lia)]at hi;cases hi
theorem Hm (cs:List Nat)(l:List Int):l∈fk cs↔Ld cs l:=by
 suffices z:∀(ds:List Nat)(l:List Int),l∈fk ds.reverse↔Ld ds.reverse l by
  have:=z cs.reverse l
  rwa [nW]at this
 intro ds
 induction ds with
 |nil=>
  intro l;show l∈[[]]↔_;rw[List.mem_singleton];constructor
  ·rintro rfl;exact⟨rfl,λi v e=>by simp at e⟩
  ·rintro⟨h,_⟩;exact oN.mp h
 |cons c cs ih=>
  intro l;rw[lZ,vq,B9];constructor
  ·intro AC;obtain⟨m,hm,v,hv,rfl⟩:=AC;exact Cy.mpr ⟨(ih m).mp hm,by lia,by lia⟩
  ·intro h;have hl:l≠[]:=λe=>(by rw[e]at h;have:=h.1;simp at this);obtain⟨m,v,rfl⟩:∃m v,l=m++[v]:=⟨l.dropLast,l.getLast hl,(List.dropLast_concat_getLast hl).symm⟩;obtain⟨h1,h2,h3⟩:=Cy.mp h;exact⟨m,(ih m).mpr h1,v.toNat,by lia,by rw[Int.toNat_of_nonneg h2]⟩
theorem Yl {a b:List Int}(h:HT.lexLt a b=true):a≠b:=by
 intro AC;subst AC
 induction a with
 |nil=>cases h
 |cons x r ih=>rw[HT.lexLt_cons,if_pos rfl]at h;exact ih h
theorem vb (cs:List Nat):(fk cs).Nodup:=(ja cs).ord.imp λh=>Yl h
theorem Hn {cs:List Nat}{l:List Int}{i:Nat}{v:Int}{c:Nat}(hl:l∈fk cs)(hc:cs[i]?=some c)(h0:0<=v)(h1:v < (c:Int)):l.set i v∈fk cs:=by
 rw[Hm]at hl ⊢;refine⟨by rw[oU];exact hl.1,λj u e=>?_⟩;rw[List.getElem?_set]at e
 split at e
 ·rename_i hj
  subst hj
  split at e
  ·cases e;exact⟨c,hc,h0,h1⟩
  ·cases e
 ·exact hl.2 j u e
theorem Lf {cs:List Nat}(h6:∀c∈cs,c<=6)(h3:cs.length<=3):(fk cs).length<=216:=by
 rw[mf];exact cH (Nj cs h6) (cH (uA (by decide) h3) (by decide))
end S1
namespace S63
open PySem L2 Bits S1 Fly
theorem FnOk.calm {P:aU}{w:aZ}{K:aB}{mg:Str->Option aC}{base:Heap}{k:Nat}{f:Addr}{fd:bQ}{ps:List Str}{sp RR:Sp}(F:FnOk P w K mg base (CXx P w) k f fd ps sp)
  (h:∀vs H Q E,RR vs H Q E->sp vs H Q (λ_ _ _=>False)):FnOk P w K mg base CX0 k f fd ps RR where
 len:=λvs H Q E z=>F.len vs H Q _ (h vs H Q E z)
 run:=λA outer s H args us vs Q E hr e b r z=>lU (F.run A outer s H args us vs Q _ hr e b r (h vs H Q E z)) λq s'=>by
  cases q with
  |error e=>intro hx;obtain⟨_,_,_,_,_,_,_,_,_,_,_,_,_,_,f⟩:=hx;exact f
  |ok fl=>cases fl<;>exact id
def isR (ls:List (List Int))(p:Nat)(v:Int):Rl:=λi j=>j=i/\∃l,ls[i]?=some l/\l[p]?=some v
def Ft (ls:List (List Int))(p:Nat)(v:Int):Rl:=λi j=>∃l,ls[i]?=some l/\ls[j]?=some (l.set p v)
def Can (ls:List (List Int))(p:Nat)(v:Int):Prop:=ls.Nodup/\ls.length<=300/\∀l∈ls,l.length<=10/\p < l.length/\l.set p v∈ls
def Ds (T:List (List Int)->Nat->Int->Rl)(K:aB):Sp:=λvs H Q _=>∃(r:Addr)(ls:List (List Int)) (p:Nat) (v:Int),vs=[.ref r,.int (p:Int),.int v]/\LetAt K H r ls/\Can ls p v/\B7 ls.length (T ls p v) H Q
theorem hu8 {A:cC}{k:Nat}(hr:Room k A):A.units+8 < jH:=nC (Nat.add_le_add_left (by decide:8<=64) _) hr.units
theorem rh {K:aB}{H:Hp}:∀{xs:List V}{ls:List (List Int)},Holds K H xs (ls.map jq)->Paired (λy m=>∃c,y=.ref c/\SqT K H c (m.map V.int)) xs ls
 |_,[],h=>by cases h;exact .nil
 |_,l::ls,h=>by
  cases h with
  |cons h1 t=>
   obtain⟨a,zs,rfl,ha,CV⟩:=Hold.tupI h1;have ez:zs=l.map V.int:=CV.ints;subst ez;exact .cons ⟨a,rfl,ha⟩ (rh t)
section
variable {P:aU}{w:aZ}{K:aB}{mg:Str->Option aC}{base:Heap}
theorem scIr:aw zzu zzu (aj Ky):=fsN
def Ts:gQ:={ kind:=.function,names:=[(".0",.local),("at",.local),("letter",.local),("place",.free),("value",.free)],isGenerator:=false,isCoroutine:=false,more:=[] }
theorem cIr_ {CX:CXT}{f:Addr}{AF:aC}{A:cC}{outer:List Env}{s:aG}{H:Hp}{E:XK} :
  cp (bh CX P w K mg base zzu "is_relation" (aj Ky) f AF A outer s H E).nox ["at","letter"] zyk [1,2] Ts [("value",s.heap.objs.size+1+1),("place",s.heap.objs.size+1)]:=csN [(".0",.local),("at",.local),("letter",.local),("place",.cell),("value",.cell)]
theorem Ym {f:Addr}{fd:bQ}(F:Fun K "is_relation" "is_relation" Ky f fd)(me:mg "enumerate"=none):‹1› f fd zzu (Ds isR K):=by
 exists F,scIr
 ·obtain⟨r,ls,p,v,rfl,_⟩:=h;rfl
 obtain⟨r,ls,p,v,rfl,⟨xs,BE,CL⟩,⟨nd,l300,OX⟩,q⟩:=h;refine⟨_,ak (az (dz (ns:=["at","letter"]) (ys:=zyk) (sc:=Ts) cIr_ rfl (yr rfl me (aa (pv 0) ag)) (λC s H fp=>pg2 rfl) (λC s H fp=>cz) (λC s H fp=>pf (bx e9 (av (r:=D7 K) cq (pv 1) (pv 2) (λ_ _=>rfl)) (pv 3) (bw _)) (ba Ab ah (pv 0)) ah))),?_⟩;dsimp only[bh,Cx.nox];have xl:xs.length=ls.length:=(by rw[CL.length,aJ]);refine⟨_,rfl,r,_,rfl,SqL.of BE,λD hD=>?_⟩;refine uo (K:=K) (a:=r) (xs:=xs) (λi ys G=>Same H G/\G D=some (.lst ys)/\∃us:List Int,ys=us.map V.int/\PartP ls.length us i (isR ls p v)) ⟨ae hD _,af,[],rfl,.nil⟩ (λi ys G z=>z.2.1) (λi ys G _ z=>SqL.of (z.1 _ _ BE)) ?_ ?_ ?_
 ·intro i ys G hi AC;obtain⟨sG,gD,us,rfl,up⟩:=AC;have ul:=up.1;exact bj (by rw[aJ];lia)
 ·intro i x t ys G hx AC ht;obtain⟨sG,gD,us,rfl,up⟩:=AC;obtain⟨l,el,hl⟩:=CL.getm hx;obtain⟨a,zs,rfl,ha,CV⟩:=Hold.tupI hl;have ez:zs=l.map V.int:=CV.ints;subst ez;have hi:i < ls.length:=(aM.mp el).1;obtain⟨_,hp,_⟩:=OX l (bV el);have Dt:D≠t:=aq gD ht;have tt:=ae ht (.tup [.int (i:Int),.ref a]);refine⟨t,_,rfl,SqT.of af,rfl,_,_,rfl,_,_,rfl,rfl,⟨[some _,some _],rfl,rfl⟩,?_⟩;have vp:(l.map V.int)[p]?=some (.int l[p]):=(by rw[cQ,aK hp];rfl);refine⟨_,rfl,_,rfl,a,_,_,_,rfl,rfl,ha.same (Same.trans sG tt),bp vp,_,rfl,rfl,_,rfl,?_⟩;generalize EY:upd G t (.tup [.int (i:Int),.ref a])=G2;have KZ:Same H G2:=(by rw[<-EY];exact Same.put sG (Same.free sG ht) _);have CO:G2 D=some (.lst (us.map V.int)):=(by rw[<-EY,ao Dt];exact gD);have AK:∀y:Int,MaskP ls.length y (isR ls p v i)->G2 D=some (.lst (us.map V.int))/\Same H (upd G2 D (.lst (us.map V.int++[.int y])))/\upd G2 D (.lst (us.map V.int++[.int y])) D=some (.lst (us.map V.int++[.int y]))/\∃ws:List Int,us.map V.int++[.int y]=ws.map V.int/\PartP ls.length ws (i+1) (isR ls p v):=λy my=>
   ⟨CO,Same.put KZ hD _,af,us++[y],(by rw[cU];rfl),up.snoc my⟩
  refine fb (λc=>?_) (λc=>?_)
  ·have c':l[p]=v:=(by simpa using c);refine⟨_,rfl,_,_,rfl,rfl,⟨by lia,by lia,by decide⟩,?_⟩;have z:(1:Int) * 2 ^ ((i:Int)).toNat=2 ^ i:=(by rw[xA,gL]);have f1:=AK _ ((qh (n:=ls.length) (k:=i) hi).iff λj hj=>⟨λe=>⟨e,l,el,by rw[aK hp,c']⟩,λe=>e.1⟩);rw[<-z]at f1;exact f1
  ·have c':¬l[p]=v:=(by simpa using c);refine AK _ ((jk _).iff λj hj=>⟨λf=>f.elim,λAD=>?_⟩);obtain⟨_,l',e1,e2⟩:=AD;rw[el]at e1;cases e1;rw[aK hp]at e2;exact c' (cZ e2)
 ·intro ys G AC;obtain⟨sG,gD,us,rfl,up⟩:=AC;rw[xl]at up;exact q D us G sG hD gD up
theorem Yn:aw zyz zzu (aj Aq):=fsN
def Tt:gQ:={ kind:=.function,names:=[(".0",.local),("letter",.local),("place",.free),("value",.free)],isGenerator:=false,isCoroutine:=false,more:=[] }
theorem cPr_ {CX:CXT}{f:Addr}{AF:aC}{A:cC}{outer:List Env}{s:aG}{H:Hp}{E:XK} :
  cp (bh CX P w K mg base zyz "put_relation" (aj Aq) f AF A outer s H E).nox zz1 zyk [1,2] Tt [("value",s.heap.objs.size+1+1+1),("place",s.heap.objs.size+1+1)]:=csN [(".0",.local),("letter",.local),("place",.cell),("value",.cell)]
def Og:gQ:={ kind:=.function,names:=[(".0",.local),("letter",.local),("letters",.free)],isGenerator:=false,isCoroutine:=false,more:=[] }
theorem cPr2_ {CX:CXT}{f:Addr}{AF:aC}{A:cC}{outer:List Env}{s:aG}{H:Hp}{E:XK} :
  cp (bh CX P w K mg base zyz "put_relation" (aj Aq) f AF A outer s H E).nox zz1 ["letters"] [0] Og [("letters",s.heap.objs.size+1)]:=csN [(".0",.local),("letter",.local),("letters",.cell)]
theorem V8 (l:List Int)(p:Nat)(v:Int)(h:p < l.length):l.take p++v::l.drop (p+1)=l.set p v:=by
 rw[nY,if_pos h]
theorem V9 {f:Addr}{fd:bQ}(F:Fun K "put_relation" "put_relation" Aq f fd):‹1› f fd zzu (Ds Ft K):=by
 exists F,Yn
 ·obtain⟨r,ls,p,v,rfl,_⟩:=h;rfl
 obtain⟨r,ls,p,v,rfl,⟨xs,BE,CL⟩,⟨nd,l300,OX⟩,q⟩:=h;refine⟨_,ai (j5 (i0:=3) (ns:=zz1) (ys:=zyk) (sc:=Tt) Yn.nd rfl rfl cPr_ rfl (c7 (pv 0)) (λC s H fp=>bo (i:=0) (by show(["letter","place","value"]:List Str).Nodup;decide +kernel) rfl (cD rfl)) (λC s H fp=>cz) (λC s H fp=>ba (r:=λx y H Q=>jf K x y H Q\/g0 K x y H Q) pw (ba (r:=λx y H Q=>jf K x y H Q\/g0 K x y H Q) pw (cn (r:=pq K) vm (pv 0) cy (cv (pv 1))) (cb (aa (pv 2) ag))) (cn (r:=pq K) vm (pv 0) (cv (ba gy (pv 1) ah)) cy))) (ak (az (dz (ns:=zz1) (ys:=["letters"]) (sc:=Og) cPr2_ rfl (c7 (pv 3)) (λC s H fp=>bo (i:=0) (by show(["letter","letters"]:List Str).Nodup;decide +kernel) rfl (cD rfl)) (λC s H fp=>cz) (λC s H fp=>ba Ab ah (Yk (K:=K) rfl fG rV PySem.F.type_list_index (Of (K:=K) rfl (hu8 hr)) (pv 1) (aa (pv 0) ag)))))),?_⟩;dsimp only[bh,Cx.nox];have xl:xs.length=ls.length:=(by rw[CL.length,aJ]);refine⟨_,rfl,r,rfl,⟨_,SqL.of BE⟩,λD hD=>?_⟩;refine dy (K:=K) (a:=r) (xs:=xs) (λi ys G=>Same H G/\G D=some (.lst ys)/\Holds K G ys (((ls.take i).map λl=>l.set p v).map jq)) ⟨ae hD _,af,.nil⟩ (λi ys G z=>z.2.1) (λi ys G _ z=>SqL.of (z.1 _ _ BE)) ?_ ?_
 ·intro i x ys G hx AC;obtain⟨sG,gD,hy⟩:=AC;obtain⟨l,el,hl⟩:=CL.getm hx;obtain⟨a,zs,rfl,ha,CV⟩:=Hold.tupI hl;have ez:zs=l.map V.int:=CV.ints;subst ez;have hi:i < ls.length:=(aM.mp el).1;obtain⟨h10,hp,_⟩:=OX l (bV el);have yl:ys.length=i:=(by rw[hy.length,aJ,aJ,cK];lia);refine⟨bj (by lia),⟨[some _],rfl,rfl⟩,?_⟩;refine Qn (K:=K) (jl:=0) (ji:=1) (jv:=2) rfl rfl rfl (ha.same sG) hp (by lia) λb G' EG hb=>?_;have J':=EG _ _ gD;refine⟨J',Same.put (Same.trans sG EG) hD _,af,?_⟩;have tk:ls.take (i+1)=ls.take i++[l]:=(by rw[eX,el];rfl);rw[tk,cU,cU];refine Holds.append (Holds.stay ((Tups.of EG).trans (Tups.put J' _)) (by rw[oF];exact d8 (λ_=>jz _) _) hy) (.one (.tup (SqT.of ?_) (oy _)));rw[ao (ou hb J' (by intro z;cases z)),hb,V8 l p v hp]
 ·intro ys G AC;obtain⟨sG,gD,hy⟩:=AC;rw[xl,gN]at hy;have yl:ys.length=ls.length:=(by rw[hy.length,aJ,aJ]);refine⟨_,rfl,D,rfl,⟨_,SqL.of gD⟩,λD2 FZ=>?_⟩;refine dy (K:=K) (a:=D) (xs:=ys) (λi zs G2=>Same G G2/\G2 D2=some (.lst zs)/\∃us:List Int,zs=us.map V.int/\PartP ls.length us i (Ft ls p v)) ⟨ae FZ _,af,[],rfl,.nil⟩ (λi ys G z=>z.2.1) (λi ys G _ z=>SqL.of (z.1 _ _ gD)) ?_ ?_
  ·intro i x zs G2 hx AC;obtain⟨s2,CO,us,rfl,up⟩:=AC;have ul:=up.1;rw[oF]at hy;obtain⟨l,el,hl⟩:=hy.getm hx;have hi:i < ls.length:=(aM.mp el).1;obtain⟨a,ws,rfl,ha,hws⟩:=Hold.tupI hl;have ew:ws=(l.set p v).map V.int:=hws.ints;subst ew;obtain⟨_,_,FM⟩:=OX l (bV el);have hj:ls.idxOf (l.set p v) < ls.length:=rC.mpr FM;refine⟨bj (by rw[aJ];lia),⟨[some _],rfl,rfl⟩,?_⟩;refine⟨_,rfl,.inl ⟨rfl,_,SqL.of ((Same.trans sG s2) _ _ BE)⟩,_,rfl,r,a,xs,ls,l.set p v,rfl,rfl,SqL.of ((Same.trans sG s2) _ _ BE),?_,ha.same s2,FM,_,_,rfl,rfl,⟨by lia,by lia,by decide⟩,?_⟩
   ·exact rh (Holds.mono (Same.trans sG s2) CL)
   ·have z:(1:Int) * 2 ^ (((ls.idxOf (l.set p v):Nat):Int)).toNat=2 ^ (ls.idxOf (l.set p v)):=(by rw[xA,gL]);dsimp only;rw[z];refine⟨CO,Same.put s2 FZ _,af,us++[2 ^ (ls.idxOf (l.set p v))],(by rw[cU];rfl),up.snoc ((qh hj).iff λj hjl=>?_)⟩;constructor
    ·intro AC;subst AC;exact⟨l,el,by rw[aK hj,uT]⟩
    ·intro AC;obtain⟨l',e1,e2⟩:=AC;rw[el]at e1;cases e1;have e3:ls[ls.idxOf (l.set p v)]?=some (l.set p v):=(by rw[aK hj,uT]);exact(List.getElem?_inj hjl nd).mp (e2.trans e3.symm)
  ·intro zs G2 AC;obtain⟨s2,CO,us,rfl,up⟩:=AC;rw[yl]at up;exact q D2 us G2 (Same.trans sG s2) (Same.free sG FZ) CO up
end
section
variable {P:aU}{w:aZ}
theorem Lg {H:Hp}{h:Heap}{u a:Addr}{xs:List V}{o:HO}(hu:H u=some (.lst xs))(x:ObjOk P w H h a o):ObjOk P w (br H u) h a o:=by
 have ne:∀{b:Addr}{q:HO},H b=some q->(∀ys,q≠.lst ys)->br H u b=some q:=λ{b q} e n=>by
  rw[cj (λz=>by subst z;rw[hu]at e;cases e;exact n xs rfl)];exact e
 induction o with
 |dT kvs=>
  obtain⟨z,y,vs,r,q⟩:=x;exact⟨z,y,vs,Paired.mapP r λ_ _ t=>⟨t.1,ne t.2.1 (λ_ e=>nomatch e),t.2.2⟩,q⟩
 |ins C dx fs=>exact⟨ne x.1 (λ_ e=>nomatch e),x.2⟩
 |frz ob v ih=>exact⟨x.1,ih x.2⟩
 |_=>exact x
theorem Lh {H:Hp}{h:Heap}{u a:Addr}{xs:List V}{o:HO}(hu:H u=none)(x:ObjOk P w H h a o):ObjOk P w (upd H u (.lst xs)) h a o:=by
 have ne:∀{b:Addr}{q:HO},H b=some q->upd H u (.lst xs) b=some q:=λ{b q} e=>by
  rw[ao (aq e hu)];exact e
 induction o with
 |dT kvs=>
  obtain⟨z,y,vs,r,q⟩:=x;exact⟨z,y,vs,Paired.mapP r λ_ _ t=>⟨t.1,ne t.2.1,t.2.2⟩,q⟩
 |ins C dx fs=>exact⟨ne x.1,x.2⟩
 |frz ob v ih=>exact⟨x.1,ih x.2⟩
 |_=>exact x
def spFr (sp:Sp):Sp:=λvs H Q E=>∃(u:Addr)(xs:List V),H u=some (.lst xs)/\sp vs (br H u) (λv H'=>H' u=none->Q v (upd H' u (.lst xs))) E
theorem FnOk.frame {K:aB}{mg:Str->Option aC}{base:Heap}{k:Nat}{f:Addr}{fd:bQ}{ps:List Str}{sp:Sp}(F:FnOk P w K mg base CX0 k f fd ps sp):FnOk P w K mg base CX0 k f fd ps (spFr sp) where
 len:=λvs H Q E AD=>by obtain⟨_,_,_,z⟩:=AD;exact F.len vs _ _ _ z
 run:=λA outer s H args us vs Q E hr e b r ⟨u,xs,hu,z⟩=>by
  have hn:br H u u=none:=(by unfold br;rw[if_pos rfl]);have hide_none:∀{b:Addr},H b=none->br H u b=none:=λ{b} q=>by
   by_cases h:b=u
   ·rw[h];exact hn
   ·rw[cj h];exact q
  have e':Env0 P w K mg base A outer s (br H u):=⟨e.frames,e.mod,λb o q=>⟨(e.bs b o q).1,hide_none (e.bs b o q).2⟩,e.bsz,e.funs,λb hb=>hide_none (e.frf b hb),λa o q=>Lg hu (e.hok a o (hide_le _ _ q)),e.bare⟩;obtain⟨ob,RS⟩:∃ob,s.heap.get? u=some ob:=by
   obtain⟨_,its,n,_,q⟩:=e.hok u _ hu;exact⟨_,q⟩
  have nfr:u ∉ frs outer:=λq=>(by rw[e.frf u q]at hu;cases hu);refine lU (F.run A outer s (br H u) args us vs _ E hr e' b r z) λq s'=>?_;cases q with
  |error er=>exact id
  |ok fl=>
   cases fl with
   |ret val=>
    intro AC;obtain⟨v,H',os,bare,un,hok,rv,q⟩:=AC;have fu:H' u=none:=un.free u ob RS hn (by simp);have hku:=un.keep u ob RS hn nfr (by simp);have nu:∀{b:Addr}{o:HO},H b=some o->(∀ys,o≠.lst ys)->b≠u:=λ{b o} e1 n z=>(by subst z;rw[hu]at e1;cases e1;exact n xs rfl);refine⟨v,upd H' u (.lst xs),os,bare,⟨λb o h1 h2 h3 h4=>un.keep b o h1 (hide_none h2) h3 h4,λb o h1 h2 h3 h4=>un.slot b o h1 (hide_none h2) h3 h4,λb o h1 h2 h3=>?_,un.there,λb ys h1=>?_,λb o v h1=>?_,λb ps h1=>?_⟩,λb o hb=>?_,rv,q fu⟩
    ·rw[ao (λz=>by subst z;rw[hu]at h2;cases h2)];exact un.free b o h1 (hide_none h2) h3
    ·have n:=nu h1 (λ_ e=>nomatch e);rw[ao n];exact un.tups b ys (by rw[cj n];exact h1)
    ·have n:=nu h1 (λ_ e=>nomatch e);rw[ao n];exact un.frzs b o v (by rw[cj n];exact h1)
    ·have n:=nu h1 (λ_ e=>nomatch e);rw[ao n];exact un.tbls b ps (by rw[cj n];exact h1)
    ·by_cases h:b=u
     ·subst h;rw[af]at hb;cases hb;obtain⟨z1,its,n,rl,g⟩:=e.hok b _ hu;rw[RS]at g;exact⟨z1,its,n,rl,hku.trans g⟩
     ·rw[ao h]at hb;exact Lh fu (hok b o hb)
   |_=>exact id
end
abbrev LL (ws:List (Str×Nat)):List (List Int):=fk (ws.map (·.2))
def Spk (K:aB)(H:Hp)(sp r:Addr)(ws:List (Str×Nat)):Prop:=Hold K H (.ref sp) (fw ws)/\LetAt K H r (LL ws)/\fo ws
theorem Spk.mono {K:aB}{H G:Hp}{sp r:Addr}{ws:List (Str×Nat)}(h:Spk K H sp r ws)(s:Same H G):Spk K G sp r ws:=by
 obtain⟨h1,⟨xs,h2,h3⟩,h4⟩:=h;exact⟨h1.mono s,⟨xs,s _ _ h2,h3.mono s⟩,h4⟩
theorem Dv {ws:List (Str×Nat)}(h:fo ws):(LL ws).length<=216:=Lf (λc hc=>by
  obtain⟨x,hx,rfl⟩:=jN.mp hc;exact(h.cnt x hx).2) (by rw[aJ];exact h.hi)
theorem Oh {ws:List (Str×Nat)}(h:fo ws){x:Str}{p c:Nat}{v:Int}(lk:look ws x=some (p,c))(g:0<=v/\v < (c:Int)):Can (LL ws) p v:=by
 have RT:=Dv h;obtain⟨y,e1,_,e3⟩:=Ik lk;have hp:p < ws.length:=(aM.mp e1).1;refine⟨vb _,by lia,λl hl=>?_⟩;have wl:=(ja _).wide l hl;rw[aJ]at wl;have:=h.hi;exact⟨by lia,by lia,Hn hl (by rw[cQ,e1,qQ,e3]) g.1 g.2⟩
def Say.rm:Say->Nat
 | .note=>1
 | .again s=>s.rm
 | .either a b=>a.rm+b.rm
 | .both a b=>a.rm+b.rm
 |_=>0
def Say.W (ws:List (Str×Nat)):Say->Nat->Nat->Rl
 | .nought=>λ_ _ _ _=>False
 | .every=>λ_ _ i j=>j=i
 | .note=>Ti
 | .is f v=>λ_ _=>match look ws f.1 with | some (p,_)=>isR (LL ws) p v.1 | none=>λ_ _=>False
 | .put f v=>λ_ _=>match look ws f.1 with | some (p,_)=>Ft (LL ws) p v.1 | none=>λ_ _=>False
 | .no s=>λ_ _=>sv (LL ws).length (s.W ws 0 0)
 | .again s=>wa (LL ws).length (s.W ws)
 | .either a b=>nh (LL ws).length (a.rm+1) (a.W ws) (b.W ws)
 | .both a b=>qj (LL ws).length (a.rm+1) (a.W ws) (b.W ws)
abbrev Rj (H:Hp)(ws:List (Str×Nat))(s:Say)(x:V):Prop:=WaysAt H (LL ws).length (s.rm+1) (s.W ws) x
def Tu (K:aB):Sp:=λvs H Q _=>∃(sp:Addr)(ws:List (Str×Nat)) (x:Str) (v:Int) (p c:Nat),vs=[.ref sp,.str x,.int v]/\Hold K H (.ref sp) (fw ws)/\v.natAbs.log2 < 1000/\(qY x).length<=2000/\
 look ws x=some (p,c)/\(0<=v/\v < (c:Int))/\∀H',Same H H'->Q (.int (p:Int)) H'
theorem Yo {P:aU}{w:aZ}{K:aB}{mg:Str->Option aC}{base:Heap}{k:Nat}{f cF cV:Addr}{fd:bQ}{ps:List Str}(F:FnOk P w K mg base (CXx P w) k f fd ps (B2 K cF cV)):FnOk P w K mg base CX0 k f fd ps (Tu K):=
 FnOk.calm F λvs H Q E AD=>by obtain⟨sp,ws,x,v,p,c,e,h1,h2,h3,lk,g,q⟩:=AD;exact⟨sp,ws,x,v,e,h1,h2,h3,⟨λn=>absurd (lk.symm.trans n) (by simp),λi d l n=>(by rw[lk]at l;cases l;exact absurd g n),λi d l g'=>(by rw[lk]at l;cases l;exact q)⟩⟩
def Say.lone:Say->Bool
 | .nought=>true | .every=>true | .is _ _=>true | .put _ _=>true
 |_=>false
def Tv (K:aB):Sp:=λvs H Q _=>∃(sp r:Addr)(ws:List (Str×Nat)) (x:V) (s:Say),vs=[.ref sp,.ref r,x]/\Spk K H sp r ws/\Hold K H x s.da/\s.lone=true/\s.due ws=none/\B7 (LL ws).length (s.W ws 0 0) H Q
def Oi (K:aB):Sp:=λvs H Q _=>∃(sp r c:Addr)(ws:List (Str×Nat)) (x:V) (s:Say) (is:List V),vs=[.ref sp,.ref r,x,.ref c]/\Spk K H sp r ws/\Hold K H x s.da/\s.due ws=none/\s.rm<=300/\
 H c=some (.lst is)/\Paired (λy k=>Rj H ws k y) is s.kids/\Fp (LL ws).length (s.rm+1) (s.W ws) H Q
theorem Fu {ws:List (Str×Nat)}{x:Str}{v:Int}(h:dj ws x v=none):∃p c,look ws x=some (p,c)/\0<=v/\v < (c:Int):=by
 unfold dj at h;cases e:look ws x with
 |none=>rw[e]at h;cases h
 |some pc=>
  rw[e]at h;obtain⟨p,c⟩:=pc;refine⟨p,c,rfl,?_⟩;by_cases g:0<=v/\v < (c:Int)
  ·exact g
  ·have h':(if 0<=v/\v < (c:Int)then none else some (Flt.value v))=none:=h
   rw[if_neg g]at h';cases h'
section
variable {P:aU}{w:aZ}{K:aB}{mg:Str->Option aC}{base:Heap}
theorem Yp:aw ["speech","letters","part","place"] zz5 (aj E1):=fsN
theorem Rk {f:Addr}{fd:bQ}(F:Fun K "plain_relation" "plain_relation" E1 f fd)(hN:Has P w K mg base 1 "nothing" zzj K7)(hS:Has P w K mg base 1 "the_same" zzj K8)
  (hP:Has P w K mg base 4 "place_of" zzi (Tu K)) (hI:Has P w K mg base 1 "is_relation" zzu (Ds isR K)) (hU:Has P w K mg base 1 "put_relation" zzu (Ds Ft K)) (ml:mg "len"=none) :
  ‹5› f fd zz5 (Tv K):=by
 obtain⟨fN,dN,GN,bN,kN,mN⟩:=hN;obtain⟨fS,dS,GS,bS,kS,mS⟩:=hS;obtain⟨fP,dP,GP,bP,kP,mP⟩:=hP;obtain⟨fI,dI,GI,bI,kI,mI⟩:=hI;obtain⟨fU,dU,GU,bU,kU,mU⟩:=hU;exists F,Yp
 ·obtain⟨sp,r,ws,x,sy,rfl,_⟩:=h;rfl
 obtain⟨sp,r,ws,x,sy,rfl,LC,hx,lo,du,q⟩:=h;refine⟨_,ai (de (bx e9 (av cq (pv 2) ah (λ_ _=>rfl)) bg (bw _)) (ak (az (ar GN (hr.mono (by decide)) rfl mN kN bN .nil bb (aa (bz cg rfl ml gT (aa (pv 1) ag)) ag)))) cf) (ai (de (bx e9 (av cq (pv 2) ah (λ_ _=>rfl)) bg (bw _)) (ak (az (ar GS (hr.mono (by decide)) rfl mS kS bS .nil bb (aa (bz cg rfl ml gT (aa (pv 1) ag)) ag)))) cf) (ai (bf (i:=3) Yp.nd rfl (cD rfl) (ar GP hr rfl mP kP bP .nil bb (aa (pv 0) (aa (av cq (pv 2) ah (λ_ _=>rfl)) (aa (av cq (pv 2) ah (λ_ _=>rfl)) ag))))) (ai (de (bx e9 (av cq (pv 2) ah (λ_ _=>rfl)) bg (bw _)) (ak (az (ar GI (hr.mono (by decide)) rfl mI kI bI .nil bb (aa (pv 1) (aa (pv 3) (aa (av cq (pv 2) ah (λ_ _=>rfl)) ag)))))) cf) (ak (az (ar GU (hr.mono (by decide)) rfl mU kU bU .nil bb (aa (pv 1) (aa (pv 3) (aa (av cq (pv 2) ah (λ_ _=>rfl)) ag))))))))),?_⟩;dsimp only[bh,Cx.nox];obtain⟨AY,⟨xs,BE,CL⟩,IT⟩:=id LC;have xl:xs.length=(LL ws).length:=(by rw[CL.length,aJ]);have n216:=Dv IT;cases sy
 case nought=>
  obtain⟨a,ys,rfl,ha,hd⟩:=Hold.tupI hx;cases hd with
  |cons h1 r1=>
   cases r1;cases h1.flatI;refine⟨_,rfl,a,_,_,_,rfl,rfl,ha,rfl,rfl,_,rfl,?_⟩;refine iz ⟨_,rfl,r,_,rfl,.inl (SqL.of BE),(LL ws).length,(by rw[xl];rfl),by lia,λr1 n1 G1 s1 h1 g1 v1=>q r1 n1 G1 s1 h1 g1 v1⟩
 case every=>
  obtain⟨a,ys,rfl,ha,hd⟩:=Hold.tupI hx;cases hd with
  |cons h1 r1=>
   cases r1;cases h1.flatI;refine⟨_,rfl,a,_,_,_,rfl,rfl,ha,rfl,rfl,_,rfl,?_⟩;refine dh ⟨_,rfl,a,_,_,_,rfl,rfl,ha,rfl,rfl,_,rfl,?_⟩;refine iz ⟨_,rfl,r,_,rfl,.inl (SqL.of BE),(LL ws).length,(by rw[xl];rfl),by lia,λr1 n1 G1 s1 h1 g1 v1=>q r1 n1 G1 s1 h1 g1 v1⟩
 case is fx vx=>
  obtain⟨a,ys,rfl,ha,hd⟩:=Hold.tupI hx;cases hd with
  |cons h1 r1=>cases r1 with
   |cons h2 r2=>cases r2 with
    |cons h3 r3=>
     cases r3;cases h1.flatI;cases h2.flatI;cases h3.flatI;obtain⟨p,c,lk,g⟩:=Fu (show dj ws fx.1 vx.1=none from du);refine⟨_,rfl,a,_,_,_,rfl,rfl,ha,rfl,rfl,_,rfl,?_⟩;refine dh ⟨_,rfl,a,_,_,_,rfl,rfl,ha,rfl,rfl,_,rfl,?_⟩;refine dh ⟨_,rfl,_,rfl,a,_,_,_,rfl,rfl,ha,rfl,_,rfl,a,_,_,_,rfl,rfl,ha,rfl,sp,ws,fx.1,vx.1,p,c,rfl,AY,vx.2,fx.2,lk,g,λG1 s1=>?_⟩;refine⟨_,rfl,a,_,_,_,rfl,rfl,ha.same s1,rfl,rfl,_,rfl,?_⟩;refine iz ⟨_,rfl,_,rfl,_,rfl,a,_,_,_,rfl,rfl,ha.same s1,rfl,r,LL ws,p,vx.1,rfl,⟨xs,s1 _ _ BE,CL.mono s1⟩,Oh IT lk g,λr2 n2 G2 s2 h2 g2 v2=>q r2 n2 G2 (Same.trans s1 s2) (Same.free s1 h2) g2 ?_⟩;show RelP _ n2 (match look ws fx.1 with | some (p,_)=>isR (LL ws) p vx.1 | none=>λ_ _=>False)
     rw[lk];exact v2
 case put fx vx=>
  obtain⟨a,ys,rfl,ha,hd⟩:=Hold.tupI hx;cases hd with
  |cons h1 r1=>cases r1 with
   |cons h2 r2=>cases r2 with
    |cons h3 r3=>
     cases r3;cases h1.flatI;cases h2.flatI;cases h3.flatI;obtain⟨p,c,lk,g⟩:=Fu (show dj ws fx.1 vx.1=none from du);refine⟨_,rfl,a,_,_,_,rfl,rfl,ha,rfl,rfl,_,rfl,?_⟩;refine dh ⟨_,rfl,a,_,_,_,rfl,rfl,ha,rfl,rfl,_,rfl,?_⟩;refine dh ⟨_,rfl,_,rfl,a,_,_,_,rfl,rfl,ha,rfl,_,rfl,a,_,_,_,rfl,rfl,ha,rfl,sp,ws,fx.1,vx.1,p,c,rfl,AY,vx.2,fx.2,lk,g,λG1 s1=>?_⟩;refine⟨_,rfl,a,_,_,_,rfl,rfl,ha.same s1,rfl,rfl,_,rfl,?_⟩;refine dh ⟨_,rfl,_,rfl,_,rfl,a,_,_,_,rfl,rfl,ha.same s1,rfl,r,LL ws,p,vx.1,rfl,⟨xs,s1 _ _ BE,CL.mono s1⟩,Oh IT lk g,λr2 n2 G2 s2 h2 g2 v2=>q r2 n2 G2 (Same.trans s1 s2) (Same.free s1 h2) g2 ?_⟩;show RelP _ n2 (match look ws fx.1 with | some (p,_)=>Ft (LL ws) p vx.1 | none=>λ_ _=>False)
     rw[lk];exact v2
 all_goals cases lo
theorem scWp:aw zzl zzl (aj Ez):=fsN
theorem Wa {f:Addr}{fd:bQ}(F:Fun K "ways_of_part" "ways_of_part" Ez f fd)(hE:Has P w K mg base 4 "either_ways" zzm (Dr nh))(hT:Has P w K mg base 4 "then_ways" zzt (Dr qj))
  (hA:Has P w K mg base 4 "again_ways" zyp Tp) (hW:Has P w K mg base 1 "where_nothing" zzb (Dq sv K)) (hN:Has P w K mg base 2 "note_ways" zzj Iw) (hP:Has P w K mg base 5 "plain_relation" zz5 (Tv K)) (ml:mg "len"=none) :
  ‹6› f fd zzl (Oi K):=by
 obtain⟨fE,dE,GE,bE,kE,mE⟩:=hE;obtain⟨fT,dT,GT,bT,kT,mT⟩:=hT;obtain⟨fA,dA,GA,bA,kA,mA⟩:=hA;obtain⟨fW,dW,GW,bW,kW,mW⟩:=hW;obtain⟨fN,dN,GN,bN,kN,mN⟩:=hN;obtain⟨fP,dP,GP,bP,kP,mP⟩:=hP;exists F,scWp
 ·obtain⟨sp,r,c,ws,x,sy,is,rfl,_⟩:=h;rfl
 obtain⟨sp,r,c,ws,x,sy,is,rfl,LC,hx,du,rm,gc,OY,q⟩:=h;refine⟨_,ai (de (bx e9 (av cq (pv 2) ah (λ_ _=>rfl)) bg (bw _)) (ak (az (ar GE (hr.mono (by decide)) rfl mE kE bE .nil bb (aa (av ax (pv 3) ah (λ_ _=>rfl)) (aa (av ax (pv 3) ah (λ_ _=>rfl)) ag))))) cf) (ai (de (bx e9 (av cq (pv 2) ah (λ_ _=>rfl)) bg (bw _)) (ak (az (ar GT (hr.mono (by decide)) rfl mT kT bT .nil bb (aa (av ax (pv 3) ah (λ_ _=>rfl)) (aa (av ax (pv 3) ah (λ_ _=>rfl)) ag))))) cf) (ai (de (bx e9 (av cq (pv 2) ah (λ_ _=>rfl)) bg (bw _)) (ak (az (ar GA (hr.mono (by decide)) rfl mA kA bA .nil bb (aa (av ax (pv 3) ah (λ_ _=>rfl)) ag)))) cf) (ai (de (bx e9 (av cq (pv 2) ah (λ_ _=>rfl)) bg (bw _)) (ak (az (bc (aa (bc (aa (ar GW (hr.mono (by decide)) rfl mW kW bW .nil bb (aa (av ax (av ax (av ax (pv 3) ah (λ_ _=>rfl)) ah (λ_ _=>rfl)) ah (λ_ _=>rfl)) ag)) ag)) ag)))) cf) (ai (de (bx e9 (av cq (pv 2) ah (λ_ _=>rfl)) bg (bw _)) (ak (az (ar GN (hr.mono (by decide)) rfl mN kN bN .nil bb (aa (bz cg rfl ml gT (aa (pv 1) ag)) ag)))) cf) (ak (az (bc (aa (bc (aa (ar GP hr rfl mP kP bP .nil bb (aa (pv 0) (aa (pv 1) (aa (pv 2) ag)))) ag)) ag)))))))),?_⟩;dsimp only[bh,Cx.nox];obtain⟨AY,⟨xs,BE,CL⟩,IT⟩:=id LC;have xl:xs.length=(LL ws).length:=(by rw[CL.length,aJ]);have n216:=Dv IT;obtain⟨a,ys,rfl,ha,hk⟩:=jh hx;clear hk;refine⟨_,rfl,a,_,_,_,rfl,rfl,ha,fg _ _,rfl,_,rfl,?_⟩;have lone:∀{R:Rl},(∀i j,R i j=sy.W ws 0 0 i j)->sy.rm=0->(∀r c,sy.W ws r c=sy.W ws 0 0)->∀(r1:Addr)(n1:List Int) (G1:Hp),Same H G1->G1 r1=some (.lst (n1.map V.int))->RelP (LL ws).length n1 R->∀p,G1 p=none->∀p2,upd G1 p (.lst [.ref r1]) p2=none->Q (.ref p2) (upd (upd G1 p (.lst [.ref r1])) p2 (.lst [.ref p])):=by
  intro R eR e0 eW r1 n1 G1 s1 g1 v1 p hp p2 BC;have t1:=ae hp (.lst [.ref r1]);have t2:=ae BC (.lst [.ref p]);refine q _ _ (Same.trans s1 (Same.trans t1 t2)) ⟨p2,_,rfl,af,?_⟩;rw[e0];refine .one ⟨p,_,rfl,t2 _ _ af,.one ⟨r1,n1,rfl,(Same.trans t1 t2) _ _ g1,v1.iff λi j _ _=>?_⟩⟩;rw[eR]
 cases sy
 case either b1 b2=>
  cases OY with
  |cons k1 kr=>cases kr with
   |cons k2 RU=>
    cases RU;exact iz ⟨_,rfl,c,_,_,_,rfl,rfl,SqL.of gc,bp (j:=0) rfl,_,rfl,c,_,_,_,rfl,rfl,SqL.of gc,bp (j:=1) rfl,(LL ws).length,b1.rm,b2.rm,b1.W ws,b2.W ws,_,_,rfl,k1,k2,rm,by lia,q⟩
 case both b1 b2=>
  cases OY with
  |cons k1 kr=>cases kr with
   |cons k2 RU=>
    cases RU;refine dh ⟨_,rfl,a,_,_,_,rfl,rfl,ha,fg _ _,rfl,_,rfl,?_⟩;exact iz ⟨_,rfl,c,_,_,_,rfl,rfl,SqL.of gc,bp (j:=0) rfl,_,rfl,c,_,_,_,rfl,rfl,SqL.of gc,bp (j:=1) rfl,(LL ws).length,b1.rm,b2.rm,b1.W ws,b2.W ws,_,_,rfl,k1,k2,rm,by lia,q⟩
 case again b1=>
  cases OY with
  |cons k1 kr=>
   cases kr;refine dh ⟨_,rfl,a,_,_,_,rfl,rfl,ha,fg _ _,rfl,_,rfl,?_⟩;refine dh ⟨_,rfl,a,_,_,_,rfl,rfl,ha,fg _ _,rfl,_,rfl,?_⟩;exact iz ⟨_,rfl,c,_,_,_,rfl,rfl,SqL.of gc,bp (j:=0) rfl,(LL ws).length,b1.rm,b1.W ws,_,rfl,k1,rm,by lia,q⟩
 case no b1=>
  cases OY with
  |cons k1 kr=>
   cases kr;refine dh ⟨_,rfl,a,_,_,_,rfl,rfl,ha,fg _ _,rfl,_,rfl,?_⟩;refine dh ⟨_,rfl,a,_,_,_,rfl,rfl,ha,fg _ _,rfl,_,rfl,?_⟩;refine dh ⟨_,rfl,a,_,_,_,rfl,rfl,ha,fg _ _,rfl,_,rfl,?_⟩;obtain⟨a1,xs1,rfl,IQ,KA⟩:=k1;obtain⟨_,e1,c1,DH,rfl,FL,HG⟩:=KA.at (c:=0) (by lia);obtain⟨_,f1,d1,KB,rfl,gd1,HF⟩:=HG.at (c:=0) (by lia);refine iz ⟨_,rfl,c,_,_,_,rfl,rfl,SqL.of gc,bp (j:=0) rfl,a1,_,_,_,rfl,rfl,SqL.of IQ,bp (j:=0) e1,c1,_,_,_,rfl,rfl,SqL.of FL,bp (j:=0) f1,(LL ws).length,d1,KB,_,rfl,SqL.of gd1,HF,by lia,λr1 n1 G1 s1 h1 g1 v1=>?_⟩;exact⟨sz1,λp hp=>⟨sz1,λp2 BC=>lone (λ_ _=>rfl) rfl (λ_ _=>rfl) r1 n1 G1 s1 g1 v1 p hp p2 BC⟩⟩
 case note=>
  refine dh ⟨_,rfl,a,_,_,_,rfl,rfl,ha,fg _ _,rfl,_,rfl,?_⟩;refine dh ⟨_,rfl,a,_,_,_,rfl,rfl,ha,fg _ _,rfl,_,rfl,?_⟩;refine dh ⟨_,rfl,a,_,_,_,rfl,rfl,ha,fg _ _,rfl,_,rfl,?_⟩;refine dh ⟨_,rfl,a,_,_,_,rfl,rfl,ha,fg _ _,rfl,_,rfl,?_⟩;exact iz ⟨_,rfl,r,_,rfl,.inl (SqL.of BE),(LL ws).length,(by rw[xl];rfl),by lia,q⟩
 all_goals
  refine dh ⟨_,rfl,a,_,_,_,rfl,rfl,ha,fg _ _,rfl,_,rfl,?_⟩;refine dh ⟨_,rfl,a,_,_,_,rfl,rfl,ha,fg _ _,rfl,_,rfl,?_⟩;refine dh ⟨_,rfl,a,_,_,_,rfl,rfl,ha,fg _ _,rfl,_,rfl,?_⟩;refine dh ⟨_,rfl,a,_,_,_,rfl,rfl,ha,fg _ _,rfl,_,rfl,?_⟩;refine dh ⟨_,rfl,_,rfl,_,rfl,sp,r,ws,.ref a,_,rfl,LC,hx,rfl,du,λr1 n1 G1 s1 h1 g1 v1=>?_⟩;exact⟨sz1,λp hp=>⟨sz1,λp2 BC=>lone (λ_ _=>rfl) rfl (λ_ _=>rfl) r1 n1 G1 s1 g1 v1 p hp p2 BC⟩⟩
end
theorem Tw (s:Say):s.rm<=s.nts:=by
 induction s with
 |again s ih=>exact ih
 |either a b ia ib=>exact Nat.add_le_add ia ib
 |both a b ia ib=>exact Nat.add_le_add ia ib
 |note=>exact aN _
 |_=>exact gO _
theorem Rm {s p:Say}(h:p∈s.parts):p.nts<=s.nts:=by
 induction s with
 |no s ih=>
  rcases aX.mp h with rfl | h
  ·exact aN _
  ·exact ih h
 |again s ih=>
  rcases aX.mp h with rfl | h
  ·exact aN _
  ·exact ih h
 |either a b ia ib=>
  rcases aX.mp h with rfl | h
  ·exact aN _
  ·rcases fK.mp h with h | h
   ·exact cH (ia h) (qA _ _)
   ·exact cH (ib h) (Nat.le_add_left _ _)
 |both a b ia ib=>
  rcases aX.mp h with rfl | h
  ·exact aN _
  ·rcases fK.mp h with h | h
   ·exact cH (ia h) (qA _ _)
   ·exact cH (ib h) (Nat.le_add_left _ _)
 |_=>rw[eG.mp h];exact aN _
theorem Iz {a b:Option Flt}(h:a.or b=none):a=none/\b=none:=by
 cases a with
 |none=>exact⟨rfl,by simpa using h⟩
 |some x=>cases h
theorem Rn {ws:List (Str×Nat)}{s p:Say}(h:p∈s.parts)(d:s.due ws=none):p.due ws=none:=by
 induction s with
 |no s ih=>
  rcases aX.mp h with rfl | h
  ·exact d
  ·have d':(if s.isT=true then s.due ws else some (.test s))=none:=d
   by_cases t:s.isT=true
   ·rw[if_pos t]at d';exact ih h d'
   ·rw[if_neg t]at d';cases d'
 |again s ih=>
  rcases aX.mp h with rfl | h
  ·exact d
  ·exact ih h d
 |either a b ia ib=>
  rcases aX.mp h with rfl | h
  ·exact d
  ·obtain⟨d1,d2⟩:=Iz (show(a.due ws).or (b.due ws)=none from d);rcases fK.mp h with h | h
   ·exact ia h d1
   ·exact ib h d2
 |both a b ia ib=>
  rcases aX.mp h with rfl | h
  ·exact d
  ·obtain⟨d1,d2⟩:=Iz (show(a.due ws).or (b.due ws)=none from d);rcases fK.mp h with h | h
   ·exact ia h d1
   ·exact ib h d2
 |_=>rw[eG.mp h];exact d
theorem ux:∀{ts us:List Say},ts.flatMap Say.parts=us.flatMap Say.parts->ts=us
 | [],[],_=>rfl
 | [],u::us,h=>by rw[jR,i9]at h;cases h
 |t::ts,[],h=>by rw[jR,i9]at h;cases h
 |t::ts,u::us,h=>by
  rw[jR,jR]at h;have e:t=u:=by
   rw[i9 t,i9 u]at h;exact(uY h).1
  subst e;rw[ux (List.append_cancel_left h)]
theorem ya:∀{pre ps F:List Say}{p:Say},F.flatMap Say.parts=pre++p::ps->∃us,ps=(p.kids++us).flatMap Say.parts
 |_,_,[],p,h=>by simp at h
 | [],ps,t::F,p,h=>by
  rw[jR,i9]at h;obtain⟨e1,e2⟩:=uY h;subst e1;exact⟨F,by rw[oH];exact e2.symm⟩
 |q::pre,ps,t::F,p,h=>by
  rw[jR,i9]at h;obtain⟨_,e2⟩:=uY h;have e3:t.kids.flatMap Say.parts++F.flatMap Say.parts=pre++p::ps:=e2;rw[<-oH]at e3;exact ya e3
theorem wb {α β:Type}{F:α->β->Prop}:∀{bs cs:List β}{xs:List α},Paired F xs (bs++cs)->∃x1 x2,xs=x1++x2/\Paired F x1 bs/\Paired F x2 cs
 | [],cs,xs,h=>⟨[],xs,rfl,.nil,h⟩
 |b::bs,cs,_,h=>by
  cases h with
  |cons h1 t=>
   obtain⟨x1,x2,rfl,p1,p2⟩:=wb (bs:=bs) t;exact⟨_::x1,x2,rfl,.cons h1 p1,p2⟩
theorem hide_none {G:Hp}{D:Addr}(h:G D=none):br G D=G:=by
 funext b
 by_cases e:b=D
 ·rw[e,h];unfold br;rw[if_pos rfl]
 ·exact cj e
theorem Oj {G:Hp}{u:Addr}{xs:List V}(h:G u=some (.lst xs)):Tups G (br G u):=
 ⟨λb ys e=>by rw[cj (λz=>by subst z;rw[h]at e;cases e)];exact e,λb o v e=>by rw[cj (λz=>by subst z;rw[h]at e;cases e)];exact e⟩
def Ol (K:aB):Sp:=λvs H Q _=>∃(sp r:Addr)(ws:List (Str×Nat)) (x:V) (s:Say),vs=[.ref sp,.ref r,x]/\Spk K H sp r ws/\Hold K H x s.da/\s.due ws=none/\s.size<=500/\s.nts<=300/\Fp (LL ws).length (s.rm+1) (s.W ws) H Q
section
variable {P:aU}{w:aZ}{K:aB}{mg:Str->Option aC}{base:Heap}
theorem Li:aw zz6 zz3 (aj Dk):=fsN
def Tx:gQ:={ kind:=.function,names:=[(".0",.local),("held",.local),("waiting",.free)],isGenerator:=false,isCoroutine:=false,more:=[] }
theorem cWo_ {CX:CXT}{f:Addr}{AF:aC}{A:cC}{outer:List Env}{s:aG}{H:Hp}{E:XK} :
  cp (bh CX P w K mg base zz6 "ways_of" (aj Dk) f AF A outer s H E).nox ["held"] ["waiting"] [3] Tx [("waiting",s.heap.objs.size+1)]:=csN [(".0",.local),("held",.local),("waiting",.cell)]
theorem Wb {f:Addr}{fd:bQ}(F:Fun K "ways_of" "ways_of" Dk f fd)(hA:Has P w K mg base 2 "parts_of" zzz (su K))(hH:Has P w K mg base 1 "held_in" zzz (Fb K))
  (hP:Has P w K mg base 6 "ways_of_part" zzl (Oi K)) (mr:mg "reversed"=none):‹7› f fd zz3 (Ol K):=by
 obtain⟨fA,dA,GA,bA,kA,mA⟩:=hA;obtain⟨fH,dH,GH,bH,kH,mH⟩:=hH;obtain⟨fP,dP,GP,bP,kP,mP⟩:=hP;exists F,Li
 ·obtain⟨sp,r,ws,x,sy,rfl,_⟩:=h;rfl
 obtain⟨sp,r,ws,x,sy,rfl,LC,hx,du,AQ,AM,q⟩:=h;refine⟨_,ai (bf (i:=3) Li.nd rfl (oV rfl) (bc ag)) (ai (fh fX rfl (Yj rfl mr (aa (ar (FnOk.frame GA) (hr.mono (by decide)) rfl mA kA bA .nil bb (aa (pv 2) ag)) ag)) (bo (i:=4) Li.nd rfl (cD rfl)) (ai (j5 (i0:=5) (ns:=["held"]) (ys:=["waiting"]) (sc:=Tx) Li.nd rfl rfl cWo_ rfl (Aa (ar GH (hr.mono (by decide)) rfl mH kH bH .nil bb (aa (pv 4) ag))) (λC s H fp=>bo (i:=0) (by show(["held","waiting"]:List Str).Nodup;decide +kernel) rfl (cD rfl)) (λC s H fp=>cz) (λC s H fp=>V7 (K:=K) rfl fG sZ tI Ea (pv 1))) (ak (df (ki fG jF jG gq (pv 3) (aa (ar (FnOk.frame GP) hr rfl mP kP bP .nil bb (aa (pv 0) (aa (pv 1) (aa (pv 4) (aa (pv 5) ag))))) ag)))))) (ak (az (Ai fG sZ tI Ea (pv 3))))),?_⟩;dsimp only[bh,Cx.nox];refine⟨sz0,λu hu=>?_⟩;have s0:Same H (br (upd H u (.lst [])) u):=sx (ae hu _) hu;refine⟨_,rfl,u,[],af,x,sy,rfl,hx.mono s0,AQ,λr1 xs B sB gr hB VL=>?_⟩;have VM:=Same.trans s0 sB;have ru:r1≠u:=aq gr VL;have xl:xs.length=sy.parts.length:=(by rw[hB.length,aJ]);have p500:sy.parts.length<=500:=(by rw[ig];exact AQ);refine⟨r1,xs,rfl,SqL.of (by rw[ao ru];exact gr),V6 (K:=K) (a:=r1) (xs:=xs) (λi σ G=>∃(v4 v5:Option V)(zs:List V) (ts:List Say),σ=[some (.ref sp),some (.ref r),some x,some (.ref u),v4,v5]/\Same B (br G u)/\G u=some (.lst zs)/\sy.parts.drop (sy.parts.length - i)=ts.flatMap Say.parts/\Paired (λy k=>Rj (br G u) ws k y) zs.reverse ts/\zs.length<=i) ⟨none,none,[],[],rfl,(by rw[gw,hide_none VL];exact λ_ _ z=>z),af,(by rw[wF,pW];rfl),.nil,aN _⟩ (λi σ G _ AD=>by obtain⟨_,_,_,_,_,sG,_⟩:=AD;exact SqL.of (hide_le _ _ (sG _ _ gr))) ?_ ?_⟩
 ·intro i x σ G EE AC;obtain⟨v4,v5,zs,ts,rfl,sG,gu,OZ,pz,zl⟩:=AC;generalize AJ:gg.mk _ _ _ _=BG;revert AJ BG;refine id ?_;intro BG AJ;have hi:i < sy.parts.length:=by
   have:=(aM.mp EE).1;rw[iJ]at this;lia
  rw[sX (by lia)]at EE;obtain⟨p,ep,hp⟩:=hB.getm EE;rw[xl]at ep;have pm:p∈sy.parts:=bV ep;have ed:sy.parts.drop (sy.parts.length - 1 - i)=p::sy.parts.drop (sy.parts.length - i):=by
   obtain⟨h1,h2⟩:=aM.mp ep;rw[iY h1,h2,show sy.parts.length - 1 - i+1=sy.parts.length - i by lia]
  obtain⟨us,eu⟩:∃us,sy.parts.drop (sy.parts.length - i)=(p.kids++us).flatMap Say.parts:=by
   refine ya (F:=[sy]) (pre:=sy.parts.take (sy.parts.length - 1 - i)) (p:=p) ?_;rw[<-ed,nM];simp
  have et:ts=p.kids++us:=ux (OZ.symm.trans eu);subst et;obtain⟨zk,zv,ez,pk,pv'⟩:=wb pz;have VN:zs=zv.reverse++zk.reverse:=(by rw[<-qI,<-ez,nW]);have hpG:Hold K G x p.da:=(hp.mono sG).mono hide_le;refine⟨_,rfl,x,p,rfl,hpG,λa ks G1 s1 ha hks=>?_⟩;have JV:=s1 _ _ gu;have haB:SqT K (br G1 u) a ks:=ha.tups (Oj JV);have kl:ks.length=p.kids.length:=(by rw[hks.length,aJ]);have RV:zk.length=p.kids.length:=Paired.length pk;refine⟨a,rfl,⟨_,ha⟩,λD hD=>?_⟩;have Du:D≠u:=Ne.symm (aq JV hD);have VO:(br G1 u) D=none:=(by rw[cj Du];exact hD);have zsl:zs.length=zv.length+zk.length:=(by rw[VN,aQ,iJ,iJ]);refine Ed (K:=K) (a:=a) (xs:=ks) (λj ys G2=>Same (br G1 u) (br G2 u)/\G2 u=some (.lst (zv.reverse++(zk.drop j).reverse))/\G2 D=some (.lst ys)/\ys=zk.take j)
   ⟨?_,?_,af,rfl⟩ (λi ys G z=>z.2.2.1) (λi ys G _ z=>(haB.same z.1).same hide_le) ?_ ?_
  ·intro b o e;have hb:b≠D:=aq e VO;have PB:b≠u:=λz=>(by subst z;unfold br at e;rw[if_pos rfl]at e;cases e);rw[cj PB]at e ⊢;rw[ao hb];exact e
  ·rw[ao (Ne.symm Du),JV,VN];rfl
  ·intro j y ys G2 hy AC;obtain⟨s2,HI,CO,rfl⟩:=AC;have hj:j < zk.length:=(by rw[RV,<-kl];exact(aM.mp hy).1);have VP:zk.drop j=zk[j]::zk.drop (j+1):=iY hj;refine⟨bj (by rw[cK];lia),⟨[some _],rfl,rfl⟩,?_⟩;refine⟨_,rfl,.inl ⟨rfl,_,SqL.of HI⟩,u,_,zk[j],rfl,rfl,HI,?_,?_⟩
   ·rw[VP,lZ,<-nU];simp
   ·refine⟨by rw[ao Du];exact CO,?_,?_,af,?_⟩
    ·intro b o e;have hb:b≠D:=aq e VO;have PB:b≠u:=λz=>(by subst z;unfold br at e;rw[if_pos rfl]at e;cases e);have e2:=s2 _ _ e;rw[cj PB]at e2 ⊢;rw[ao hb,ao PB];exact e2
    ·rw[ao (Ne.symm Du),af,VP,lZ,<-nU,List.dropLast_concat]
    ·rw[eX,aK hj];rfl
  ·intro ys G2 AC;obtain⟨s2,HI,CO,rfl⟩:=AC;rw[kl,<-RV,gN]at CO;rw[kl,<-RV,pW]at HI;have MY:G2 u=some (.lst zv.reverse):=(by rw[HI];simp);have RW:Same (br G u) (br G2 u):=Same.trans (d6 s1) s2;have RX:=Same.trans sG RW;refine⟨_,rfl,.inl ⟨rfl,_,SqL.of MY⟩,?_⟩;refine⟨_,rfl,_,rfl,_,rfl,_,rfl,u,_,MY,sp,r,D,ws,x,p,zk,rfl,LC.mono (Same.trans VM RX),hp.mono RX,Rn pm du,cH (Tw p) (cH (Rm pm) AM),(by rw[cj Du];exact CO),Paired.mapP pk λy k z=>z.mono RW,λy H' sH wy KD=>?_⟩;refine⟨u,_,_,rfl,rfl,af,bj (by rw[iJ];lia),?_⟩;have eH:br (upd (upd H' u (.lst zv.reverse)) u (.lst (zv.reverse++[y]))) u=H':=(by rw[gw,gw,hide_none KD]);subst AJ;refine⟨_,_,_,p::us,rfl,(by rw[eH];exact Same.trans RX sH),af,?_,?_,(by rw[aQ,iJ];show _+1<=_;lia)⟩
   ·rw[show sy.parts.length - (i+1)=sy.parts.length - 1 - i by lia,ed,eu,jR,i9 p,oH];rfl
   ·rw[eH,qI,nW];exact .cons wy (Paired.mapP pv' λy k z=>(z.mono RW).mono sH)
 ·intro σ G AC;obtain⟨v4,v5,zs,ts,rfl,sG,gu,OZ,pz,zl⟩:=AC;rw[xl,yR,rO]at OZ;have et:ts=[sy]:=ux (OZ.symm.trans (by simp));subst et;have ez:∃y,zs=[y]/\Rj (br G u) ws sy y:=by
   generalize hz:zs.reverse=zr at pz;cases pz with
   |cons h1 t=>
    cases t;exact⟨_,by rw[<-nW zs,hz];rfl,h1⟩
  obtain⟨y,rfl,wy⟩:=ez;refine⟨_,rfl,.inl ⟨rfl,_,SqL.of gu⟩,u,_,y,rfl,rfl,gu,rfl,q y _ (Same.trans VM (Same.trans sG Fo)) (wy.mono Fo)⟩
end
end S63
namespace L2
open PySem PySem.Spec PyProof.Rows
structure Yq (K:aB)(C:Addr)(m:Str)(f:Addr):Prop where
 ga:pJ K (.ref C) "__getattribute__"=some (some (.builtin "type.__getattribute__"))
 rd:qN K C (.type "type")=true
 fc:qO K (.ref C) (.type "type") m=some (.val (.ref f))
 kp:aR K (.ref f)=true
section
variable {X:Cx}{CX:CXT}{k:Nat}{f C:Addr}{fd:bQ}{ps:List Str}{sp:Sp}{CB:List V}{ds:List aC}{E:XK}{x m:Str}{p pos ap:Pos}{a:Expr}{es:List Expr}{t:TA}
theorem Ro {pl:Sem Bool}(c:Yq X.K C m f)(F:FnOk X.prog X.w X.K X.mg X.base CX k f fd ps sp)(hr:Room k X.A)(hg:Gl X x)(hm:X.mg x=some (.ref C))(hb:Binds X.K fd ps ds)(hd:Vals CB ds)(hx:n8 CX X E)(ha:PA X (a::es) t)
  (C':(x == ("__debug__":Str))=false:=by decide) (he:cJ (a::es) X.env=(false,eval a X.env)::cJ es X.env:=by rfl) (BK:(jU pos (cJ es X.env)).any (·.1)=false:=by rfl)
  (ht:eval (.Call (.Attribute (.Name x p) m ap) (a::es) [] pos) X.env=(do
    let ov <-eval (.Name x p) X.env
    vL ap.atName
    let (f,first) <-rE [ov] (wK ov m pl)
    callWith pos f first (jU pos (cJ (a::es) X.env)) (vS pos (sE [] X.env))):=by rfl) :
  PE X (.Call (.Attribute (.Name x p) m ap) (a::es) [] pos) (Sv sp CB E t):=by
 intro f' s σ H Q I h;refine sW (pl:=pl) (j3 I hg hm ?_ C') ht;refine PySem.W.method_cls I.kIn c.ga (PySem.W.cls_value I.kIn c.rd c.fc rfl ?_);refine nB (h₀:=X.base) I.ok.mod.kin c.kp (thn (ha pos f' _ σ H _ (I.tok (s.toks+1)) h) λus s1 AD=>?_) he BK;obtain⟨vs,H1,I1,r,q⟩:=AD;refine⟨I1.kIn,?_⟩;exact D5 F hr hb hd hx I1 r q
end
end L2
namespace S63
open PySem L2 Bits S1 Fly
def Rp (P:aU)(w:aZ)(K:aB)(mg:Str->Option aC)(base:Heap)(C:Addr)(k:Nat)(x:Str)(ps:List Str)(sp:Sp):Prop:=
 ∃f d,FnOk P w K mg base CX0 k f d ps sp/\Binds K d ps []/\Pw K C x f
structure MC (K:aB)(C:Addr):Prop where
 cl:Cls K C
 nl:NoAttr K C "letters"
 nw:NoAttr K C "ways"
def MachAt (K:aB)(H:Hp)(C m:Addr)(ls:List (List Int))(k:Nat)(W:Nat->Nat->Rl):Prop:=∃dx r xw,H m=some (.ins C dx [("letters",.ref r),("ways",xw)])/\LetAt K H r ls/\WaysAt H ls.length (k+1) W xw
theorem MachAt.mono {K:aB}{H G:Hp}{C m:Addr}{ls:List (List Int)}{k:Nat}{W:Nat->Nat->Rl}(h:MachAt K H C m ls k W)(s:Same H G):MachAt K G C m ls k W:=by
 obtain⟨dx,r,xw,h1,⟨xs,h2,h3⟩,h4⟩:=h;exact⟨dx,r,xw,s _ _ h1,⟨xs,s _ _ h2,h3.mono s⟩,h4.mono s⟩
def Om (n k:Nat)(ns:List Int)(T:Nat->Nat->Prop):Prop:=ns.length=k/\∀c m,ns[c]?=some m->MaskP n m (T c)
def Yr (C:Addr):Sp:=λvs H Q _=>∃(m dx:Addr)(y z:V),vs=[.ref m,y,z]/\H m=some (.ins C dx [])/\Q .non (upd H m (.ins C dx [("letters",y),("ways",z)]))
def Dw (rs:List Nat):List V:=rs.map λ(r:Nat)=>V.int (r:Int)
def A1 (W:Nat->Nat->Rl)(rs:List Nat)(i:Nat)(c j:Nat):Prop:=∃r,r∈rs/\W r c i j
def Tz (K:aB)(H:Hp)(C:Addr)(m t lt:Addr)(ls:List (List Int))(k:Nat)(W:Nat->Nat->Rl)(rs:List Nat)(l:List Int):Prop:=
 MachAt K H C m ls k W/\SqT K H t (Dw rs)/\(∀r∈rs,r < k+1)/\rs.length<=400/\SqT K H lt (l.map V.int)/\l∈ls/\ls.length<=300/\k<=300
def I0 (K:aB)(C:Addr):Sp:=λvs H Q _=>∃(m t lt:Addr)(ls:List (List Int)) (k:Nat) (W:Nat->Nat->Rl) (rs:List Nat) (l:List Int),vs=[.ref m,.ref t,.ref lt]/\Tz K H C m t lt ls k W rs l/\
 ∀(p:Addr)(ns:List Int) (H':Hp),Same H H'->H p=none->H' p=some (.lst (ns.map V.int))->Om ls.length (k+1) ns (A1 W rs (ls.idxOf l))->Q (.ref p) H'
section
variable {P:aU}{w:aZ}{K:aB}{mg:Str->Option aC}{base:Heap}{C:Addr}
theorem scRi:aw zze zze (aj Eu):=fsN
theorem Rq {f:Addr}{fd:bQ}(F:Fun K "__init__" "Runs.__init__" Eu f fd)(M:MC K C):‹1› f fd zze (Yr C):=by
 exists F,scRi
 ·obtain⟨m,dx,y,z,rfl,_⟩:=h;rfl
 obtain⟨m,dx,y,z,rfl,hm,q⟩:=h;refine⟨_,ai (Mp (pv 0) (pv 1) rfl) (ak (Mp (pv 0) (pv 2) rfl)),?_⟩;dsimp only[bh,Cx.nox];refine⟨_,rfl,_,rfl,m,C,dx,_,rfl,hm,M.cl,M.nl,(by decide),?_⟩;refine⟨_,rfl,_,rfl,m,C,dx,_,rfl,af,M.cl,M.nw,(by show 1 < 1000;decide),?_⟩;rw[Uk];exact q
theorem Fv:aw zyw zzp (aj Ap):=fsN
def T8:gQ:={ kind:=.function,names:=[(".0",.local),("mask",.local),("relation",.local),("place",.free)],isGenerator:=false,isCoroutine:=false,more:=[] }
theorem cMa_ {CX:CXT}{f:Addr}{AF:aC}{A:cC}{outer:List Env}{s:aG}{H:Hp}{E:XK} :
  cp (bh CX P w K mg base zyw "Runs.masks_from" (aj Ap) f AF A outer s H E).nox zzc ["place"] [3] T8 [("place",s.heap.objs.size+1)]:=csN [(".0",.local),("mask",.local),("relation",.local),("place",.cell)]
theorem Rr {f:Addr}{fd:bQ}(F:Fun K "masks_from" "Runs.masks_from" Ap f fd)(M:MC K C)(ml:mg "len"=none)(mz:mg "zip"=none):‹1› f fd zzp (I0 K C):=by
 exists F,Fv
 ·obtain⟨m,t,lt,ls,k,W,rs,l,rfl,_⟩:=h;rfl
 obtain⟨m,t,lt,ls,k,W,rs,l,rfl,⟨⟨dx,r,xw,hm,⟨xs,BE,CL⟩,ww⟩,ht,hrs,r400,AZ,hl,AM,BV⟩,q⟩:=h;refine⟨_,ai (bf (i:=3) Fv.nd rfl (oV rfl) (ki fG rV PySem.F.type_list_index (Fs (hu8 hr)) (Ae (pv 0) rfl) (aa (pv 2) ag))) (ai (bf (i:=4) Fv.nd rfl (cD rfl) (ba Eb (bc (bq ah ag)) (bz cg rfl ml gT (aa (Ae (pv 0) rfl) ag)))) (ai (fh fX rfl (Aa (pv 1)) (bo (i:=5) Fv.nd rfl (cD rfl)) (ai (j5 (i0:=4) (ns:=zzc) (ys:=["place"]) (sc:=T8) Fv.nd rfl rfl cMa_ rfl (B5 rfl mz (aa (pv 4) (aa (av ax (Ae (pv 0) rfl) (pv 5) (λ_ _=>rfl)) ag))) (λC s H fp=>pg2 rfl) (λC s H fp=>cz) (λC s H fp=>ba J1 (pv 0) (av (r:=Bn K) ax (pv 1) (pv 2) (λ_ _=>rfl)))) cf)) (ak (az (pv 4))))),?_⟩;dsimp only[bh,Cx.nox];obtain⟨a,rows,rfl,ga,la⟩:=id ww;have rl:=la.1;have hj:ls.idxOf l < ls.length:=rC.mpr hl;refine⟨_,rfl,m,C,dx,_,_,rfl,hm,M.cl,M.nl,rfl,.inl ⟨rfl,_,SqL.of BE⟩,_,rfl,r,lt,xs,ls,l,rfl,rfl,SqL.of BE,rh CL,AZ,hl,?_⟩;refine⟨sz1,λp0 MP=>?_⟩;have t0:=ae MP (.lst [.int 0]);refine⟨_,rfl,m,C,dx,_,_,rfl,t0 _ _ hm,M.cl,M.nw,rfl,a,_,rfl,.inl (SqL.of (t0 _ _ ga)),p0,_,_,rfl,rfl,af,(by rw[rl];lia),(by rw[rl];lia),?_,λp1 DM=>?_⟩
 ·rw[rl];show 1 * (((k+1:Nat):Int)).toNat<=sizeLine;exact small (by lia)
 have t1:=ae DM (.lst (dJ (((rows.length:Nat):Int)).toNat [V.int 0]).flatten);have sA:=Same.trans t0 t1;have hp1H:H p1=none:=Same.free t0 DM;refine⟨_,rfl,t,rfl,⟨_,ht.same sA⟩,Hv (K:=K) (a:=t) (xs:=Dw rs) (λi σ G=>∃(b:Addr)(ns:List Int) (v5:Option V),σ=[some (.ref m),some (.ref t),some (.ref lt),some (.int ((ls.idxOf l:Nat):Int)),some (.ref b),v5]/\Same H G/\H b=none/\G b=some (.lst (ns.map V.int))/\Om ls.length (k+1) ns (A1 W (rs.take i) (ls.idxOf l))) ⟨p1,dJ (k+1) 0,none,rfl,sA,hp1H,?_,⟨iA,λc mk e=>?_⟩⟩ (λi σ G _ AD=>by obtain⟨_,_,_,_,sG,_⟩:=AD;exact ht.same sG) ?_ ?_⟩
 ·rw[af,rl,show(((k+1:Nat):Int)).toNat=k+1 by lia,Fk]
 ·rw[List.eq_of_mem_replicate (bV e)];exact(jk _).iff λj _=>⟨λf=>f.elim,λAD=>by obtain⟨_,z,_⟩:=AD;exact by simp at z⟩
 ·intro i x σ G hx AC;obtain⟨b,ns,v5,rfl,sG,hb,gb,mp⟩:=AC;generalize AJ:gg.mk _ _ _ _=BG;revert AJ BG;refine id ?_;intro BG AJ;unfold Dw at hx;rw[cQ]at hx;obtain⟨rm,er,rfl⟩:=gY.mp hx;have PD:=hrs rm (bV er);obtain⟨_,ey,c,zs,rfl,gc,lc⟩:=la.at PD;have zl:=lc.1;have nl:=mp.1;refine⟨_,rfl,_,rfl,m,C,dx,_,_,rfl,sG _ _ hm,M.cl,M.nw,rfl,_,rfl,a,_,_,_,rfl,rfl,SqL.of (sG _ _ ga),bp ey,b,c,_,_,rfl,SqL.of gb,SqL.of (sG _ _ gc),λD hD=>?_⟩;refine vz (K:=K) (a:=b) (b:=c) (xs:=ns.map V.int) (ws:=zs) (by rw[aJ,nl,zl]) (λe ys G2=>Same G G2/\G2 D=some (.lst ys)/\∃us:List Int,ys=us.map V.int/\us.length=e/\∀c mk,us[c]?=some mk->MaskP ls.length mk (A1 W (rs.take (i+1)) (ls.idxOf l) c))
   ⟨ae hD _,af,[],rfl,rfl,λc mk e=>by simp at e⟩ (λi ys G z=>z.2.1) (λi ys G _ z=>⟨SqL.of (z.1 _ _ gb),SqL.of (z.1 _ _ (sG _ _ gc))⟩) ?_ ?_ ?_
  ·intro e ys G2 he AC;obtain⟨s2,gD,us,rfl,ul,um⟩:=AC;rw[aJ,nl]at he;exact bj (by rw[aJ];lia)
  ·intro e x y tt ys G2 KC hy AC VQ;obtain⟨s2,gD,us,rfl,ul,um⟩:=AC;obtain⟨mk,emk,rfl⟩:=iq KC;obtain⟨rr,nr,rfl,grr,rrel⟩:=(lc.2 e y hy).mono (Same.trans sG s2);have Dt:D≠tt:=aq gD VQ;have ts:=ae VQ (.tup [.int mk,.ref rr]);obtain⟨v,ev,mv⟩:=rrel.at hj;have vv:(nr.map V.int)[ls.idxOf l]?=some (.int v):=(by rw[cQ,ev];rfl);refine⟨tt,_,rfl,SqT.of af,rfl,_,_,rfl,_,_,rfl,rfl,⟨[some _,some _],rfl,rfl⟩,?_⟩;refine⟨_,rfl,_,rfl,_,rfl,rr,_,_,_,rfl,rfl,SqL.of (ts _ _ grr),bp vv,_,_,rfl,rfl,ts _ _ gD,Same.put (Same.trans s2 ts) hD _,af,us++[nO mk v],(by rw[cU];rfl),(by rw[aQ,ul];rfl),λc' mk' e'=>?_⟩;by_cases hc:c' < us.length
   ·rw[eK hc]at e';exact um c' mk' e'
   ·rw[gF (by lia)]at e';have h0:=(aM.mp e').1;simp only[eE,oX]at h0;have ec:c'=e:=(by lia);subst ec;rw[show c' - us.length=0 by lia]at e';cases e';refine(uu (mp.2 c' mk emk) mv).iff λj hjj=>?_;have tk:rs.take (i+1)=rs.take i++[rm]:=(by rw[eX,er];rfl);unfold A1;rw[tk];constructor
    ·rintro(⟨r0,h1,h2⟩ | h)
     ·exact⟨r0,lT _ h1,h2⟩
     ·exact⟨rm,fQ _ (List.mem_singleton.mpr rfl),h⟩
    ·intro AC;obtain⟨r0,h1,h2⟩:=AC;rcases fK.mp h1 with z | z
     ·exact .inl ⟨r0,z,h2⟩
     ·rw[eG.mp z]at h2;exact .inr h2
  ·intro ys G2 AC;obtain⟨s2,gD,us,rfl,ul,um⟩:=AC;rw[aJ,nl]at ul;subst AJ;exact⟨D,us,_,rfl,Same.trans sG s2,Same.free sG hD,gD,ul,um⟩
 ·intro σ G AC;obtain⟨b,ns,v5,rfl,sG,hb,gb,mp⟩:=AC;unfold Dw at mp;rw[aJ,gN]at mp;exact⟨_,rfl,q b ns G sG hb gb mp⟩
end
theorem A2 {K:aB}{H:Hp}{xs:List V}{ls:List (List Int)}(h:Holds K H xs (ls.map jq))(m:Int):∀k,k<=xs.length->Holds K H (pick m xs k) ((pick m ls k).map jq)
 |0,_=>.nil
 |k+1,hk=>by
  have ih:=A2 h m k (by lia);have ex:xs[k]?=some xs[k]:=aK (by lia);obtain⟨l,el,hl⟩:=h.getm ex;cases hb:m.toNat.testBit k with
  |true=>
   rw[yt hb ex,yt hb el,cU];exact ih.append (.one hl)
  |false=>
   rw[B6 hb,B6 hb];exact ih
def Ja (K:aB)(C:Addr):Sp:=λvs H Q _=>∃(m t lt:Addr)(ls:List (List Int)) (k:Nat) (W:Nat->Nat->Rl) (rs:List Nat) (l:List Int),vs=[.ref m,.ref t,.ref lt]/\Tz K H C m t lt ls k W rs l/\
 ∀(p:Addr)(mk:Int) (H':Hp),Same H H'->H p=none->MaskP ls.length mk (A1 W rs (ls.idxOf l) 0)->LetAt K H' p (pick mk ls ls.length)->Q (.ref p) H'
def On (K:aB)(C:Addr):Sp:=λvs H Q _=>∃(m lt:Addr)(ls:List (List Int)) (k:Nat) (W:Nat->Nat->Rl) (r:Nat) (l:List Int),vs=[.ref m,.int (r:Int),.ref lt]/\MachAt K H C m ls k W/\r < k+1/\SqT K H lt (l.map V.int)/\l∈ls/\ls.length<=300/\k<=300/\
 ∀(p:Addr)(mk:Int) (H':Hp),Same H H'->H p=none->MaskP ls.length mk (W r 0 (ls.idxOf l))->LetAt K H' p (pick mk ls ls.length)->Q (.ref p) H'
section
variable {P:aU}{w:aZ}{K:aB}{mg:Str->Option aC}{base:Heap}{C:Addr}
theorem scEf:aw zzp zzp (aj Ew):=fsN
theorem Rt {f:Addr}{fd:bQ}(F:Fun K "ends_from" "Runs.ends_from" Ew f fd)(M:MC K C)(hL:Has P w K mg base 1 "letters_in" zyt (Iu K))(hM:Rp P w K mg base C 1 "masks_from" zzp (I0 K C)) :
  ‹2› f fd zzp (Ja K C):=by
 obtain⟨fL,dL,GL,bL,kL,mL⟩:=hL;obtain⟨fM,dM,GM,bM,me⟩:=hM;exists F,scEf
 ·obtain⟨m,t,lt,ls,k,W,rs,l,rfl,_⟩:=h;rfl
 obtain⟨m,t,lt,ls,k,W,rs,l,rfl,as,q⟩:=h;refine⟨_,ak (az (ar GL hr rfl mL kL bL .nil bb (aa (Ae (pv 0) rfl) (aa (av ax (Bl (pv 0) M.cl me GM hr bM .nil bb (aa (pv 1) (aa (pv 2) ag))) ah (λ_ _=>rfl)) ag)))),?_⟩;dsimp only[bh,Cx.nox];obtain⟨⟨dx,r,xw,hm,⟨xs,BE,CL⟩,ww⟩,_,_,_,_,_,AM,BV⟩:=id as;have xl:xs.length=ls.length:=(by rw[CL.length,aJ]);refine⟨_,rfl,m,C,dx,_,_,rfl,hm,M.cl,M.nl,rfl,_,rfl,m,dx,_,rfl,hm,rfl,_,rfl,_,rfl,m,t,lt,ls,k,W,rs,l,rfl,as,λp1 ns G1 s1 h1 g1 mp=>?_⟩;have nl:=mp.1;have e0:ns[0]?=some (ns[0]'(by lia)):=aK (by lia);have v0:(ns.map V.int)[0]?=some (.int (ns[0]'(by lia))):=(by rw[cQ,e0];rfl);have m0:=mp.2 0 _ e0;refine⟨p1,_,_,_,rfl,rfl,SqL.of g1,bp (j:=0) v0,r,ls.length,_,xs,rfl,m0.1,SqL.of (s1 _ _ BE),by lia,λp2 G2 s2 h2 g2=>?_⟩;have DG:=Same.trans s1 s2;rw[xl]at g2;refine q p2 _ G2 DG (Same.free s1 h2) m0 ⟨_,g2,?_⟩;exact A2 (CL.mono DG) _ _ (by lia)
theorem scEn:aw zz2 zz2 (aj Kx):=fsN
theorem Wc {f:Addr}{fd:bQ}(F:Fun K "ends" "Runs.ends" Kx f fd)(M:MC K C)(hE:Rp P w K mg base C 2 "ends_from" zzp (Ja K C)):‹3› f fd zz2 (On K C):=by
 obtain⟨fE,dE,GE,bE,me⟩:=hE;exists F,scEn
 ·obtain⟨m,lt,ls,k,W,r,l,rfl,_⟩:=h;rfl
 obtain⟨m,lt,ls,k,W,r,l,rfl,ma,hrk,AZ,hl,AM,BV,q⟩:=h;refine⟨_,ak (az (Bl (pv 0) M.cl me GE hr bE .nil bb (aa (cb (aa (pv 1) ag)) (aa (pv 2) ag)))),?_⟩;obtain⟨dx,r1,xw,hm,_⟩:=id ma;refine⟨_,rfl,m,dx,_,rfl,hm,rfl,_,rfl,sz1,λt ht=>?_⟩;have tt:=ae ht (.tup [.int (r:Int)]);refine⟨_,rfl,m,t,lt,ls,k,W,[r],l,rfl,⟨ma.mono tt,SqT.of af,λr' CT=>(by rw[eG.mp CT];exact hrk),(by show 1<=400;decide),AZ.same tt,hl,AM,BV⟩,λp mk H' s1 h1 mp la=>?_⟩;exact q p mk H' (Same.trans tt s1) (Same.free tt h1) (mp.iff λj _=>⟨λAD=>by obtain⟨r',z1,z2⟩:=AD;exact by rw[eG.mp z1]at z2;exact z2,λz=>⟨r,List.mem_singleton.mpr rfl,z⟩⟩) la
end
def Ys (K:aB)(C cF cV cT:Addr):Sp:=λvs H Q E=>∃(m dx sp:Addr)(ws:List (Str×Nat)) (x:V) (s:Say),vs=[.ref m,.ref sp,x]/\H m=some (.ins C dx [])/\Hold K H (.ref sp) (fw ws)/\fo ws/\Hold K H x s.da/\s.size<=500/\s.nts<=300/\
 (s.due ws=none->∀H',Same (br H m) H'->MachAt K H' C m (LL ws) s.rm (s.W ws)->Q .non H')/\(∀f,s.due ws=some f->FOut K H E cF cV cT f)
def Lj (H H':Hp):Prop:=∀b xs,H b=some (.lst xs)->H' b=some (.lst xs)
theorem RelAt.lsts {H H':Hp}{n:Nat}{R:Rl}{x:V}(e:Lj H H')(h:RelAt H n R x):RelAt H' n R x:=by
 obtain⟨a,ns,rfl,g,r⟩:=h;exact⟨a,ns,rfl,e _ _ g,r⟩
theorem RowAt.lsts {H H':Hp}{n k:Nat}{W:Nat->Rl}{x:V}(e:Lj H H')(h:RowAt H n k W x):RowAt H' n k W x:=by
 obtain⟨a,xs,rfl,g,r⟩:=h;exact⟨a,xs,rfl,e _ _ g,r.imp λ_ _ _ z=>z.lsts e⟩
theorem WaysAt.lsts {H H':Hp}{n k:Nat}{W:Nat->Nat->Rl}{x:V}(e:Lj H H')(h:WaysAt H n k W x):WaysAt H' n k W x:=by
 obtain⟨a,xs,rfl,g,r⟩:=h;exact⟨a,xs,rfl,e _ _ g,r.imp λ_ _ _ z=>z.lsts e⟩
section
variable {P:aU}{w:aZ}{K:aB}{mg:Str->Option aC}{base:Heap}{C cF cV cT cR:Addr}
theorem Yt:aw ["self","speech","saying","letters"] zza (aj Ey):=fsN
theorem Ru {f fM fR:Addr}{fd dM dR:bQ}(F:Fun K "__init__" "Machine.__init__" Ey f fd)
  (GM:FnOk P w K mg base (CXx P w) 6 fM dM zzr (Qr K cF cV cT)) (bM:Binds K dM zzr []) (kM:aR K (.ref fM)=true) (mM:mg "must_saying"=some (.ref fM))
  (hL:Has P w K mg base 2 "letters_of" zyi (v7 K)) (hW:Has P w K mg base 7 "ways_of" zz3 (Ol K))
  (GR:‹1› fR dR zze (Yr C)) (bR:Binds K dR zze []) (cm:Yq K cR "__init__" fR) (mR:mg "Runs"=some (.ref cR)) :
  FnOk P w K mg base (CXx P w) 8 f fd zza (Ys K C cF cV cT):=by
 obtain⟨fL,dL,GL,bL,kL,mL⟩:=hL;obtain⟨fW,dW,GW,bW,kW,mW⟩:=hW;refine F.okX Yt (λvs H Q E h=>?_) (λAF A outer s H vs Q E hr h=>?_)
 ·obtain⟨m,dx,sp,ws,x,sy,rfl,_⟩:=h;rfl
 obtain⟨m,dx,sp,ws,x,sy,rfl,hm,AY,IT,hx,AQ,AM,q1,q2⟩:=h;refine⟨_,ai (df (ar GM (hr.mono (by decide)) rfl mM kM bM .nil qe (aa (pv 1) (aa (pv 2) ag)))) (ai (bf (i:=3) Yt.nd rfl (cD rfl) (ar GL (hr.mono (by decide)) rfl mL kL bL .nil bb (aa (pv 1) ag))) (ak (df (Ro cm GR (hr.mono (by decide)) rfl mR bR .nil bb (aa (pv 0) (aa (pv 3) (aa (ar GW hr rfl mW kW bW .nil bb (aa (pv 1) (aa (pv 3) (aa (pv 2) ag)))) ag))))))),?_⟩;refine⟨_,rfl,_,rfl,sp,x,ws,sy,rfl,AY,hx,AQ,λdu G1 s1=>?_,q2⟩;refine⟨_,rfl,sp,ws,rfl,AY.mono s1,IT,λr G2 s2 h2 la=>?_⟩;have DG:=Same.trans s1 s2;refine⟨_,rfl,_,rfl,_,rfl,_,rfl,_,rfl,sp,r,ws,x,sy,rfl,⟨AY.mono DG,la,IT⟩,hx.mono DG,du,AQ,AM,λy G3 s3 wy=>?_⟩;have CU:=Same.trans DG s3;have gm:=CU _ _ hm;refine⟨m,dx,.ref r,y,rfl,gm,q1 du _ ?_ ?_⟩
 ·intro b o e;have hb:b≠m:=λz=>(by subst z;unfold br at e;rw[if_pos rfl]at e;cases e);rw[ao hb];exact CU _ _ (hide_le _ _ e)
 ·have nm:∀{b:Addr}{o:HO},G3 b=some o->(∀fs,o≠.ins C dx fs)->b≠m:=λ{b o} e n z=>(by subst z;rw[gm]at e;cases e;exact n _ rfl);have tp:Tups G3 (upd G3 m (.ins C dx [("letters",.ref r),("ways",y)])):=⟨λb xs e=>by rw[ao (nm e (λ_ z=>nomatch z))];exact e,λb o u e=>by rw[ao (nm e (λ_ z=>nomatch z))];exact e⟩;have lp:Lj G3 (upd G3 m (.ins C dx [("letters",.ref r),("ways",y)])):=λb xs e=>(by rw[ao (nm e (λ_ z=>nomatch z))];exact e);obtain⟨xs,gx,GK⟩:=la;exact⟨dx,r,y,af,⟨xs,lp _ _ (s3 _ _ gx),(GK.mono s3).stay tp (d8 jz _)⟩,wy.lsts lp⟩
end
end S63
namespace L2
open PySem PyProof.Rows
section
variable {X:Cx}{pos:Pos}
theorem Cz (ns:List Int):∀n,wA (λi=>ns.getD i 0) n=(ns.take n).sum
 |0=>by simp[wA]
 |n+1=>by
  show wA (λi=>ns.getD i 0) n+ns.getD n 0=_;rw[Cz ns n,eX,tY,gG];cases ns[n]?<;>simp
def rSumS (K:aB):List V->Hp->VK->Prop:=λxs H Q=>∃(a:Addr)(ns:List Int),xs=[.ref a]/\SqL K H a (ns.map V.int)/\ns.length<=1000/\(∀n∈ns,-1000000<=n/\n<=1000000)/\Q (.int ns.sum) H
theorem Oo (hc:X.calm=true):jw X (.builtin "sum") (rSumS X.K):=by
 intro f' s σ H xs us Q I r h;obtain⟨a,ns,rfl,hq,h1000,hr,q⟩:=h;obtain⟨u,rfl,ru⟩:=j9 r;cases ru;obtain⟨its,rv,pl,hz⟩:=I.list hq;have hl:=pl.isList;have lt:a < s.heap.objs.size:=(by obtain⟨o,ho,_⟩:=hl;exact aW ho);have I1:Inv X f' σ H { s with heap:=s.heap.push { cls:=.type "list_iterator",data:=.fields #[.ref a,.int 0 0] } }:=I.kept (t':=s.toks) λb o e=>aI _ e;have fI:ij X f' H s.heap.objs.size:=I.fpOk (aN _) (I.hok.fresh (aN _));have len:its.length=ns.length:=(by rw[<-rv.length,aJ]);have FC:∀(i:Nat)(v:aC),its.toArray[i]?=some v->∃t,v=.int (ns.getD i 0) t:=λi v e=>by
  have e':its[i]?=some v:=(by simpa using e);have hi:i < ns.length:=(by rw[<-len];exact(aM.mp e').1);obtain⟨u,f1,ru⟩:=rv.get (i:=i) (x:=.int ns[i]) (by rw[cQ,aK hi];rfl);rw[e']at f1;cases f1;obtain⟨t,rfl⟩:=ru;exact⟨t,by rw[gG,aK hi];rfl⟩
 have VR:∀j,j < ns.length->-1000000<=ns.getD j 0/\ns.getD j 0<=1000000:=λj hj=>by
  rw[gG,aK hj];exact hr _ (pU hj)
 refine call_sum_walk (iR hl ⟨s.heap.objs.size,[s.heap.objs.size,a],[s.heap.objs.size],its.toArray.size,_,_,λi=>ns.getD i 0,rfl,zU (show X.A.in1.handled=none from I.ok.hd hc) s.heap.objs.size a (cE lt) its.toArray,⟨⟨_,aY _ rfl,rfl,rfl⟩,pT hl _⟩,λb hb=>?_,FC,λj hj=>?_,λh' tk t' kk=>?_⟩)
 ·show b < (s.heap.push _).objs.size;rw[eY];simp only[aX,dQ,or_false]at hb;rcases hb with z | z
  ·rw[z];exact mX _
  ·rw[z];exact rZ lt
 ·rw[aO,len]at hj;have b1:=VR j hj;have b2:=Cr (val:=λi=>ns.getD i 0) (n:=ns.length) VR (j+1) (by lia);show InLong (ns.getD j 0)/\InLong (wA (λi=>ns.getD i 0) (j+1));exact⟨⟨by lia,by lia⟩,⟨by lia,by lia⟩⟩
 ·refine⟨.int _,H,I1.turnedAll (t':=tk) (ch:=[s.heap.objs.size]) (λb hb=>?_) (λb o hb e=>kk b o hb e),⟨t',rfl⟩,by rw[aO,len,Cz,gN];exact q⟩;cases eG.mp hb;exact⟨fI.1,fI.2.1,fI.2.2.1,fI.2.2.2.1,fI.2.2.2.2.1,fI.2.2.2.2.2⟩
end
end L2
namespace S63
open PySem L2 Bits S1 Fly PyProof.Rows
structure LsOk (ls:List (List Int)):Prop where
 nd:ls.Nodup
 few:ls.length<=300
 box:∃m,(m=1\/m=2\/m=3)/\∀l∈ls,l.length=m/\∀v∈l,0<=v/\v < 6
theorem LL_ok {ws:List (Str×Nat)}(h:fo ws):LsOk (LL ws) where
 nd:=vb _
 few:=cH (Dv h) (by decide)
 box:=by
  refine⟨ws.length,by have:=h.lo;have:=h.hi;lia,λl hl=>?_⟩;have g:=ja (ws.map (·.2));refine⟨by rw[g.wide l hl,aJ],λv hv=>?_⟩;obtain⟨i,hi⟩:=List.mem_iff_getElem?.mp hv;obtain⟨c,hc,h0,h1⟩:=g.rng l hl i v hi;obtain⟨x,hx,rfl⟩:=jN.mp (bV hc);have:=(h.cnt x hx).2;exact⟨h0,by lia⟩
def T9 (K:aB)(cP:Addr):Sp:=λvs H Q E=>∃(x:V)(s:Say),vs=[x]/\Hold K H x s.da/\s.size<=500/\(s.nts=0->∀H',Same H H'->Q .non H')/\(s.nts≠0->∀dx y H',Same H H'->H' dx=some (.xd [("saying",y)])->Hold K H' y s.da->E (.ref cP) (some dx) H')
theorem Rv {H:Hp}{m dx:Addr}{o1 o2:HO}(hm:H m=none)(hd:H dx=none):Same H (br (upd (upd H dx o1) m o2) m):=λb o e=>by
 have h1:b≠m:=aq e hm;have h2:b≠dx:=aq e hd;unfold br;rw[if_neg h1,ao h1,ao h2];exact e
section
variable {P:aU}{w:aZ}{K:aB}{mg:Str->Option aC}{base:Heap}{C cF cV cT cP cG:Addr}
theorem scPl2:aw zzz zzz (aj Bu):=fsN
theorem Oq {f fN fI:Addr}{fd VS FI:bQ}(F:Fun K "must_plain" "must_plain" Bu f fd)(c:i5 K cP)(n:NoAttr K cP "saying")(hi:bK K (.ref cP) "__init__"=some (some (.ref fI)))(lf:∃oI,K.lookup fI=some oI/\oI.cls=.type "function")
  (GI:‹1› fI FI zzo (kq K cP "saying" λ_=>True)) (bI:Binds K FI zzo []) (mC:mg "NoPlain"=some (.ref cP))
  (GN:‹3› fN VS zzz (Td K)) (bN:Binds K VS zzz []) (kN:aR K (.ref fN)=true) (mN:mg "notes_in"=some (.ref fN)):FnOk P w K mg base (CXx P w) 4 f fd zzz (T9 K cP):=by
 refine F.okX scPl2 (λvs H Q E h=>?_) (λAF A outer s H vs Q E hr h=>?_)
 ·obtain⟨x,sy,rfl,_⟩:=h;rfl
 obtain⟨x,sy,rfl,hx,AQ,q1,q2⟩:=h;refine⟨_,ak (de (tu (ar GN hr rfl mN kN bN .nil bb (aa (pv 0) ag)) (λ_=>rfl)) (ak (ug c (uf c hi lf GI (hr.mono (by decide)) rfl mC bI (aa (pv 0) ag)))) cf),?_⟩;dsimp only[bh,Cx.nox];refine⟨_,rfl,x,sy,rfl,hx,AQ,λG1 s1=>⟨((sy.nts:Int) != 0),rfl,?_⟩⟩;refine fb (λc0=>?_) (λc0=>?_)
 ·have nz:sy.nts≠0:=λz=>(by rw[z]at c0;exact absurd c0 (by decide));refine⟨_,rfl,(by show 1<=100;decide),λe he=>⟨e,x,rfl,c,n,trivial,af,λdx hd ne=>⟨rfl,e,some dx,rfl,af,Same.free s1 he,?_⟩⟩⟩;obtain⟨z1,z2,_⟩:=qf (o2:=.xd [("saying",x)]) (o3:=ft e cP (some dx)) he hd ne;exact q2 nz dx x _ (Same.trans s1 z1) z2 (Hold.mono (Same.trans s1 z1) hx)
 ·have nz:sy.nts=0:=by
   have z:((sy.nts:Int) != 0)=false:=(by simpa using c0);have z':(sy.nts:Int)=0:=(by simpa using z);lia
  exact q1 nz G1 s1
structure MkM (P:aU)(w:aZ)(K:aB)(mg:Str->Option aC)(base:Heap)(C cF cV cT fI:Addr)(dI:bQ):Prop where
 c:Mk K C fI
 ok:FnOk P w K mg base (CXx P w) 8 fI dI zza (Ys K C cF cV cT)
 b:Binds K dI zza []
 m:mg "Machine"=some (.ref C)
end
end S63
namespace PySem
namespace TupSet
open SetTable
def oq (t:eO)(hs:Nat->Int)(eq:Nat->Bool)(h:Int):Nat->Probe->Option (Option Nat)
 |0,_=>none
 |f+1,p=>match t.probe hs h p with
  |some (.empty j none)=>some (some j)
  |some (.candidate _ i next)=>if eq i then some none else oq t hs eq h f next
  |_=>none
structure Lk (t:eO)(n:Nat):Prop where
 mask:t.mask=7
 dum:t.dummies=#[]
 size:t.place.size=n
 plain:t.plain=true
theorem rj (xs:Array Nat)(j:Nat):∀(f lo hi:Nat),lo<=hi->hi<=xs.size->below.go xs j f lo hi<=xs.size
 |0,lo,hi,h1,h2=>by unfold below.go;lia
 |f+1,lo,hi,h1,h2=>by
  unfold below.go;dsimp only
  split
  ·split
   ·exact rj xs j f _ _ (by lia) h2
   ·exact rj xs j f _ _ (by lia) (by lia)
  ·lia
theorem yw (xs:Array Nat)(j:Nat):below xs j<=xs.size:=rj xs j _ _ _ (gO _) (aN _)
theorem Dh {α:Type}(xs:Array α)(p:Nat)(x:α)(h:p<=xs.size):(insertAt xs p x).size=xs.size+1:=by
 unfold insertAt;simp;lia
end TupSet
end PySem
set_option linter.unusedVariables false
namespace PySem
namespace TupSet
open SetTable
section
variable (prog:aU)(w:aZ)
def dw (x:List Int):Int:=tupleKeyHash (gE prog w) x
def Ua (h:Heap)(e:Int×aC)(x:List Int):Prop:=e.1=dw prog w x/\∃a,e.2=.ref a/\fZ (gE prog w) h x a
def EntsOf (h:Heap):List (Int×aC)->List (List Int)->Prop
 | [],[]=>True
 |e::es,x::xs=>Ua prog w h e x/\EntsOf h es xs
 |_,_=>False
def Jw (h:Heap)(S:Addr)(t:eO)(xs:List (List Int)):Prop:=
 ∃o es ep,h.get? S=some o/\o.ExactSet/\o.data=.set es ep t/\Lk t xs.length/\EntsOf prog w h es.toList xs
end
section
variable {prog:aU}{w:aZ}
theorem EntsOf.length {h:Heap}:∀{es:List (Int×aC)}{xs:List (List Int)},EntsOf prog w h es xs->es.length=xs.length
 | [],[],_=>rfl
 | [],_::_,h=>h.elim
 |_::_,[],h=>h.elim
 |_::es,_::xs,h=>by simp[EntsOf.length h.2]
theorem EntsOf.get {h:Heap}:∀{es:List (Int×aC)}{xs:List (List Int)}(_:EntsOf prog w h es xs) {i:Nat}{e:Int×aC},es[i]?=some e->∃x,xs[i]?=some x/\Ua prog w h e x
 | [],[],_,i,e,he=>by simp at he
 | [],_::_,h,_,_,_=>h.elim
 |_::_,[],h,_,_,_=>h.elim
 |e'::es,x::xs,h,0,e,he=>by simp at he;subst he;exact⟨x,rfl,h.1⟩
 |e'::es,x::xs,h,i+1,e,he=>by simpa using EntsOf.get h.2 (i:=i) (by simpa using he)
theorem EntsOf.hash {h:Heap}:∀{es:List (Int×aC)}{xs:List (List Int)}(_:EntsOf prog w h es xs) (i:Nat),((es[i]?).map (·.1)).getD 0=((xs[i]?).map (dw prog w)).getD 0
 | [],[],_,i=>by simp
 | [],_::_,h,_=>h.elim
 |_::_,[],h,_=>h.elim
 |e'::es,x::xs,h,0=>by simpa using h.1.1
 |e'::es,x::xs,h,i+1=>by simpa using EntsOf.hash h.2 i
theorem EntsOf.take {h:Heap}:∀{es:List (Int×aC)}{xs:List (List Int)}(_:EntsOf prog w h es xs) (p:Nat),EntsOf prog w h (es.take p) (xs.take p)
 | [],[],_,p=>by simp[EntsOf]
 | [],_::_,h,_=>h.elim
 |_::_,[],h,_=>h.elim
 |e'::es,x::xs,h,0=>by simp[EntsOf]
 |e'::es,x::xs,h,p+1=>by simpa[EntsOf]using⟨h.1,EntsOf.take h.2 p⟩
theorem EntsOf.drop {h:Heap}:∀{es:List (Int×aC)}{xs:List (List Int)}(_:EntsOf prog w h es xs) (p:Nat),EntsOf prog w h (es.drop p) (xs.drop p)
 | [],[],_,p=>by simp[EntsOf]
 | [],_::_,h,_=>h.elim
 |_::_,[],h,_=>h.elim
 |e'::es,x::xs,h,0=>h
 |e'::es,x::xs,h,p+1=>by simpa using EntsOf.drop h.2 p
theorem EntsOf.app {h:Heap}:∀{es KR:List (Int×aC)}{xs CC:List (List Int)}(_:EntsOf prog w h es xs) (_:EntsOf prog w h KR CC),EntsOf prog w h (es++KR) (xs++CC)
 | [],_,[],_,_,h'=>h'
 | [],_,_::_,_,h,_=>h.elim
 |_::_,_,[],_,h,_=>h.elim
 |e'::es,_,x::xs,_,h,h'=>⟨h.1,EntsOf.app h.2 h'⟩
theorem EntsOf.imp {h h':Heap}(k:∀x a,fZ (gE prog w) h x a->fZ (gE prog w) h' x a):∀{es:List (Int×aC)}{xs:List (List Int)}(_:EntsOf prog w h es xs),EntsOf prog w h' es xs
 | [],[],_=>trivial
 | [],_::_,h=>h.elim
 |_::_,[],h=>h.elim
 |e'::es,x::xs,h=>⟨⟨h.1.1,h.1.2.elim λa ha=>⟨a,ha.1,k _ _ ha.2⟩⟩,EntsOf.imp k h.2⟩
theorem yx {k:Int}{v:aC}(h:(gE prog w).is k v=true):∃t,v=.int k t:=by
 have h':pE k v=true:=h;cases v<;>simp[pE]at h';exact⟨_,by rw[h']⟩
variable {A:cC}{E:aC->aG->Prop}{s:aG}
theorem items_int {ks:List Int}{vs:List aC}(h:ItemsAre (gE prog w) ks vs):∀v∈vs,∃k t,v=.int k t:=by
 induction h with
 |nil=>intro v hv;simp at hv
 |@cons k v' ks vs h1 _ ih=>
  intro v hv;rcases aX.mp hv with rfl | hv
  ·exact⟨k,yx h1⟩
  ·exact ih v hv
theorem Ca {ks:List Int}{a:Addr}{Q:Bool->aG->Prop}(hk:fZ (gE prog w) s.heap ks a)(h:Q true s):aL (aS prog w) A (zF 8 (.ref a)) Q E s:=by
 have hT:=hk.typeIs;obtain⟨o,items,n,ho,_,hd,hi⟩:=hk;unfold zF;refine aA (tW hT F.slot_tuple_hash.lookup ?_);dsimp only;refine aA (iC ho hd ?_);refine aA ?_;show aL _ _ (forIn items _ _) _ _ s;rw[<-Array.forIn_toList];refine wG _ (λrest r s'=>r.1=none/\s'=s/\∀v∈rest,∃k t,v=oR k t) _ ?_ ?_ _ _ ⟨rfl,rfl,items_int hi⟩
 ·intro v rest r s' AC;obtain⟨hr,rfl,BM⟩:=AC;obtain⟨k,t,rfl⟩:=BM v eF;refine aA (m:=zF 7 (.int k t)) (wpAny_pure ?_);simp only[uZ,eV,if_false];exact wpAny_pure ⟨rfl,rfl,λu KD=>BM u (cX _ KD)⟩
 ·intro AC s' KF;obtain⟨r1,r2⟩:=AC;obtain⟨hr,rfl,_⟩:=KF;simp only at hr;subst hr;exact wpAny_pure h
theorem yb {ks:List Int}{a:Addr}{Q:Bool->aG->Prop}(hk:fZ (gE prog w) s.heap ks a)(h:Q false s):aL (aS prog w) A (vJ 8 (.ref a)) Q E s:=by
 have hT:=hk.typeIs;obtain⟨o,items,n,ho,hc,hd,hi⟩:=hk;unfold vJ;refine aA (tP hT ?_);dsimp only;rw[if_pos (by decide)];refine aA (wpAny_pure ?_);simp only[uZ,eV,if_false];refine aA (iC ho hd ?_);dsimp only;refine aA ?_;show aL _ _ (forIn items _ _) _ _ s;rw[<-Array.forIn_toList];refine wG _ (λrest r s'=>r.1=none/\s'=s/\∀v∈rest,∃k t,v=oR k t) _ ?_ ?_ _ _ ⟨rfl,rfl,items_int hi⟩
 ·intro v rest r s' AC;obtain⟨hr,rfl,BM⟩:=AC;obtain⟨k,t,rfl⟩:=BM v eF;refine aA (m:=vJ 7 (.int k t)) (wpAny_pure ?_);simp only[eV,if_false];exact wpAny_pure ⟨rfl,rfl,λu KD=>BM u (cX _ KD)⟩
 ·intro AC s' KF;obtain⟨r1,r2⟩:=AC;obtain⟨hr,rfl,_⟩:=KF;simp only at hr;subst hr;exact wpAny_pure h
theorem Ub {α:Type}{M:sO}{c:Bool}{m m':Sem α}{Q:α->aG->Prop}(h1:aL M A m Q E s)(h2:aL M A m' Q E s):aL M A (if c=true then m else m') Q E s:=by
 cases c
 ·exact h2
 ·exact h1
theorem Ll {x:List Int}{a:Addr}{stored:List aC}{Q:Bool->aG->Prop}(hx:fZ (gE prog w) s.heap x a)(hs:∀v∈stored,∃b y,v=.ref b/\fZ (gE prog w) s.heap y b)(h:Q false s) :
  aL (aS prog w) A (searchCouldBeSeen (.ref a) stored) Q E s:=by
 unfold searchCouldBeSeen;refine aA ?_;refine wG _ (λrest r s'=>r.1=none/\s'=s/\∀v∈rest,∃b y,v=.ref b/\fZ (gE prog w) s.heap y b) _ ?_ ?_ _ _ ⟨rfl,rfl,hs⟩
 ·intro v rest r s' AC;obtain⟨hr,rfl,BM⟩:=AC;obtain⟨b,y,rfl,hy⟩:=BM v eF;have hrest:∀u∈rest,∃b y,u=.ref b/\fZ (gE prog w) s'.heap y b:=λu KD=>BM u (cX _ KD);dsimp only[carriedByValue];refine Ub ?_ ?_
  ·exact wpAny_pure ⟨rfl,rfl,hrest⟩
  ·refine aA (wpAny_eqIsQuiet_tuple hx ?_);simp only[uZ,eV,if_false];refine aA (wpAny_eqIsQuiet_tuple hy ?_);simp only[uZ,eV,if_false];refine aA (yb hx ?_);simp only[eV,if_false];refine aA (yb hy ?_);simp only[eV,if_false];exact wpAny_pure ⟨rfl,rfl,hrest⟩
 ·intro AC s' KF;obtain⟨r1,r2⟩:=AC;obtain⟨hr,rfl,_⟩:=KF;simp only at hr;subst hr;exact wpAny_pure h
def A4 (prog:aU)(w:aZ)(h0 h:Heap)(S:Addr)(t:eO)(xs:List (List Int)):Prop:=
 ∃o es ep,h.get? S=some o/\o.ExactSet/\o.data=.set es ep t/\Lk t xs.length/\EntsOf prog w h0 es.toList xs
theorem uy {h0 h:Heap}(hk:∀b o,h0.get? b=some o->h.get? b=some o){x:List Int}{a:Addr}(k:fZ (gE prog w) h0 x a):fZ (gE prog w) h x a:=by
 obtain⟨o,items,m,ho,r⟩:=k;exact⟨o,items,m,hk _ _ ho,r⟩
end
end TupSet
namespace TupSet
open SetTable PyProof.Rows
section
variable {prog:aU}{w:aZ}{A:cC}{R:xC->aG->Prop}{I:Addr}{fp wr:List Addr}{G:Array pO->Array pO->Prop}{n:Nat}{P:Nat->aC->Prop}{St:Nat->aG->Prop}
end
section
variable {prog:aU}{w:aZ}{A:cC}{E:aC->aG->Prop}{s:aG}
def A6 (w:aZ):Bool:=!(w.params.followText "set-order")
theorem Rw (a:aC){Q₁:aC->aG->Prop}
  (h:Q₁ (.ref s.heap.objs.size) { s with heap:=s.heap.push { cls:=.type "set",dict:=none,data:=.set #[] 0 (.fresh 0 0 (A6 w)) } }) :
  oA (aS prog w) A (.call (.builtin "set.__new__") ⟨[.type "set",a],[]⟩) (wants Q₁ E) s:=by
 refine wR ?_;show aL _ A.in1 (do iX "set.__new__" ⟨[.type "set",a],[]⟩;again (.builtin "set.__new__" ⟨[.type "set",a],[]⟩)) _ _ s
 refine aA (zD (F.newCall_set_1 a) (wpAny_pure ⟨plainId_quiet F.plain_set_new _,nL F.entry_set_new ?_⟩));rw[qB F.plain_set_new _];unfold iI.«set.__new__» Builtin.Frozenset.newClass;have DE:=sub_set_self;obtain⟨hp,g,d,tk,os⟩:=s;dsimp only
 wp_walk
 refine qC (wpAny_pure ?_);dsimp only;simp only[newObj];refine aA (wpAny_alloc (wpAny_pure ?_));exact wpAny_pure h
end
end TupSet
namespace TupSet
open SetTable PyProof.Rows
def Rise (t:eO):Prop:=t.place.toList.Pairwise (· < ·)
section
variable (prog:aU)(w:aZ)
end
theorem Jb {α:Type}(next:Nat->Nat):∀(f k:Nat)(left:List α) (out:Array α),left.length<=f->(yS next f k left out).toList.Perm (out.toList++left)
 |0,k,left,out,h=>by
  have:left=[]:=List.eq_nil_of_length_eq_zero (by lia);subst this;unfold yS;simp
 |f+1,k,left,out,h=>by
  unfold yS
  match hl:left[next k % left.length]? with
  |none=>
   have:left=[]:=by
    cases left with
    |nil=>rfl
    |cons a l=>
     rw[List.getElem?_eq_none_iff]at hl;exact absurd (pA (next k) (show 0 < (a::l).length by simp)) (by lia)
   subst this;simp
  |some x=>
   dsimp only;obtain⟨AZ,hx⟩:=aM.mp hl;have AG:(left.eraseIdx (next k % left.length)).length<=f:=by
    rw[List.length_eraseIdx_of_lt AZ];lia
   refine(Jb next f (k+1) _ _ AG).trans ?_
   rw[Array.toList_push,nU];refine List.Perm.append_left _ ?_;have e:left=left.take (next k % left.length)++x::left.drop (next k % left.length+1):=by
    rw[<-hx,<-iY AZ,nM]
   rw[List.eraseIdx_eq_take_drop_succ];exact((List.perm_middle (l₁:=left.take (next k % left.length))).symm.trans (List.Perm.of_eq e.symm))
theorem Os {α:Type}(next:Nat->Nat)(xs:Array α):(yT next xs).toList.Perm xs.toList:=by
 have:=Jb next xs.size 0 xs.toList #[] (by simp)
 simpa[yT]using this
end TupSet
namespace TupSet
open SetTable PyProof.Rows
theorem ic:Slot "set_iterator" "__next__" "set_iterator.__next__":=
 .of (owner:="set_iterator") (n:="__next__") (by rw[typeLookup_type,builtinLookup_eq_fast];kernel_rfl) (by decide +kernel) (by decide +kernel) (by decide +kernel)
  (by first | exact .inl (by decide +kernel) | exact .inr (by decide +kernel)) (by rw[xH];kernel_rfl)
theorem vc:entryFor table "set_iterator.__next__"=some iI.«set_iterator.__next__»:=entryFor_of_tree (by kernel_rfl)
theorem we (a:aC):yO "set_iterator.__next__" ⟨[a],[]⟩:=by
 unfold yO;rw[signature?_of (id:="set_iterator.__next__") (n:=['_','_','t','x','e','n','_','_']) (o:=['r','o','t','a','r','e','t','i','_','t','e','s']) (rows:=Manifest.sig_set_iterator) (by kernel_rfl) (by kernel_rfl)];kernel_rfl
theorem Fw:entryFor table "set.__iter__"=some iI.«frozenset.__iter__»:=
 entryFor_alias (id':="frozenset.__iter__") (by kernel_rfl) rfl (by decide +kernel) (by kernel_rfl)
def gf (w:aZ)(S:Addr)(ep:Nat)(es:Array (Int×aC)):List aC:=
 if w.params.followText "set-order" then (yT (w.params.setOrder S ep) es).toList.map (·.2)else es.toList.map (·.2)
theorem A7 (w:aZ)(S:Addr)(ep:Nat)(es:Array (Int×aC)):(gf w S ep es).Perm (es.toList.map (·.2)):=by
 unfold gf
 split
 ·exact(Os _ _).map _
 ·exact rP _
theorem og (w:aZ)(S:Addr)(ep:Nat)(es:Array (Int×aC)):(gf w S ep es).length=es.size:=by
 rw[(A7 w S ep es).length_eq];simp
def IsSetIter (w:aZ)(h:Heap)(I S:Addr)(i:Nat)(n ep:Nat)(t:eO):Prop:=
 ∃(slot:Nat)(o:Obj),h.get? I=some o/\o.cls=.type "set_iterator"/\o.data=.fields #[.int slot 0,.int i 0,.ref S,.int n 0,.int ep 0]/\(w.params.followText "set-order"=false->below t.place slot=i)
section
variable {prog:aU}{w:aZ}{A:cC}{E:aC->aG->Prop}{s:aG}
theorem wg {α:Type}{M:sO}{c:Bool}{m m':Sem α}{Q:α->aG->Prop}(hc:c=false)(h:aL M A m' Q E s):aL M A (if c=true then m else m') Q E s:=by
 subst hc;exact h
theorem IsSetIter.typeIs {I S:Addr}{i n ep:Nat}{t:eO}(x:IsSetIter w s.heap I S i n ep t):s.TypeIs (.ref I) "set_iterator":=
 let ⟨_,o,ho,hc,_⟩:=x;⟨o,ho,hc⟩
structure oh (w:aZ)(o:Obj)(es:Array (Int×aC))(ep:Nat)(t:eO):Prop where
 ex:o.ExactSet
 data:o.data=.set es ep t
 small:Lk t es.size
 n3:es.size<=3
 rise:Rise t
 led:w.params.followText "set-order"=false->t.led=true
end
end TupSet
namespace TupSet
open SetTable PyProof.Rows PySem.W
theorem wj:Slot "set_iterator" "__iter__" "set_iterator.__iter__":=
 .of (owner:="set_iterator") (n:="__iter__") (by rw[typeLookup_type,builtinLookup_eq_fast];kernel_rfl) (by decide +kernel) (by decide +kernel) (by decide +kernel)
  (by first | exact .inl (by decide +kernel) | exact .inr (by decide +kernel)) (by rw[xH];kernel_rfl)
theorem Fx (a:aC):yO "set_iterator.__iter__" ⟨[a],[]⟩:=by
 unfold yO;rw[signature?_of (id:="set_iterator.__iter__") (n:=['_','_','r','e','t','i','_','_']) (o:=['r','o','t','a','r','e','t','i','_','t','e','s']) (rows:=Manifest.sig_set_iterator) (by kernel_rfl) (by kernel_rfl)];kernel_rfl
theorem Di:entryFor table "set_iterator.__iter__"=some iI.«dict_keyiterator.__iter__»:=
 entryFor_alias (id':="dict_keyiterator.__iter__") (by kernel_rfl) rfl (by decide +kernel) (by kernel_rfl)
section
variable {prog:aU}{w:aZ}{A:cC}{E:aC->aG->Prop}{s:aG}
theorem Rx {r:Addr}{Q:Bool->aG->Prop}(hT:s.TypeIs (.ref r) "set")(h:Q false s):aL (aS prog w) A (Builtin.List.listLengthHint (.ref r)) Q E s:=by
 unfold Builtin.List.listLengthHint;refine aA (tW hT PySem.F.slot_set_len.lookup ?_);generalize MH:("set.__len__":String)=id0
 wp_delta
 rw[show splitId id0=some ("set","__len__")from by subst MH;decide +kernel];subst MH;refine aA (oE (T:="set") (b:=true) hT (by rw[xH];kernel_rfl) ?_);refine wpAny_ite_split (λBR=>absurd BR (by decide)) (λ_=>?_);refine wpAny_ite_split (λ_=>?_) (λBR=>absurd (by decide +kernel) BR);refine aA (tP hT ?_);exact wpAny_pure h
end
end TupSet
namespace TupSet
open SetTable PyProof.Rows PySem.W
def lexLt:List Int->List Int->Bool
 | [],[]=>false
 | [],_::_=>true
 |_::_,[]=>false
 |a::as,b::bs=>if a=b then lexLt as bs else decide (a < b)
theorem A9:∀x,lexLt x x=false
 | []=>rfl
 |a::as=>by simp[lexLt,A9 as]
theorem wo:∀x y,lexLt x y=false->lexLt y x=false->x=y
 | [],[],_,_=>rfl
 | [],_::_,h,_=>nomatch h
 |_::_,[],_,h=>nomatch h
 |a::as,b::bs,h1,h2=>by
  by_cases e:a=b
  ·subst e;simp[lexLt]at h1 h2;rw[wo as bs h1 h2]
  ·have e':¬b=a:=λh=>e h.symm;simp[lexLt,e,e']at h1 h2;lia
theorem wq:∀x y z,lexLt x y=true->lexLt y z=true->lexLt x z=true
 | [],[],_,h,_=>nomatch h
 | [],_::_,[],_,h=>nomatch h
 | [],_::_,_::_,_,_=>rfl
 |_::_,[],_,h,_=>nomatch h
 |_::_,_::_,[],_,h=>nomatch h
 |a::as,b::bs,c::cs,h1,h2=>by
  by_cases e1:a=b
  ·subst e1;by_cases e2:a=c
   ·subst e2;simp[lexLt]at h1 h2 ⊢;exact wq as bs cs h1 h2
   ·simp[lexLt,e2]at h1 h2 ⊢;exact h2
  ·by_cases e2:b=c
   ·subst e2;simp[lexLt,e1]at h1 h2 ⊢;exact h1
   ·simp[lexLt,e1,e2]at h1 h2;have e3:¬a=c:=(by lia);simp[lexLt,e3];lia
theorem C0 {x y:List Int}(h:lexLt x y=true):lexLt y x=false:=by
 cases h':lexLt y x with
 |false=>rfl
 |true=>have:=wq _ _ _ h h';rw[A9]at this;exact nomatch this
def o8 (x y:List Int):Prop:=lexLt y x=false
theorem C1 {x y z:List Int}(h1:o8 x y)(h2:o8 y z):o8 x z:=by
 unfold o8 at *;cases h:lexLt z x with
 |false=>rfl
 |true=>
  by_cases e:x=y
  ·subst e;rw[h]at h2;exact h2
  ·have LD:lexLt x y=true:=by
    cases h3:lexLt x y with
    |true=>rfl
    |false=>exact absurd (wo _ _ h3 h1) e
   have:=wq _ _ _ h LD;rw[this]at h2;exact nomatch h2
theorem Fy {x y:List Int}(h1:o8 x y)(h2:o8 y x):x=y:=wo _ _ h2 h1
def m5 (l:List (List Int)):Prop:=l.Pairwise o8
theorem vd:∀{l l':List (List Int)},l.Perm l'->m5 l->m5 l'->l=l'
 | [],l',p,_,_=>by rw[List.Perm.nil_eq p]
 |a::l,[],p,_,_=>by have:=p.length_eq;simp at this
 |a::l,b::l',p,s,s'=>by
  have s1:=lP.mp s;have MZ:=lP.mp s';have BR:a=b:=by
   have ha:a∈b::l':=p.mem_iff.mp eF;have hb:b∈a::l:=p.mem_iff.mpr eF;rcases aX.mp ha with e | ha
   ·exact e
   ·rcases aX.mp hb with e | hb
    ·exact e.symm
    ·exact Fy (s1.1 b hb) (MZ.1 a ha)
  subst BR;rw[vd (List.Perm.cons_inv p) s1.2 MZ.2]
def Cb (x:List Int):List (List Int)->List (List Int)
 | []=>[x]
 |y::l=>if lexLt y x=true then y::Cb x l else x::y::l
def jm:List (List Int)->List (List Int)
 | []=>[]
 |x::l=>Cb x (jm l)
theorem wt (x:List Int):∀l,(Cb x l).Perm (x::l)
 | []=>rP _
 |y::l=>by
  unfold Cb
  split
  ·exact((wt x l).cons y).trans (List.Perm.swap _ _ _)
  ·exact rP _
theorem jn:∀l,(jm l).Perm l
 | []=>rP _
 |x::l=>(wt x _).trans ((jn l).cons x)
theorem yc (x:List Int):∀l,m5 l->m5 (Cb x l)
 | [],_=>List.pairwise_singleton _ _
 |y::l,s=>by
  have s1:=lP.mp s;unfold Cb
  split
  ·rename_i h
   refine lP.mpr ⟨λz hz=>?_,yc x l s1.2⟩;rcases aX.mp ((wt x l).mem_iff.mp hz)with e | hz
   ·subst e;exact C0 h
   ·exact s1.1 z hz
  ·rename_i h
   have LD:o8 x y:=(by unfold o8;simpa using h);refine lP.mpr ⟨λz hz=>?_,s⟩;rcases aX.mp hz with e | hz
   ·subst e;exact LD
   ·exact C1 LD (s1.1 z hz)
theorem kz:∀l,m5 (jm l)
 | []=>vE
 |x::l=>yc x _ (kz l)
theorem yy {l l':List (List Int)}(p:l'.Perm l)(s:m5 l'):l'=jm l:=vd (p.trans (jn l).symm) s (kz l)
def cx {α:Type}(lt:Nat->Nat->Bool):KasT α->α
 | .ret a=>a
 | .ask i j k=>cx lt (k (lt i j))
def ni {α:Type}(n:Nat):KasT α->Bool
 | .ret _=>true
 | .ask i j k=>decide (i < n) && decide (j < n) && ni n (k true) && ni n (k false)
theorem Ot {α:Type}{n i j:Nat}{k:Bool->KasT α}(h:ni n (.ask i j k)=true):i < n/\j < n/\∀b,ni n (k b)=true:=by
 simp only[ni,iB,decide_eq_true_eq]at h;exact⟨h.1.1.1,h.1.1.2,λb=>by cases b;exact h.2;exact h.1.2⟩
theorem Jc {α:Type}{n:Nat}{lt:Nat->Nat->Bool}{VT:Nat->Nat->(Bool->aG->Prop)->aG->Prop}{s:aG}(hc:∀i j C,i < n->j < n->C (lt i j) s->VT i j C s){Q:α->aG->Prop}:∀(t:KasT α),ni n t=true->Q (cx lt t) s->t.kasWp VT Q s
 | .ret a,_,h=>h
 | .ask i j k,ha,h=>by
  have a:=Ot ha;exact hc i j _ a.1 a.2.1 (Jc hc (k (lt i j)) (a.2.2 _) h)
def ltX (xs:List (List Int))(i j:Nat):Bool:=lexLt (xs.getD i []) (xs.getD j [])
end TupSet
namespace TupSet
open SetTable PyProof.Rows PySem.W
def KeysL (prog:aU)(w:aZ)(h:Heap):List aC->List (List Int)->Prop
 | [],[]=>True
 |v::vs,x::xs=>(∃a,v=.ref a/\fZ (gE prog w) h x a)/\KeysL prog w h vs xs
 |_,_=>False
section
variable {prog:aU}{w:aZ}
theorem KeysL.length {h:Heap}:∀{vs:List aC}{xs:List (List Int)},KeysL prog w h vs xs->vs.length=xs.length
 | [],[],_=>rfl
 | [],_::_,h=>h.elim
 |_::_,[],h=>h.elim
 |_::_,_::_,h=>by simp[KeysL.length h.2]
theorem KeysL.at {h:Heap}:∀{vs:List aC}{xs:List (List Int)}(_:KeysL prog w h vs xs) {i:Nat},i < xs.length->∃a,vs.getD i .none=.ref a/\fZ (gE prog w) h (xs.getD i []) a
 | [],[],_,i,hi=>by simp at hi
 | [],_::_,h,_,_=>h.elim
 |_::_,[],h,_,_=>h.elim
 |v::vs,x::xs,h,0,_=>by simpa using h.1
 |v::vs,x::xs,h,i+1,hi=>by simpa using KeysL.at h.2 (i:=i) (by simpa using hi)
theorem KeysL.imp {h h':Heap}(k:∀x a,fZ (gE prog w) h x a->fZ (gE prog w) h' x a):∀{vs:List aC}{xs:List (List Int)}(_:KeysL prog w h vs xs),KeysL prog w h' vs xs
 | [],[],_=>trivial
 | [],_::_,h=>h.elim
 |_::_,[],h=>h.elim
 |v::vs,x::xs,h=>⟨h.1.elim λa ha=>⟨a,ha.1,k _ _ ha.2⟩,KeysL.imp k h.2⟩
theorem KeysL.pick {h:Heap}{vs:List aC}{xs:List (List Int)}(k:KeysL prog w h vs xs):∀(p:List Nat),(∀i∈p,i < xs.length)->KeysL prog w h (p.map λi=>vs.getD i .none) (p.map λi=>xs.getD i [])
 | [],_=>trivial
 |i::p,hp=>⟨k.at (hp i eF),KeysL.pick k p λj hj=>hp j (cX _ hj)⟩
theorem KeysL.perm {h:Heap}{vs VU:List aC}(p:VU.Perm vs):∀{xs:List (List Int)},KeysL prog w h vs xs->∃ys,ys.Perm xs/\KeysL prog w h VU ys:=by
 induction p with
 |nil=>intro xs k;exact⟨xs,rP _,k⟩
 |cons v p ih=>
  intro xs k
  match xs,k with
  | [],k=>exact k.elim
  |x::xs,k=>
   obtain⟨ys,hy,k'⟩:=ih k.2;exact⟨x::ys,hy.cons x,k.1,k'⟩
 |swap u v l=>
  intro xs k
  match xs,k with
  | [],k=>exact k.elim
  | [x],k=>exact k.2.elim
  |x::y::xs,k=>exact⟨y::x::xs,List.Perm.swap _ _ _,k.2.1,k.1,k.2.2⟩
 |trans p q II IJ=>
  intro xs k;obtain⟨ys,hy,k1⟩:=IJ k;obtain⟨zs,hz,k2⟩:=II k1;exact⟨zs,hz.trans hy,k2⟩
theorem EntsOf.keys {h:Heap}:∀{es:List (Int×aC)}{xs:List (List Int)},EntsOf prog w h es xs->KeysL prog w h (es.map (·.2)) xs
 | [],[],_=>trivial
 | [],_::_,h=>h.elim
 |_::_,[],h=>h.elim
 |_::_,_::_,h=>⟨h.1.2,EntsOf.keys h.2⟩
theorem KeysL.firsts {h:Heap}:∀{vs:List aC}{xs:List (List Int)},KeysL prog w h vs xs->(∀x∈xs,x≠[])->∃fs,KatTups h vs fs/\fs.length=vs.length/\∀v∈fs,∃k t,v=oR k t
 | [],[],_,_=>⟨[],trivial,rfl,by simp⟩
 | [],_::_,h,_=>h.elim
 |_::_,[],h,_=>h.elim
 |v::vs,x::xs,k,AO=>by
  obtain⟨⟨a,rfl,o,items,n,ho,hc,hd,hi⟩,kr⟩:=k;obtain⟨fs,h1,h2,h3⟩:=KeysL.firsts kr λy hy=>AO y (cX _ hy);have hx:=AO x eF;obtain⟨l⟩:=items;dsimp only at hi
  match x,l,hi,hx with
  | [],_,_,hx=>exact absurd rfl hx
  |k0::ks,f::r,hi,_=>
   refine⟨f::fs,KatTups.cons ho hc hd rfl h1,by simp[h2],λv hv=>?_⟩;rcases aX.mp hv with rfl | hv
   ·exact items_int hi v eF
   ·exact h3 v hv
variable {A:cC}{E:aC->aG->Prop}{s:aG}
theorem Ou {b:Bool}{Q:Bool->aG->Prop}:∀{x y:List Int}{vs us:List aC}(_:ItemsAre (gE prog w) x vs) (_:ItemsAre (gE prog w) y us) (AK:Bool) (i:Nat),AK=decide (vs.length < us.length)->Q (lexLt x y) s->
  KatLex prog w A b AK Q (vs.zip us) i s
 | [],[],_,_,.nil,.nil,AK,i,hf,h=>by
  rw[hf];exact kat_nil h
 | [],_::_,_,_,.nil,.cons _ _,AK,i,hf,h=>by
  rw[hf];exact kat_nil (by simpa[lexLt]using h)
 |_::_,[],_,_,.cons _ _,.nil,AK,i,hf,h=>by
  rw[hf];exact kat_nil (by simpa[lexLt]using h)
 |p::x,q::y,v::vs,u::us,.cons h1 hx,.cons h2 hy,AK,i,hf,h=>by
  refine kat_cons ((gE prog w).eqBool h1 h2 ?_);by_cases e:p=q
  ·rw[decide_eq_true e];refine kat_yes (Ou hx hy AK (i+1) (by rw[hf];simp) ?_);simpa[lexLt,e]using h
  ·rw[decide_eq_false e];refine kat_no ?_;obtain⟨t1,rfl⟩:=yx h1;obtain⟨t2,rfl⟩:=yx h2;have h':Q (decide (p < q)) s:=(by simpa[lexLt,e]using h);cases(b && i == 0)with
   |true=>exact oneLt_int h'
   |false=>exact kat_one _ _ (P.lt_int (by exact h'))
theorem Yu {b:Bool}{x y:List Int}{a c:Addr}{Q:Bool->aG->Prop}(hx:fZ (gE prog w) s.heap x a)(hy:fZ (gE prog w) s.heap y c)(h:Q (lexLt x y) s) :
  aL (aS prog w) A (keyLt' (tuples' b) (.ref a) (.ref c)) Q E s:=by
 obtain⟨o,items,n,ho,_,hd,hi⟩:=hx;obtain⟨o',items',n',DY,_,CD,ED⟩:=hy;exact kat_lt ho hd DY CD (Ou hi ED _ 0 (by simp) h)
theorem Lm {h h':Heap}{ks:List Int}{a d:Addr}{vs:Array aC}{n:Nat}(x:fZ (gE prog w) h ks a)(ho:h.get? d=some (kX "list" vs n))(hs:∀b o,b≠d->h.get? b=some o->h'.get? b=some o) :
  fZ (gE prog w) h' ks a:=by
 obtain⟨o',items,m,DY,hc,CD,hi⟩:=x;have AO:a≠d:=by
  intro AC;subst AC;obtain rfl:o'=kX "list" vs n:=cZ (DY.symm.trans ho);simp[kX]at hc
 exact⟨o',items,m,hs a _ AO DY,hc,CD,hi⟩
end
end TupSet
namespace TupSet
open SetTable PyProof.Rows PySem.W
section
variable {prog:aU}{w:aZ}{A:cC}{E:aC->aG->Prop}{s:aG}
end
end TupSet
namespace TupSet
open SetTable PyProof.Rows PySem.W
section
variable {prog:aU}{w:aZ}
variable {A:cC}{E:aC->aG->Prop}{s:aG}
end
end TupSet
end PySem
namespace L2
open PySem PySem.Spec PyProof.Rows PySem.TupSet
section
variable {P:aU}{w:aZ}{H H':Hp}{h h':Heap}{a:Addr}{o:HO}{fs ex:List Addr}
theorem ObjOk.has (x:ObjOk P w H h a o):∃ob,h.get? a=some ob:=by
 cases o with
 |lst xs=>obtain⟨_,_,_,_,e⟩:=x;exact⟨_,e⟩
 |tup xs=>obtain⟨_,_,_,ob,e,_⟩:=x;exact⟨_,e⟩
 |dK kvs=>obtain⟨_,_,_,_,o,_,_,e,_⟩:=x;exact⟨_,e⟩
 |dT kvs=>obtain⟨_,_,_,_,o,_,_,e,_⟩:=x;exact⟨_,e⟩
 |set S n=>obtain⟨o,_,_,_,e,_⟩:=x;exact⟨_,e⟩
 |ins C dx fs=>obtain⟨_,_,_,e,_⟩:=x;exact⟨_,e⟩
 |own y=>obtain⟨_,e⟩:=x;exact⟨_,e⟩
 |xd fs=>obtain⟨_,⟨_,_,_,e,_⟩,_⟩:=x;exact⟨_,e⟩
 |rng lo hi=>obtain⟨_,_,_,e⟩:=x;exact⟨_,e⟩
 |frz ob u=>obtain⟨e,_⟩:=x;exact⟨_,e⟩
 |tbl ps=>exact⟨_,show h.get? a=some _ from x⟩
 |met f y=>exact⟨_,show h.get? a=some _ from x⟩
 |ext φ=>obtain⟨_,⟨_,e⟩,_⟩:=x;exact⟨_,e⟩
theorem HOk.none_at (x:HOk P w H h)(e:h.get? a=none):H a=none:=by
 cases q:H a with
 |none=>rfl
 |some u=>
  obtain⟨ob,z⟩:=(x a u q).has;rw[e]at z;cases z
theorem HOk.laidN (x:HOk P w H h)(k:∀b u,h.get? b=some u->h'.get? b=some u)(hp:h.get? a=none)(new:ObjOk P w (upd H a o) h' a o):HOk P w (upd H a o) h':=λb u e=>by
 have hn:=x.none_at hp;by_cases hb:b=a
 ·subst hb;rw[af]at e;cases e;exact new
 ·rw[ao hb]at e;exact(x b u e).stay (λc v _ q=>k c v q) (λc q=>by rw[ao (aq q hn)];exact q) λc xs q=>by rw[ao (aq q hn)];exact q
theorem Un.laidN (k:∀b u,h.get? b=some u->h'.get? b=some u)(hp:h.get? a=none)(hn:H a=none):Un fs ex H (upd H a o) h h' where
 keep:=λb u q _ _ _=>k b u q
 slot:=λb u q _ _ _=>⟨u.slots,k b u q⟩
 free:=λb u q n _=>by rw[ao (λz=>by rw[z,hp]at q;cases q)];exact n
 there:=λb u q _=>⟨u,k b u q⟩
 tups:=λb xs q=>by rw[ao (aq q hn)];exact q
 frzs:=λb u xs q=>by rw[ao (aq q hn)];exact q
 tbls:=λb ps q=>⟨#[],by rw[ao (aq q hn),q];simp⟩
end
theorem Inv.laidN {X:Cx}{f':List (Addr×Obj)}{σ:List (Option V)}{H:Hp}{s:aG}{h':Heap}{a:Addr}{o:HO}{t':Nat}(I:Inv X f' σ H s)(k:∀b u,s.heap.get? b=some u->h'.get? b=some u)(hp:s.heap.get? a=none)(new:ObjOk X.prog X.w (upd H a o) h' a o) :
  Inv X f' σ (upd H a o) { s with heap:=h',toks:=t' }:=I.un (Un.laidN k hp (I.hok.none_at hp)) (I.hok.laidN k hp new)
def TupsV (K:aB)(H:Hp)(ys:List V)(L:List (List Int)):Prop:=Paired (λy x=>∃a,y=.ref a/\SqT K H a (x.map V.int)) ys L
theorem Fz {prog:aU}{w:aZ}:∀{x:List Int}{its:List aC},Vals (x.map V.int) its->PySem.ItemsAre (gE prog w) x its
 | [],_,.nil=>.nil
 |k::x,_,.cons r t=>by
  obtain⟨tk,rfl⟩:=r;exact .cons (by show pE k (.int k tk)=true;simp[pE]) (Fz t)
section
variable {X:Cx}{f':List (Addr×Obj)}{σ:St}{H:Hp}{s:aG}
theorem Inv.tkey (I:Inv X f' σ H s){a:Addr}{x:List Int}(h:SqT X.K H a (x.map V.int)):fZ (gE X.prog X.w) s.heap x a:=by
 obtain⟨its,r,⟨o,ho,hc,n,hd⟩,_⟩:=I.tuple h;exact⟨o,its.toArray,n,ho,hc,hd,by simpa using Fz r⟩
open Classical in
noncomputable def wu (K:aB)(H:Hp)(h:Heap):Heap:=PySem.W.hideAll h ((dG h.objs.size).filter λa=>!decide (∃x:List Int,SqT K H a (x.map V.int)))
theorem Jd {K:aB}{h:Heap}{b:Addr}{o:Obj}(e:(wu K H h).get? b=some o):h.get? b=some o/\∃x:List Int,SqT K H b (x.map V.int):=by
 have e':=PySem.W.of_hideAll _ e;refine⟨e',nX λn=>?_⟩;have hm:b∈(dG h.objs.size).filter λa=>!@decide (∃x:List Int,SqT K H a (x.map V.int)) (Classical.propDecidable _):=List.mem_filter.mpr ⟨iW.mpr (aW e'),by simp[n]⟩;have z:(wu K H h).get? b=none:=PySem.W.hideAll_none _ hm;rw[z]at e;cases e
theorem Ry {K:aB}{h:Heap}{b:Addr}{o:Obj}{x:List Int}(e:h.get? b=some o)(k:SqT K H b (x.map V.int)):(wu K H h).get? b=some o:=by
 refine PySem.W.hideAll_get _ e λhm=>?_;have q:=(wJ.mp hm).2;have:∃x:List Int,SqT K H b (x.map V.int):=⟨x,k⟩;simp[this]at q
theorem Inv.tupK (I:Inv X f' σ H s){a:Addr}{x:List Int}(h:SqT X.K H a (x.map V.int)):fZ (gE X.prog X.w) (wu X.K H s.heap) x a:=by
 obtain⟨o,its,n,ho,r⟩:=I.tkey h;exact⟨o,its,n,Ry ho h,r⟩
theorem Inv.ofTupK (I:Inv X f' σ H s){a:Addr}{x:List Int}(h:fZ (gE X.prog X.w) (wu X.K H s.heap) x a):SqT X.K H a (x.map V.int):=by
 obtain⟨o,its,n,ho,r⟩:=h;obtain⟨DY,y,hy⟩:=Jd ho;have e:x=y:=IsTupleKey.inj (knd:=gE X.prog X.w) ⟨o,its,n,DY,r⟩ (I.tkey hy);subst e;exact hy
theorem Inv.ofKeysL (I:Inv X f' σ H s):∀{vs:List aC}{xs:List (List Int)},KeysL X.prog X.w (wu X.K H s.heap) vs xs->∃ys,Vals ys vs/\TupsV X.K H ys xs
 | [],[],_=>⟨[],.nil,.nil⟩
 | [],_::_,h=>h.elim
 |_::_,[],h=>h.elim
 |v::vs,x::xs,h=>by
  obtain⟨⟨a,rfl,k⟩,hr⟩:=h;obtain⟨ys,h1,h2⟩:=I.ofKeysL hr;exact⟨.ref a::ys,.cons rfl h1,.cons ⟨a,rfl,I.ofTupK k⟩ h2⟩
theorem TupsV.get {K:aB}:∀{ys:List V}{L:List (List Int)}{its:List aC},TupsV K H ys L->Vals ys its->∀(i:Nat)(v:aC),its[i]?=some v->∃a x,v=.ref a/\L[i]?=some x/\SqT K H a (x.map V.int)
 |_,_,_,.nil,.nil,i,v,e=>by simp at e
 |_,_,_,.cons (b:=x) p q,.cons r t,0,v,e=>by
  obtain⟨a,rfl,k⟩:=p;cases r;simp at e;exact⟨a,x,e.symm,rfl,k⟩
 |_,_,_,.cons p q,.cons r t,i+1,v,e=>by
  obtain⟨a,x,h1,h2,h3⟩:=TupsV.get q t i v (by simpa using e);exact⟨a,x,h1,by simpa using h2,h3⟩
end
section
variable {X:Cx}{e:Expr}{te:TE}{x y:Str}{p p2 pos DU:Pos}
end
theorem yd:∀(xs ys:List Int),((dG (min xs.length ys.length)).all (λj=>xs.getD j 0 == ys.getD j 0) && xs.length == ys.length)=decide (xs=ys)
 | [],[]=>by simp
 | [],_::_=>by simp
 |_::_,[]=>by simp
 |x::xs,y::ys=>by
  have ih:=yd xs ys;have e:min (x::xs).length (y::ys).length=min xs.length ys.length+1:=(by simp only[eE];lia);rw[e,List.range_succ_eq_map,uV,yQ];have e2:((dG (min xs.length ys.length)).all ((λj=>(x::xs).getD j 0 == (y::ys).getD j 0)∘Nat.succ))=(dG (min xs.length ys.length)).all (λj=>xs.getD j 0 == ys.getD j 0):=rfl;rw[e2];have e3:((x::xs).length == (y::ys).length)=(xs.length == ys.length):=(by simp);rw[e3,Bool.and_assoc,ih];simp;by_cases hx:x=y
  ·subst hx;simp
  ·simp[hx]
section
variable {X:Cx}
def rEqTI (K:aB):R2:=λx y H Q=>∃(a b:Addr)(ns ms:List Int),x=.ref a/\y=.ref b/\SqT K H a (ns.map V.int)/\SqT K H b (ms.map V.int)/\Q (.bl (decide (ns=ms))) H
theorem Wd (hu:X.A.units < jH):OpR X (jX .Eq) (rEqTI X.K):=by
 intro f' s σ H x y v u Q I rx ry h;obtain⟨a,b,ns,ms,rfl,rfl,ha,hb,q⟩:=h;cases rx;cases ry;obtain⟨its,r1,p1,_⟩:=I.tuple ha;obtain⟨AH,r2,p2,_⟩:=I.tuple hb;have l1:its.toArray.size=ns.length:=(by rw[aO,<-r1.length,aJ]);have l2:AH.toArray.size=ms.length:=(by rw[aO,<-r2.length,aJ]);have VV:∀{zs:List Int}{us:List aC}(_:Vals (zs.map V.int) us) (j:Nat) (q:j < us.toArray.size),RelV (.int (zs.getD j 0)) us.toArray[j]:=λ{zs us} r j q=>by
  have hj:j < zs.length:=(by have:=r.length;rw[aJ]at this;simp at q;lia);obtain⟨u,e,ru⟩:=r.get (i:=j) (x:=.int zs[j]) (by rw[cQ,aK hj];rfl);have z:us[j]?=some us.toArray[j]:=(by simp[aK (by simpa using q:j < us.length)]);rw[e]at z;rw[<-cZ z,gG,aK hj];exact ru
 have w:=SeqAt.RcAt.tuples (A:=X.A) (s:=s) (e:=λj=>eqV (.int (ns.getD j 0)) (.int (ms.getD j 0))) (show s.heap.IsTuple a its.toArray from p1) (show s.heap.IsTuple b AH.toArray from p2) hu (λj h1 h2=>Ah (VV r1 j h1) (VV r2 j h2) rfl rfl);rw[l1,l2]at w;have w':((dG (min ns.length ms.length)).all (λj=>eqV (.int (ns.getD j 0)) (.int (ms.getD j 0))) && ns.length == ms.length)=decide (ns=ms):=yd ns ms;rw[w']at w;exact w _ _ _ _ (show EP X f' σ Q (.bool (decide (ns=ms))) s from⟨.bl _,H,I,rfl,q⟩)
end
section
variable {k:Nat}{fr:List Nat}{g:TG}{tt:TT}{te:TE}{σ:St}{Q:VK}{D:Addr}{H:Hp}
theorem F0 {K:aB}{a b:Addr}{xs ws:List V}(AG:xs.length=ws.length)(Pv:Nat->List V->Hp->Prop)(h0:Pv 0 [] (upd H D (.lst [])))(hd:∀i ys H,Pv i ys H->H D=some (.lst ys))(hl:∀i ys H,i<=xs.length->Pv i ys H->SqT K H a xs/\SqT K H b ws)
  (hs:∀i x y p ys H,xs[i]?=some x->ws[i]?=some y->Pv i ys H->H p=none->ys.length < sizeLine/\uc k fr g tt te σ D ys (Pv (i+1)) (.ref p) (upd H p (.tup [x,y]))) (hz:∀i ys H,i < xs.length->Pv i ys H->ys.length < sizeLine) (he:∀ys H,Pv xs.length ys H->Q (.ref D) H):qd k fr g tt te σ Q (Itz K a b) H D:=by
 refine⟨λi m ys H=>i+m=xs.length/\Pv i ys H,⟨xs.length,by lia,h0⟩,?_⟩;intro i m ys H2 AC;obtain⟨e,p⟩:=AC;obtain⟨q1,q2⟩:=hl i ys H2 (by lia) p;refine⟨hd i ys H2 p,?_⟩;by_cases hi:i < xs.length
 ·have ex:xs[i]?=some xs[i]:=aK hi;have ey:ws[i]?=some ws[i]:=aK (by lia);refine .inr ⟨⟨xs,ws,_,_,q1,q2,ex,ey⟩,hz i ys H2 hi p,Pv (i+1),λFT H' p'=>⟨m - 1,by lia,by lia,p'⟩,?_⟩;intro x H3 AC;obtain⟨pp,x',y',fp,rfl,eu,ev,rfl⟩:=AC;exact(hs i x' y' pp ys H2 (eu xs q1) (ev ws q2) p fp).2
 ·have e':i=xs.length:=(by lia);subst e';exact .inl ⟨⟨xs,ws,q1,q2,.inl (aN _)⟩,he ys H2 p⟩
end
end L2
namespace PySem
namespace TupSet
open SetTable
def ir (m:Nat)(p:Probe):Probe:=
 if p.more > 0 then { p with j:=p.j+1,more:=p.more - 1 }else
 { p with j:=(leap m p.i p.perturb).1,more:=runEnd m (leap m p.i p.perturb).1 - (leap m p.i p.perturb).1,i:=(leap m p.i p.perturb).1,perturb:=(leap m p.i p.perturb).2 }
theorem Ov (t:eO)(p:Probe):t.advance p=ir t.mask p:=rfl
def oj (m:Nat)(h:Int):Probe:={ j:=bits h % (m+1),more:=runEnd m (bits h % (m+1)) - bits h % (m+1),i:=bits h % (m+1),perturb:=bits h,dummy:=none }
theorem Ow (m:Nat)(p:Probe):(ir m p).dummy=p.dummy:=by unfold ir;split<;>rfl
def ComesM (m j₀:Nat):Nat->Probe->Prop
 |0,p=>p.j=j₀
 |k+1,p=>p.j=j₀\/ComesM m j₀ k (ir m p)
theorem ComesM.mono {m j₀:Nat}:∀{k n:Nat}{p:Probe},ComesM m j₀ k p->k<=n->ComesM m j₀ n p
 |0,0,_,h,_=>h
 |0,n+1,_,h,_=>.inl h
 |k+1,0,_,_,h=>absurd h (by lia)
 |k+1,n+1,_,.inl h,_=>.inl h
 |k+1,n+1,_,.inr h,hm=>.inr (ComesM.mono h (by lia))
def fj (m j:Nat):Nat->Nat->Bool
 |0,i=>i == j
 |l+1,i=>i == j || fj m j l ((i * 5+1) % (m+1))
def it (m:Nat):Nat->Nat->Nat
 |0,i=>i
 |k+1,i=>it m k ((i * 5+1) % (m+1))
theorem Ba (m:Nat):∀(a b i:Nat),it m (a+b) i=it m b (it m a i)
 |0,b,i=>by rw[wC];rfl
 |a+1,b,i=>by rw[show a+1+b=(a+b)+1 by lia];exact Ba m a b _
theorem rq {m j:Nat}:∀{k l i:Nat},it m k i=j->k<=l->fj m j l i=true
 |0,0,i,h,_=>by have:i=j:=h;simp[fj,this]
 |0,l+1,i,h,_=>by have:i=j:=h;simp[fj,this]
 |k+1,0,i,_,h=>absurd h (by lia)
 |k+1,l+1,i,h,hl=>by unfold fj;rw[rq (k:=k) h (by lia),lX]
theorem ye {m j:Nat}:∀{l i:Nat},fj m j l i=true->∃k,k<=l/\it m k i=j
 |0,i,h=>⟨0,aN _,by show i=j;simpa[fj]using h⟩
 |l+1,i,h=>by
  unfold fj at h;rw[qR]at h;rcases h with h | h
  ·exact⟨0,gO _,by show i=j;simpa using h⟩
  ·obtain⟨k,hk,e⟩:=ye h;exact⟨k+1,by lia,e⟩
def Ge (m:Nat):Bool:=(dG (m+1)).all (λj=>fj m j m 0) && it m (m+1) 0 == 0
theorem orb7:Ge 7=true:=by decide +kernel
theorem orb31:Ge 31=true:=by decide +kernel
theorem Yv:Ge 127=true:=by decide +kernel
def M3 (m:Nat):Prop:=m=7\/m=31\/m=127
theorem We {m:Nat}(hm:M3 m):(∀j,j<=m->∃k,k<=m/\it m k 0=j)/\it m (m+1) 0=0:=by
 have h:Ge m=true:=by
  rcases hm with rfl | rfl | rfl
  ·exact orb7
  ·exact orb31
  ·exact Yv
 unfold Ge at h;rw[iB]at h;exact⟨λj hj=>ye (List.all_eq_true.mp h.1 j (iW.mpr (by lia))),by simpa using h.2⟩
theorem C3 {m:Nat}(hm:M3 m){i j:Nat}(hi:i<=m)(hj:j<=m):fj m j m i=true:=by
 obtain⟨o,per⟩:=We hm;obtain⟨a,ha,ea⟩:=o i hi;obtain⟨b,hb,eb⟩:=o j hj;by_cases h:a<=b
 ·refine rq (k:=b - a) ?_ (by lia);rw[<-ea,<-Ba,show a+(b - a)=b by lia];exact eb
 ·refine rq (k:=b+(m+1) - a) ?_ (by lia);rw[<-ea,<-Ba,show a+(b+(m+1) - a)=(m+1)+b by lia,Ba,per];exact eb
def Head (m:Nat)(p:Probe):Prop:=p.j=p.i/\p.i<=m/\p.more=runEnd m p.i - p.i
theorem Head.start (m:Nat)(h:Int):Head m (oj m h):=⟨rfl,by show bits h % (m+1)<=m;have:=pA (bits h) (show 0 < m+1 by lia);lia,rfl⟩
def qk (m:Nat)(p:Probe):Probe:={ p with j:=(leap m p.i p.perturb).1,more:=runEnd m (leap m p.i p.perturb).1 - (leap m p.i p.perturb).1,i:=(leap m p.i p.perturb).1,perturb:=(leap m p.i p.perturb).2 }
theorem Head.next {m:Nat}(p:Probe):Head m (qk m p):=⟨rfl,by show(leap m p.i p.perturb).1<=m;unfold leap;have:=pA (p.i * 5+1+p.perturb / 32) (show 0 < m+1 by lia);dsimp only;lia,rfl⟩
theorem yz {m j₀:Nat}:∀(c:Nat)(p:Probe),p.more=c->∀k,ComesM m j₀ k (qk m p)->ComesM m j₀ (k+(c+1)) p
 |0,p,hc,k,h=>by
  refine .inr ?_;have e:ir m p=qk m p:=(by unfold ir;rw[if_neg (by lia)];rfl);rw[e];exact h
 |c+1,p,hc,k,h=>by
  have e:ir m p={ p with j:=p.j+1,more:=p.more - 1 }:=(by unfold ir;rw[if_pos (by lia)]);refine .inr ?_;rw[e];exact yz c { p with j:=p.j+1,more:=p.more - 1 } (by show p.more - 1=c;lia) k h
theorem wx (m i:Nat):runEnd m i - i<=9:=by unfold runEnd;split<;>lia
theorem yf {m j₀:Nat}:∀(l:Nat)(p:Probe),Head m p->p.perturb=0->fj m j₀ l p.i=true->ComesM m j₀ (10 * l) p
 |0,p,H,h0,h=>by
  show p.j=j₀;rw[H.1];simpa[fj]using h
 |l+1,p,H,h0,h=>by
  by_cases e:p.i=j₀
  ·exact ComesM.mono (show ComesM m j₀ 0 p from H.1.trans e) (by lia)
  ·have h':fj m j₀ l ((p.i * 5+1) % (m+1))=true:=by
    unfold fj at h;rw[qR]at h;rcases h with h | h
    ·exact absurd (by simpa using h) e
    ·exact h
   have e1:(leap m p.i p.perturb)=((p.i * 5+1) % (m+1),0):=(by unfold leap;rw[h0]);have x:=yf l (qk m p) (Head.next p) (by show(leap m p.i p.perturb).2=0;rw[e1]) (by show fj m j₀ l (leap m p.i p.perturb).1=true;rw[e1];exact h')
   exact ComesM.mono (yz p.more p rfl _ x) (by rw[H.2.2];have:=wx m p.i;lia)
theorem Bb {m j₀:Nat}(hm:M3 m)(hj:j₀<=m):∀(k:Nat)(p:Probe),Head m p->p.perturb < 32 ^ k->ComesM m j₀ (10 * (k+m)) p
 |0,p,H,hp=>by
  have:p.perturb=0:=(by simpa using hp);rw[wC];exact yf m p H this (C3 hm H.2.1 hj)
 |k+1,p,H,hp=>by
  have M':(qk m p).perturb < 32 ^ k:=by
   show p.perturb / 32 < 32 ^ k;rw[rA]at hp;exact Nat.div_lt_of_lt_mul (by rw[tQ];exact hp)
  have x:=Bb hm hj k (qk m p) (Head.next p) M'
  exact ComesM.mono (yz p.more p rfl _ x) (by rw[H.2.2];have:=wx m p.i;lia)
theorem Je (h:Int):bits h < 2 ^ 64:=by
 unfold bits;have h1:h % (2 ^ 64:Int) < 2 ^ 64:=Int.emod_lt_of_pos _ (by decide);have h2:0<=h % (2 ^ 64:Int):=Int.emod_nonneg _ (by decide);lia
theorem Gf {m j₀:Nat}(hm:M3 m)(hj:j₀<=m)(h:Int):ComesM m j₀ (10 * (13+m)) (oj m h):=
 Bb hm hj 13 _ (Head.start m h) (eI (Je h) (by decide))
def Thru (m:Nat)(ne:Nat->Prop)(j:Nat):Nat->Probe->Prop
 |0,p=>p.j=j
 |k+1,p=>p.j=j\/(ne p.j/\Thru m ne j k (ir m p))
theorem Thru.mono {m j:Nat}{ne VW:Nat->Prop}(hn:∀i,ne i->VW i):∀{k n:Nat}{p:Probe},Thru m ne j k p->k<=n->Thru m VW j n p
 |0,0,_,h,_=>h
 |0,n+1,_,h,_=>.inl h
 |k+1,0,_,_,h=>absurd h (by lia)
 |k+1,n+1,_,.inl h,_=>.inl h
 |k+1,n+1,_,.inr h,hm=>.inr ⟨hn _ h.1,Thru.mono hn h.2 (by lia)⟩
end TupSet
namespace TupSet
open SetTable
def RiseA (xs:Array Nat):Prop:=xs.toList.Pairwise (· < ·)
theorem RiseA.lt {xs:Array Nat}(h:RiseA xs){a b v u:Nat}(ha:xs[a]?=some v)(hb:xs[b]?=some u)(BR:a < b):v < u:=by
 rw[<-eB]at ha hb;obtain⟨h1,rfl⟩:=aM.mp ha;obtain⟨h2,rfl⟩:=aM.mp hb;exact List.pairwise_iff_getElem.mp h a b h1 h2 BR
theorem y8 {xs:Array Nat}(hr:RiseA xs)(j:Nat):∀(f lo hi:Nat),hi - lo<=f->lo<=hi->hi<=xs.size->(∀(a v:Nat),xs[a]?=some v->(a < lo->v < j)/\(hi<=a->j<=v))->
  ∀(a v:Nat),xs[a]?=some v->(a < below.go xs j f lo hi->v < j)/\(below.go xs j f lo hi<=a->j<=v)
 |0,lo,hi,hf,h1,h2,h,a,v,e=>by
  have:hi=lo:=(by lia);subst this;exact h a v e
 |f+1,lo,hi,hf,h1,h2,h,a,v,e=>by
  unfold below.go;by_cases AZ:lo < hi
  ·rw[if_pos AZ];dsimp only;have hm:(lo+hi) / 2 < xs.size:=(by lia);have em:xs[(lo+hi) / 2]?=some xs[(lo+hi) / 2]:=dZ hm;have eg:xs.getD ((lo+hi) / 2) j=xs[(lo+hi) / 2]:=(by rw[eU,em];rfl);rw[eg];by_cases hv:xs[(lo+hi) / 2] < j
   ·rw[if_pos hv];refine y8 hr j f _ _ (by lia) (by lia) h2 (λa v e=>⟨λha=>?_,(h a v e).2⟩) a v e;by_cases c:a=(lo+hi) / 2
    ·subst c;rw[em]at e;cases e;exact hv
    ·exact jE (hr.lt e em (by lia)) hv
   ·rw[if_neg hv];refine y8 hr j f _ _ (by lia) (by lia) (by lia) (λa v e=>⟨(h a v e).1,λha=>?_⟩) a v e;by_cases c:a=(lo+hi) / 2
    ·subst c;rw[em]at e;cases e;lia
    ·have:=hr.lt em e (by lia);lia
  ·rw[if_neg AZ];exact⟨(h a v e).1,λha=>(h a v e).2 (by lia)⟩
theorem iu {xs:Array Nat}(hr:RiseA xs)(j:Nat){a v:Nat}(e:xs[a]?=some v):(a < below xs j->v < j)/\(below xs j<=a->j<=v):=by
 refine y8 hr j xs.size 0 xs.size (by lia) (gO _) (aN _) (λa v e=>⟨λh=>absurd h (pB _),λh=>?_⟩) a v e;obtain⟨h1,_⟩:=iK.mp e;lia
theorem y9 {xs:Array Nat}(hr:RiseA xs){i j:Nat}(e:xs[i]?=some j):below xs j=i:=by
 have h1:=(iu hr j e).1;by_cases c:below xs j=i
 ·exact c
 ·have AZ:below xs j < i:=by
   by_cases h:i < below xs j
   ·exact absurd (h1 h) (kZ _)
   ·lia
  obtain⟨h2,_⟩:=iK.mp e;have eb:xs[below xs j]?=some xs[below xs j]:=dZ (by lia);have h3:=hr.lt eb e AZ;have h4:=(iu hr j eb).2 (aN _);lia
structure Tb (t:eO)(n:Nat):Prop where
 mask:M3 t.mask
 dum:t.dummies=#[]
 size:t.place.size=n
 plain:t.plain=true
 rise:RiseA t.place
 inb:∀j∈t.place.toList,j<=t.mask
theorem Tb.fill {t:eO}{n:Nat}(S:Tb t n):t.fill=n:=by unfold SetTable.fill;rw[S.dum,S.size];rfl
theorem Tb.fresh (led:Bool):Tb (SetTable.fresh 0 0 led) 0:=⟨.inl rfl,rfl,rfl,rfl,.nil,λj hj=>nomatch hj⟩
theorem Tb.slot {t:eO}{n:Nat}(S:Tb t n)(j:Nat):(∃i,t.place[i]?=some j/\t.slot j=.live i)\/((∀i:Nat,t.place[i]?≠some j)/\t.slot j=.empty):=by
 unfold SetTable.slot;dsimp only;by_cases h:t.place[below t.place j]?=some j
 ·exact .inl ⟨below t.place j,h,by rw[if_pos (by simpa using h)]⟩
 ·refine .inr ⟨λi e=>h (by rw[y9 S.rise e];exact e),?_⟩;rw[if_neg (by simpa using h),if_neg (by rw[S.dum];simp[has])]
theorem Tb.live {t:eO}{n i j:Nat}(S:Tb t n)(h:t.slot j=.live i):t.place[i]?=some j/\i < n:=by
 rcases S.slot j with⟨i',e,e'⟩ | ⟨_,e'⟩
 ·rw[e']at h;cases h;exact⟨e,by rw[<-S.size];exact(iK.mp e).1⟩
 ·rw[e']at h;cases h
theorem Tb.liveOf {t:eO}{n i j:Nat}(S:Tb t n)(h:t.place[i]?=some j):t.slot j=.live i:=by
 rcases S.slot j with⟨i',e,e'⟩ | ⟨h',_⟩
 ·have:i'=i:=(by rw[<-y9 S.rise e,y9 S.rise h]);rw[e',this]
 ·exact absurd h (h' i)
theorem Tb.noDummy {t:eO}{n j:Nat}(S:Tb t n)(h:t.slot j=.dummy):False:=by
 rcases S.slot j with⟨i',e,e'⟩ | ⟨_,e'⟩<;>(rw[e']at h;cases h)
theorem Ox:∀(m:Nat)(l:List Nat),(∀j,j < m->j∈l)->m<=l.length
 |0,l,_=>gO _
 |m+1,l,h=>by
  have hm:=h m (by lia);have:=Ox m (l.erase m) (λj hj=>(List.mem_erase_of_ne (by lia)).mpr (h j (by lia)));rw[List.length_erase_of_mem hm]at this;have:=List.length_pos_of_mem hm;lia
theorem Tb.free {t:eO}{n:Nat}(S:Tb t n)(hn:n<=t.mask):∃j,j<=t.mask/\t.slot j=.empty:=by
 refine nX λhc=>?_;have:=Ox (t.mask+1) t.place.toList (λj hj=>?_)
 ·rw[gH,S.size]at this;lia
 ·rcases S.slot j with⟨i,e,_⟩ | ⟨_,e⟩
  ·rw[<-eB]at e;exact bV e
  ·exact absurd ⟨j,by lia,e⟩ hc
def Ne (t:eO)(j:Nat):Prop:=t.slot j≠.empty
theorem goM {t:eO}{n:Nat}(S:Tb t n){hs:Nat->Int}{h:Int}{j₀:Nat}(he:t.slot j₀=.empty):∀(k f:Nat)(p:Probe),ComesM t.mask j₀ k p->p.dummy=none->k < f->
  (∃j,probe.go t hs h f p=some (.empty j none)/\t.slot j=.empty/\Thru t.mask (Ne t) j k p)\/
  (∃j i next c,probe.go t hs h f p=some (.candidate j i next)/\t.slot j=.live i/\hs i=h/\next.dummy=none/\0 < c/\c<=k/\ComesM t.mask j₀ (k - c) next/\∀j' m,Thru t.mask (Ne t) j' m next->Thru t.mask (Ne t) j' (m+c) p)
 |k,0,_,_,_,h=>absurd h (by lia)
 |k,f+1,p,hc,hd,hf=>by
  unfold probe.go
  match CP:t.slot p.j with
  | .empty=>exact .inl ⟨p.j,by rw[hd],CP,Thru.mono (λ_ z=>z) (show Thru t.mask (Ne t) p.j 0 p from rfl) (gO _)⟩
  | .dummy=>exact(S.noDummy CP).elim
  | .live i=>
   have AO:p.j≠j₀:=(by rintro e;rw[e,he]at CP;exact nomatch CP);have hn:Ne t p.j:=by unfold Ne;rw[CP];exact λz=>nomatch z
   match k,hc with
   |0,hc=>exact absurd hc AO
   |k+1,hc=>
    have JG:ComesM t.mask j₀ k (ir t.mask p):=hc.resolve_left AO;have CD:(ir t.mask p).dummy=none:=(by rw[Ow];exact hd);dsimp only;rw[Ov];by_cases hh:(hs i == h)=true
    ·rw[if_pos hh];exact .inr ⟨p.j,i,_,1,rfl,CP,by simpa using hh,CD,by lia,by lia,by simpa using JG,λj' m z=>.inr ⟨hn,z⟩⟩
    ·rw[if_neg hh];rcases goM S he k f _ JG CD (by lia)with⟨j,e,e1,e2⟩ | ⟨j,i',nx,c,e,e1,e2,e3,c0,ck,e4,e5⟩
     ·exact .inl ⟨j,e,e1,.inr ⟨hn,e2⟩⟩
     ·exact .inr ⟨j,i',nx,c+1,e,e1,e2,e3,by lia,by lia,by rw[show k+1 - (c+1)=k - c by lia];exact e4,λj' m z=>by
        rw[show m+(c+1)=(m+c)+1 by lia];exact .inr ⟨hn,e5 j' m z⟩⟩
theorem Uc {t:eO}{n:Nat}(S:Tb t n){hs:Nat->Int}{eq:Nat->Bool}{h:Int}{j₀:Nat}(he:t.slot j₀=.empty):∀(k f:Nat)(p:Probe),ComesM t.mask j₀ k p->p.dummy=none->k < f->k < 10 * turns t.mask->
  (oq t hs eq h f p=some none/\∃i,i < n/\hs i=h/\eq i=true)\/∃j,oq t hs eq h f p=some (some j)/\t.slot j=.empty/\Thru t.mask (Ne t) j k p
 |k,0,_,_,_,h,_=>absurd h (by lia)
 |k,f+1,p,hc,hd,hf,hk=>by
  unfold oq;have hp:t.probe hs h p=probe.go t hs h (10 * turns t.mask) p:=rfl;rw[hp];rcases goM S (hs:=hs) (h:=h) he k (10 * turns t.mask) p hc hd hk with⟨j,e,e1,e2⟩ | ⟨j,i,nx,c,e,e1,e2,e3,c0,ck,e4,e5⟩
  ·rw[e];exact .inr ⟨j,rfl,e1,e2⟩
  ·rw[e];dsimp only;by_cases hq:eq i=true
   ·rw[if_pos hq];exact .inl ⟨rfl,i,(S.live e1).2,e2,hq⟩
   ·rw[if_neg hq];rcases Uc S he (k - c) f nx e4 e3 (by lia) (by lia)with h | ⟨j',x1,x2,x3⟩
    ·exact .inl h
    ·exact .inr ⟨j',x1,x2,by have:=e5 j' _ x3;rw[show k - c+c=k by lia]at this;exact this⟩
theorem Ln {t:eO}{n:Nat}(S:Tb t n)(hn:n<=t.mask)(hs:Nat->Int)(eq:Nat->Bool)(h:Int) :
  (oq t hs eq h 100000 (t.probeStart h)=some none/\∃i,i < n/\hs i=h/\eq i=true)\/∃j,oq t hs eq h 100000 (t.probeStart h)=some (some j)/\t.slot j=.empty/\Thru t.mask (Ne t) j (10 * (13+t.mask)) (t.probeStart h):=by
 obtain⟨j,hj,he⟩:=S.free hn;have h127:t.mask<=127:=(by rcases S.mask with e | e | e<;>rw[e]<;>decide);exact Uc S he _ 100000 _ (Gf S.mask hj h) rfl (by lia) (by unfold turns;lia)
theorem goF {t:eO}{n:Nat}(S:Tb t n){hs:Nat->Int}{h:Int}{j i:Nat}(hl:t.slot j=.live i)(hh:hs i=h):∀(k f:Nat)(p:Probe),Thru t.mask (Ne t) j k p->k < f->
  ∃j' i' next,probe.go t hs h f p=some (.candidate j' i' next)/\t.slot j'=.live i'/\(j'=j\/∃c,0 < c/\c<=k/\Thru t.mask (Ne t) j (k - c) next)
 |k,0,_,_,h=>absurd h (by lia)
 |k,f+1,p,ht,hf=>by
  by_cases e:p.j=j
  ·unfold probe.go;rw[e,hl];dsimp only;rw[if_pos (by simp[hh])];exact⟨j,i,_,rfl,hl,.inl rfl⟩
  ·match k,ht with
   |0,ht=>exact absurd ht e
   |k+1,ht=>
    obtain⟨hn,EH⟩:=ht.resolve_left e;unfold probe.go
    match CP:t.slot p.j with
    | .empty=>exact absurd CP hn
    | .dummy=>exact(S.noDummy CP).elim
    | .live i2=>
     dsimp only;rw[Ov];by_cases hq:(hs i2 == h)=true
     ·rw[if_pos hq];exact⟨p.j,i2,_,rfl,CP,.inr ⟨1,by lia,by lia,by simpa using EH⟩⟩
     ·rw[if_neg hq];obtain⟨j',i',nx,e1,e2,e3⟩:=goF S hl hh k f _ EH (by lia);refine⟨j',i',nx,e1,e2,?_⟩;rcases e3 with e3 | ⟨c,c0,ck,e3⟩
      ·exact .inl e3
      ·exact .inr ⟨c+1,by lia,by lia,by rw[show k+1 - (c+1)=k - c by lia];exact e3⟩
theorem Ud {t:eO}{n:Nat}(S:Tb t n){hs:Nat->Int}{eq:Nat->Bool}{h:Int}{j i:Nat}(hl:t.slot j=.live i)(hh:hs i=h)(hq:eq i=true):∀(k f:Nat)(p:Probe),Thru t.mask (Ne t) j k p->k < f->k < 10 * turns t.mask->oq t hs eq h f p=some none
 |k,0,_,_,h,_=>absurd h (by lia)
 |k,f+1,p,ht,hf,hk=>by
  unfold oq;have hp:t.probe hs h p=probe.go t hs h (10 * turns t.mask) p:=rfl;rw[hp];obtain⟨j',i',nx,e,e1,e2⟩:=goF S hl hh k (10 * turns t.mask) p ht hk;rw[e];dsimp only;by_cases DP:eq i'=true
  ·rw[if_pos DP]
  ·rw[if_neg DP];rcases e2 with e2 | ⟨c,c0,ck,e2⟩
   ·subst e2;rw[hl]at e1;cases e1;exact absurd hq DP
   ·exact Ud S hl hh hq (k - c) f nx e2 (by lia) (by lia)
end TupSet
namespace TupSet
open SetTable
theorem Tb.ne {t:eO}{n:Nat}(S:Tb t n)(k:Nat):Ne t k↔k∈t.place.toList:=by
 unfold Ne;rcases S.slot k with⟨i,e,e'⟩ | ⟨h,e'⟩
 ·rw[e'];rw[<-eB]at e;exact⟨λ_=>bV e,λ_ z=>nomatch z⟩
 ·rw[e'];refine⟨λz=>absurd rfl z,λz=>?_⟩;obtain⟨i,hi⟩:=jJ z;rw[eB]at hi;exact absurd hi (h i)
theorem ve {α:Type}(xs:Array α)(p:Nat)(x:α):(insertAt xs p x).toList=xs.toList.take p++x::xs.toList.drop p:=by
 unfold insertAt;simp;exact lH (by simp)
theorem xu {α:Type}{l:List α}{p:Nat}{x y:α}:y∈l.take p++x::l.drop p↔y=x\/y∈l:=by
 rw[fK,aX];constructor
 ·rintro(h | h | h)
  ·exact .inr (pZ h)
  ·exact .inl h
  ·exact .inr (List.mem_of_mem_drop h)
 ·rintro(h | h)
  ·exact .inr (.inl h)
  ·rw[<-nM p l,fK]at h;rcases h with h | h
   ·exact .inl h
   ·exact .inr (.inr h)
theorem Tb.put {t:eO}{n j:Nat}(S:Tb t n)(he:t.slot j=.empty)(hj:j<=t.mask) :
  Tb (t.put j).1 (n+1)/\(t.put j).2<=n/\(t.put j).1.led=t.led/\(t.put j).1.moves=t.moves/\(t.put j).1.mask=t.mask/\(t.put j).1.place.toList=t.place.toList.take (t.put j).2++j::t.place.toList.drop (t.put j).2:=by
 have hb:=yw t.place j;have el:(t.put j).1.place.toList=t.place.toList.take (below t.place j)++j::t.place.toList.drop (below t.place j):=ve _ _ _;have QG:∀i:Nat,t.place[i]?≠some j:=by
  rcases S.slot j with⟨i,e,e'⟩ | ⟨h,_⟩
  ·rw[e']at he;cases he
  ·exact h
 refine⟨⟨S.mask,?_,?_,S.plain,?_,?_⟩,by rw[<-S.size];exact hb,rfl,rfl,rfl,el⟩
 ·show(if has t.dummies j then eraseAt t.dummies (below t.dummies j)else t.dummies)=#[]
  rw[S.dum,if_neg];simp[has]
 ·show(insertAt t.place (below t.place j) j).size=n+1;rw[Dh _ _ _ hb,S.size]
 ·unfold RiseA;rw[el];have lo:∀a∈t.place.toList.take (below t.place j),a < j:=λa ha=>by
   obtain⟨i,hi⟩:=jJ ha;rw[List.getElem?_take]at hi
   split at hi
   ·next AZ=>
    rw[eB]at hi;exact(iu S.rise j hi).1 AZ
   ·cases hi
  have ED:∀a∈t.place.toList.drop (below t.place j),j < a:=λa ha=>by
   obtain⟨i,hi⟩:=jJ ha;rw[List.getElem?_drop,eB]at hi;have h1:=(iu S.rise j hi).2 (by lia);have h2:a≠j:=λe=>QG _ (by rw[e]at hi;exact hi);lia
  have rs:=S.rise;unfold RiseA at rs;rw[<-nM (below t.place j) t.place.toList,List.pairwise_append]at rs;refine List.pairwise_append.mpr ⟨rs.1,lP.mpr ⟨ED,rs.2.1⟩,λa ha b hb=>?_⟩;rcases aX.mp hb with rfl | hb
  ·exact lo a ha
  ·exact rs.2.2 a ha b hb
 ·intro k hk;rw[el,xu]at hk;rcases hk with rfl | hk
  ·exact hj
  ·exact S.inb k hk
def Rc (t:eO)(H:List Int):Prop:=∀q∈t.place.toList.zip H,Thru t.mask (λk=>k∈t.place.toList) q.1 (10 * (14+t.mask)+9) (oj t.mask q.2)
theorem Wf {α β:Type}{l:List α}{m:List β}{p:Nat}{x:α}{y:β}(h:l.length=m.length):(l.take p++x::l.drop p).zip (m.take p++y::m.drop p)=(l.zip m).take p++(x,y)::(l.zip m).drop p:=by
 rw[List.zip_append (by simp[h]),List.zip_cons_cons];simp only[List.zip_eq_zipWith,List.take_zipWith,List.drop_zipWith]
theorem Rc.put {t:eO}{n j:Nat}{H:List Int}{h:Int}(S:Tb t n)(hl:H.length=n)(R:Rc t H)(he:t.slot j=.empty)(hj:j<=t.mask)(ht:Thru t.mask (Ne t) j (10 * (13+t.mask)) (oj t.mask h)) :
  Rc (t.put j).1 (H.take (t.put j).2++h::H.drop (t.put j).2):=by
 obtain⟨T,hp,_,_,em,el⟩:=S.put he hj;intro q hq;rw[em,el];rw[el,Wf (by rw[gH,S.size,hl]),xu]at hq;have up:∀i,i∈t.place.toList->i∈t.place.toList.take (t.put j).2++j::t.place.toList.drop (t.put j).2:=λi hi=>xu.mpr (.inr hi);rcases hq with rfl | hq
 ·exact Thru.mono (λi hi=>up i ((S.ne i).mp hi)) ht (by lia)
 ·exact Thru.mono up (R q hq) (aN _)
theorem Rc.find {t:eO}{n i:Nat}{H:List Int}{h:Int}{eq:Nat->Bool}(S:Tb t n)(hl:H.length=n)(R:Rc t H)(hi:H[i]?=some h)(hq:eq i=true) :
  oq t (λi=>(H[i]?).getD 0) eq h 100000 (t.probeStart h)=some none:=by
 have FM:i < n:=(by rw[<-hl];exact(aM.mp hi).1);have hsz:i < t.place.size:=(by rw[S.size];exact FM);have ep:t.place[i]?=some t.place[i]:=dZ hsz;have hz:(t.place[i],h)∈t.place.toList.zip H:=by
  refine bV (i:=i) ?_;rw[qS];exact⟨by rw[eB];exact ep,hi⟩
 have h127:t.mask<=127:=(by rcases S.mask with e | e | e<;>rw[e]<;>decide);exact Ud S (S.liveOf ep) (by show(H[i]?).getD 0=h;rw[hi];rfl) hq _ 100000 _ (Thru.mono (λk hk=>(S.ne k).mpr hk) (R _ hz) (aN _)) (by lia) (by unfold turns;lia)
def landsP (m j:Nat):Nat->Nat->Nat->Prop
 |0,i,_=>i=j
 |l+1,i,q=>i=j\/landsP m j l (leap m i q).1 (leap m i q).2
theorem landsP.mono {m j:Nat}:∀{l k i q:Nat},landsP m j l i q->l<=k->landsP m j k i q
 |0,0,_,_,h,_=>h
 |0,k+1,_,_,h,_=>.inl h
 |l+1,0,_,_,_,h=>absurd h (by lia)
 |l+1,k+1,_,_,.inl h,_=>.inl h
 |l+1,k+1,_,_,.inr h,hk=>.inr (landsP.mono h (by lia))
theorem yg {m j:Nat}:∀{l i:Nat},fj m j l i=true->landsP m j l i 0
 |0,i,h=>by show i=j;simpa[fj]using h
 |l+1,i,h=>by
  unfold fj at h;rw[qR]at h;rcases h with h | h
  ·exact .inl (by simpa using h)
  ·refine .inr ?_;have e:leap m i 0=((i * 5+1) % (m+1),0):=(by unfold leap;rfl);rw[e];exact yg h
theorem Bc {m j:Nat}(hm:M3 m)(hj:j<=m):∀(k i q:Nat),i<=m->q < 32 ^ k->landsP m j (k+m) i q
 |0,i,q,hi,hq=>by
  have:q=0:=(by simpa using hq);subst this;rw[wC];exact yg (C3 hm hi hj)
 |k+1,i,q,hi,hq=>by
  rw[show k+1+m=(k+m)+1 by lia];refine .inr (Bc hm hj k _ _ ?_ ?_)
  ·unfold leap;have:=pA (i * 5+1+q / 32) (show 0 < m+1 by lia);dsimp only;lia
  ·show q / 32 < 32 ^ k;rw[rA]at hq;exact Nat.div_lt_of_lt_mul (by rw[tQ];exact hq)
def NeO (ow:Array (Option Nat))(j:Nat):Prop:=∃k,ow[j]?=some (some k)
theorem Gg {m:Nat}{ne:Nat->Prop}:∀(k:Nat)(p:Probe),k<=p.more->(∀a,a < k->ne (p.j+a))->Thru m ne (p.j+k) k p
 |0,p,_,_=>rfl
 |k+1,p,hk,h=>by
  refine .inr ⟨h 0 (by lia),?_⟩;have e:ir m p={ p with j:=p.j+1,more:=p.more - 1 }:=(by unfold ir;rw[if_pos (by lia)]);rw[e];have:=Gg (m:=m) (ne:=ne) k { p with j:=p.j+1,more:=p.more - 1 } (by show k<=p.more - 1;lia) (λa ha=>by show ne (p.j+1+a);rw[show p.j+1+a=p.j+(a+1)by lia];exact h (a+1) (by lia));show Thru m ne (p.j+(k+1)) k _;rw[show p.j+(k+1)=p.j+1+k by lia];exact this
theorem C4 {m j:Nat}{ne:Nat->Prop}:∀(c:Nat)(p:Probe),p.more=c->(∀a,a<=c->ne (p.j+a))->∀k,Thru m ne j k (qk m p)->Thru m ne j (k+(c+1)) p
 |0,p,hc,h,k,x=>by
  refine .inr ⟨h 0 (by lia),?_⟩;have e:ir m p=qk m p:=(by unfold ir;rw[if_neg (by lia)];rfl);rw[e];exact x
 |c+1,p,hc,h,k,x=>by
  have e:ir m p={ p with j:=p.j+1,more:=p.more - 1 }:=(by unfold ir;rw[if_pos (by lia)]);refine .inr ⟨h 0 (by lia),?_⟩;rw[e];exact C4 c { p with j:=p.j+1,more:=p.more - 1 } (by show p.more - 1=c;lia) (λa ha=>by show ne (p.j+1+a);rw[show p.j+1+a=p.j+(a+1)by lia];exact h (a+1) (by lia)) k x
def Lo (m i q:Nat):Probe:={ j:=i,more:=runEnd m i - i,i:=i,perturb:=q,dummy:=none }
theorem wz (m i:Nat):i<=runEnd m i:=by unfold runEnd;split<;>lia
theorem w6 {m i:Nat}(hi:i<=m):runEnd m i<=m:=by unfold runEnd;split<;>lia
theorem Jf {m j₀:Nat}{ow:Array (Option Nat)}(sz:ow.size=m+1)(he:ow[j₀]?=some none):∀(l i q:Nat),i<=m->landsP m j₀ l i q->
  ∃j,layClean.free m ow (l+1) i q=some j/\ow[j]?=some none/\Thru m (NeO ow) j (10 * l+9) (Lo m i q)
 |l,i,q,hi,hl=>by
  have ge:=wz m i;have le:=w6 hi;have r9:=wx m i;have tk:∀a,i+a<=runEnd m i->¬(ow.getD (i+a) (some 0)).isNone=true->NeO ow (i+a):=λa ha hn=>by
   have e:ow[i+a]?=some (ow[i+a]'(by lia)):=dZ (by lia);rw[eU,e]at hn;cases h:ow[i+a]'(by lia)with
   |none=>rw[h]at hn;exact absurd rfl hn
   |some k=>exact⟨k,by rw[e,h]⟩
  unfold layClean.free;cases hf:(dG (runEnd m i+1 - i)).find? (λk=>(ow.getD (i+k) (some 0)).isNone)with
  |some k=>
   dsimp only;have hk:=List.find?_some hf;have hm:=List.mem_of_find?_eq_some hf;have hkr:k < runEnd m i+1 - i:=iW.mp hm;obtain⟨_,as,bs,eq,hb⟩:=List.find?_eq_some_iff_append.mp hf;refine⟨i+k,rfl,?_,?_⟩
   ·have e:ow[i+k]?=some (ow[i+k]'(by lia)):=dZ (by lia);rw[eU,e]at hk;cases h:ow[i+k]'(by lia)with
    |none=>rw[e,h]
    |some z=>rw[h]at hk;cases hk
   ·refine Thru.mono (λ_ z=>z) (Gg k (Lo m i q) (by show k<=runEnd m i - i;lia) (λa ha=>?_)) (by lia);refine tk a (by lia) (λz=>?_);have IG:a∈as:=by
     have:(dG (runEnd m i+1 - i))[a]?=some a:=oJ (by lia);have CW:(dG (runEnd m i+1 - i))[as.length]?=some k:=(by rw[eq];simp);rw[oJ (by have:=(aM.mp CW).1;simpa using this)]at CW;cases CW;rw[eq,eK ha]at this;exact bV this
    have:=hb a IG;rw[z]at this;cases this
  |none=>
   dsimp only;have hn:=List.find?_eq_none.mp hf;have BM:∀a,a<=runEnd m i - i->NeO ow (i+a):=λa ha=>tk a (by lia) (hn a (iW.mpr (by lia)));have AO:i≠j₀:=λe=>by
    obtain⟨k,hk⟩:=BM 0 (by lia);rw[Nat.add_zero,e,he]at hk;cases hk
   match l,hl with
   |0,hl=>exact absurd hl AO
   |l+1,hl=>
    have LP:=hl.resolve_left AO;have ED:(leap m i q).1<=m:=(by unfold leap;have:=pA (i * 5+1+q / 32) (show 0 < m+1 by lia);dsimp only;lia);obtain⟨j,e1,e2,e3⟩:=Jf sz he l _ _ ED LP;refine⟨j,e1,e2,?_⟩;exact Thru.mono (λ_ z=>z) (C4 (runEnd m i - i) (Lo m i q) rfl BM _ e3) (by lia)
end TupSet
namespace TupSet
open SetTable
theorem Jg:∀(l:List (Option Nat)),(l.filterMap id).length < l.length->none∈l
 | [],h=>absurd h (kZ _)
 |none::l,_=>eF
 |some a::l,h=>cX _ (Jg l (by simpa using h))
theorem zh {k:Nat}:∀(l:List (Option Nat))(j:Nat),l[j]?=some none->((l.set j (some k)).filterMap id).Perm (k::l.filterMap id)
 | [],j,h=>by simp at h
 |a::l,0,h=>by
  have:a=none:=(by simpa using h);subst this;exact .refl _
 |none::l,j+1,h=>by
  have:=zh (k:=k) l j (by simpa using h);simpa using this
 |some a::l,j+1,h=>by
  have:=zh (k:=k) l j (by simpa using h);simp only[pC,iQ,id];exact(this.cons a).trans (.swap _ _ _)
structure OwI (m:Nat)(ow:Array (Option Nat))(k:Nat)(hs:List Int):Prop where
 sz:ow.size=m+1
 perm:(ow.toList.filterMap id).Perm (dG k)
 thru:∀j k',ow[j]?=some (some k')->∃h,hs[k']?=some h/\Thru m (NeO ow) j (10 * (14+m)+9) (oj m h)
def tf (m:Nat)(AL:Option (Array (Option Nat)×Nat))(h:Int):Option (Array (Option Nat)×Nat):=do
 let (owner,k) <-AL
 let j <-layClean.free m owner (turns m) (bits h % (m+1)) (bits h)
 pure (owner.setIfInBounds j (some k),k+1)
theorem Ho (m:Nat)(hs:Array Int):layClean m hs=(hs.toList.foldl (tf m) (some (wV (m+1) none,0))).map (·.1):=by
 unfold layClean;rw[<-Array.foldl_toList];rfl
theorem OwI.step {m k:Nat}{ow:Array (Option Nat)}{hs:List Int}{h:Int}(hm:M3 m)(O:OwI m ow k hs)(hk:k<=m)(hh:hs[k]?=some h):∃KG,tf m (some (ow,k)) h=some (KG,k+1)/\OwI m KG (k+1) hs:=by
 have AG:(ow.toList.filterMap id).length=k:=(by rw[O.perm.length_eq,iS]);obtain⟨j₀,FN⟩:=jJ (Jg ow.toList (by rw[AG,gH,O.sz];lia));rw[eB]at FN;have hj₀m:j₀<=m:=(by have:=(iK.mp FN).1;rw[O.sz]at this;lia);have hb:bits h % (m+1)<=m:=(by have:=pA (bits h) (show 0 < m+1 by lia);lia);obtain⟨j,e1,e2,e3⟩:=Jf O.sz FN (14+m) _ (bits h) hb ((Bc hm hj₀m 13 _ _ hb (eI (Je h) (by decide))).mono (by lia));have et:turns m=14+m+1:=(by unfold turns;lia);have hjs:j < ow.size:=(iK.mp e2).1;have up:∀i,NeO ow i->NeO (ow.setIfInBounds j (some k)) i:=λi ⟨k',hi⟩=>by
  by_cases c:i=j
  ·rw[c,e2]at hi;cases hi
  ·exact⟨k',by rw[Array.getElem?_setIfInBounds_ne (λz=>c z.symm)];exact hi⟩
 refine⟨ow.setIfInBounds j (some k),?_,?_,?_,?_⟩
 ·unfold tf;dsimp only[Option.bind_eq_bind,Option.bind_some];rw[et,e1];rfl
 ·rw[Array.size_setIfInBounds];exact O.sz
 ·rw[Array.toList_setIfInBounds];refine(zh _ _ (by rw[eB];exact e2)).trans ?_;rw[lW];exact(O.perm.cons k).trans (List.perm_append_singleton _ _).symm
 ·intro j' k' e;by_cases c:j'=j
  ·subst c;rw[Array.getElem?_setIfInBounds_self_of_lt hjs]at e;cases e;exact⟨h,hh,Thru.mono up e3 (aN _)⟩
  ·rw[Array.getElem?_setIfInBounds_ne (λz=>c z.symm)]at e;obtain⟨h',a,b⟩:=O.thru j' k' e;exact⟨h',a,Thru.mono up b (aN _)⟩
theorem Gh {m:Nat}{hs:List Int}(hm:M3 m)(hn:hs.length<=m+1):∀(rest dn:List Int)(ow:Array (Option Nat)),hs=dn++rest->OwI m ow dn.length hs->∃KG,rest.foldl (tf m) (some (ow,dn.length))=some (KG,hs.length)/\OwI m KG hs.length hs
 | [],dn,ow,e,O=>by rw[nI]at e;subst e;exact⟨ow,rfl,O⟩
 |h::rest,dn,ow,e,O=>by
  obtain⟨KG,e1,O'⟩:=O.step (h:=h) hm (by rw[e]at hn;simp at hn;lia) (by rw[e];simp);rw[wO,e1];have:=Gh hm hn rest (dn++[h]) KG (by rw[e];simp) (by rw[aQ];exact O');rw[aQ]at this;exact this
theorem Yw {m:Nat}{hs:List Int}(hm:M3 m)(hn:hs.length<=m+1):∃ow,layClean m hs.toArray=some ow/\OwI m ow hs.length hs:=by
 have O:OwI m (wV (m+1) none) 0 hs:=⟨by simp,by simp,λj k' e=>by rw[Array.getElem?_replicate]at e;split at e<;>cases e⟩;obtain⟨ow,e,O'⟩:=Gh hm hn hs [] _ rfl O;refine⟨ow,?_,O'⟩;rw[Ho];show pV _ (hs.foldl (tf m) (some (wV (m+1) none,([]:List Int).length)))=_;rw[e];rfl
theorem Oy {t:eO}{n:Nat}{H:List Int}{w:Nat}(hp:t.plain=true)(hl:H.length=n)(hm:M3 (sizeAbove w - 1))(hn:n<=sizeAbove w - 1) :
  ∃t' order,t.relaid H.toArray w=some (t',order)/\Tb t' n/\t'.mask=sizeAbove w - 1/\t'.led=t.led/\order.toList.Perm (dG n)/\Rc t' (order.toList.map λk=>(H[k]?).getD 0):=by
 generalize em:sizeAbove w - 1=m at hm hn;obtain⟨ow,e,O⟩:=Yw (hs:=H) hm (by lia);rw[hl]at O;have rg:(dG (m+1)).map (λj=>ow.getD j none)=ow.toList:=by
  apply sC;intro i;rw[cQ,eB (xs:=ow)];by_cases h:i < m+1
  ·rw[oJ h,dZ (by rw[O.sz];exact h)];simp[eU,dZ (show i < ow.size by rw[O.sz];exact h)]
  ·rw[jW (by simpa using h),Array.getElem?_eq_none (by rw[O.sz];lia)];rfl
 generalize hL:(dG (m+1)).filterMap (λj=>(ow.getD j none).map (j,·))=live;have DV:∀q∈live,q.1<=m/\ow[q.1]?=some (some q.2):=λq hq=>by
  rw[<-hL]at hq;obtain⟨j,hj,hjq⟩:=List.mem_filterMap.mp hq;have FV:=iW.mp hj;obtain⟨k,hk,rfl⟩:=gY.mp hjq;refine⟨by show j<=m;lia,?_⟩;show ow[j]?=some (some k);have ej:ow[j]?=some (ow[j]'(by rw[O.sz];exact FV)):=dZ (by rw[O.sz];exact FV);rw[eU,ej]at hk;rw[ej];exact congrArg some hk
 have h1:live.map (·.1)=(dG (m+1)).filter λj=>(ow.getD j none).isSome:=by
  rw[<-hL,List.map_filterMap,<-List.filterMap_eq_filter];congr 1
  funext j
  have key:∀z:Option Nat,pV (λx=>x.fst) (pV (λx=>(j,x)) z)=if z.isSome=true then some j else none:=λz=>by cases z<;>rfl
  unfold Option.guard;rw[key]
 have h2:live.map (·.2)=ow.toList.filterMap id:=by
  rw[<-rg,<-hL,List.map_filterMap,List.filterMap_map];congr 1
  funext j
  show(pV (λx=>(j,x)) (ow.getD j none)).map _=id (ow.getD j none);generalize ow.getD j none=z;cases z<;>rfl
 have AG:live.length=n:=by
  have:=congrArg zB h2;rw[aJ,O.perm.length_eq,iS]at this;exact this
 have er:t.relaid H.toArray w=some ({ mask:=m,place:=(live.map (·.1)).toArray,dummies:=#[],finger:=t.finger,led:=t.led,moves:=t.movedTo m,plain:=t.plain },(live.map (·.2)).toArray):=by
  unfold SetTable.relaid SetTable.laid;rw[em,e];show some _=some _;rw[hL]
 have BK:∀j,j∈live.map (·.1)↔NeO ow j:=λj=>by
  rw[h1,List.mem_filter,List.mem_range];constructor
  ·intro AC;obtain⟨hj,hs⟩:=AC;have ej:ow[j]?=some (ow[j]'(by rw[O.sz];exact hj)):=dZ (by rw[O.sz];exact hj);rw[eU,ej]at hs;obtain⟨k,hk⟩:=oC.mp hs;exact⟨k,by rw[ej];exact congrArg some hk⟩
  ·intro AC;obtain⟨k,hk⟩:=AC;have:=(iK.mp hk).1;rw[O.sz]at this;exact⟨this,by rw[eU,hk];rfl⟩
 refine⟨_,_,er,⟨hm,rfl,by simp[AG],hp,?_,λj hj=>?_⟩,rfl,rfl,?_,?_⟩
 ·show((live.map (·.1)).toArray).toList.Pairwise (· < ·);rw[List.toList_toArray,h1];exact List.pairwise_lt_range.filter _
 ·obtain⟨q,hq,rfl⟩:=jN.mp (show j∈live.map (·.1)from hj);exact(DV q hq).1
 ·show(live.map (·.2)).Perm _;rw[h2];exact O.perm
 ·intro q hq;show Thru m (λk=>k∈live.map (·.1)) q.1 (10 * (14+m)+9) (oj m q.2);have hz:q∈(live.map (·.1)).zip ((live.map (·.2)).map λk=>(H[k]?).getD 0):=hq;rw[oF,List.zip_map']at hz;obtain⟨z,hz1,rfl⟩:=jN.mp hz;obtain⟨h',a,b⟩:=O.thru _ _ (DV z hz1).2;show Thru m _ z.1 _ (oj m ((H[z.2]?).getD 0));rw[a];exact Thru.mono (λi hi=>(BK i).mpr hi) b (aN _)
end TupSet
namespace TupG
open SetTable TupSet
def Pin (m:Nat)(p:Probe):Prop:=p.j+p.more<=m
theorem Pin.adv {m:Nat}{p:Probe}(h:Pin m p):Pin m (ir m p):=by
 unfold ir Pin at *
 split
 ·show p.j+1+(p.more - 1)<=m;lia
 ·show(leap m p.i p.perturb).1+(runEnd m (leap m p.i p.perturb).1 - (leap m p.i p.perturb).1)<=m;have h1:(leap m p.i p.perturb).1<=m:=(by unfold leap;have:=pA (p.i * 5+1+p.perturb / 32) (show 0 < m+1 by lia);dsimp only;lia);have:=w6 h1;have:=wz m (leap m p.i p.perturb).1;lia
theorem Pin.start (m:Nat)(h:Int):Pin m (oj m h):=by
 show bits h % (m+1)+(runEnd m (bits h % (m+1)) - bits h % (m+1))<=m;have h1:bits h % (m+1)<=m:=(by have:=pA (bits h) (show 0 < m+1 by lia);lia);have:=w6 h1;have:=wz m (bits h % (m+1));lia
theorem Pin.thru {m j:Nat}{ne:Nat->Prop}:∀{k:Nat}{p:Probe},Pin m p->Thru m ne j k p->j<=m
 |0,p,h,t=>by have:p.j=j:=t;unfold Pin at h;lia
 |k+1,p,h,.inl t=>by unfold Pin at h;lia
 |k+1,p,h,.inr t=>Pin.thru h.adv t.2
theorem candG {t:eO}{n:Nat}(S:Tb t n){hs:Nat->Int}{h:Int}{p:Probe}{j i:Nat}{nx:Probe}:∀f,probe.go t hs h f p=some (.candidate j i nx)->t.slot j=.live i/\i < n/\hs i=h:=by
 intro f
 induction f generalizing p with
 |zero=>intro e;exact nomatch e
 |succ f ih=>
  intro e;unfold probe.go at e
  match CP:t.slot p.j with
  | .empty=>rw[CP]at e;exact nomatch e
  | .dummy=>exact(S.noDummy CP).elim
  | .live i'=>
   rw[CP]at e;dsimp only at e;by_cases hh:(hs i' == h)=true
   ·rw[if_pos hh]at e;injection e with e;injection e with e1 e2 e3;subst e1;subst e2;exact⟨CP,(S.live CP).2,by simpa using hh⟩
   ·rw[if_neg hh]at e;exact ih e
theorem uz {t:eO}{n:Nat}(S:Tb t n)(hn:n<=t.mask):t.fits n=true:=by
 unfold SetTable.fits;rw[S.fill,S.size];simp;lia
theorem gaveG {t:eO}{n:Nat}(S:Tb t n):t.gaveWay=false:=by
 unfold SetTable.gaveWay;rcases S.mask with e | e | e<;>rw[e]<;>rfl
section
variable {prog:aU}{w:aZ}{A:cC}{E:aC->aG->Prop}{s:aG}
theorem Rz {S:Addr}{o:Obj}{es:Array (Int×aC)}{ep:Nat}{t t':eO}{order:Array Nat}{wd:Nat}{Q:Unit->aG->Prop}(ho:s.heap.get? S=some o)(hd:o.data=.set es ep t)(hf:t.fits es.size=true)
  (hw:¬pD wd > sizeLine) (hr:t.relaid (es.map (·.1)) wd=some (t',order)) (hz:(order.filterMap (es[·]?)).size=es.size) (hb:es.size < scanBound)
  (h:Q () { s with heap:=s.heap.update S (qD (order.filterMap (es[·]?)) t') }):aL (aS prog w) A (setRelay S wd) Q E s:=by
 unfold setRelay;refine aA (jS ho hd hf ?_);dsimp only;rw[if_neg hw];refine aA ?_;rw[hr];have hc:((order.filterMap (es[·]?)).size != es.size)=false:=(by rw[hz];simp);show aL (aS prog w) A (ite (((order.filterMap (es[·]?)).size != es.size)=true) _ _) _ E s;rw[hc,if_neg bX];refine wpAny_pure ?_;exact wpAny_storeSet_of ho hd h (fits_of_scanBound (by rw[hz];exact hb))
theorem ql {S a:Addr}{o:Obj}{es:Array (Int×aC)}{ep:Nat}{t:eO}{xs:List (List Int)}{x:List Int}{Q:SetFound->aG->Prop}
  (hu:A.units < jH) (ho:s.heap.get? S=some o) (hd:o.data=.set es ep t) (Sm:Tb t xs.length) (hn:xs.length<=t.mask) (hE:EntsOf prog w s.heap es.toList xs)
  (hx:fZ (gE prog w) s.heap x a) (h:Int):∀(f:Nat)(CA:Option Probe) (r:Option Nat),
   oq t (λi=>((xs[i]?).map (dw prog w)).getD 0) (λi=>decide (xs[i]?=some x)) h f (CA.getD (t.probeStart h))=some r->
   (match r with | none=>Q (.there none) s | some j=>Q (.free j false) s)->
   aL (aS prog w) A (setSearchFrom S (.ref a) h true f CA) Q E s
 |0,_,_,e,_=>nomatch e
 |f+1,CA,r,e,hQ=>by
  have AG:=hE.length;rw[gH]at AG;have BI:t.fits es.size=true:=(by rw[AG];exact uz Sm hn);unfold setSearchFrom;refine aA (jS ho hd BI ?_);dsimp only;rw[gaveG Sm];simp only[eV,if_false];unfold oq at e;have hg:∀g:Nat->Int,(∀i,g i=((es[i]?).map (·.1)).getD 0)->g=λi=>((xs[i]?).map (dw prog w)).getD 0:=λg hg=>funext λi=>by
   rw[hg i,<-hE.hash i,eB]
  match hp:t.probe (λi=>((xs[i]?).map (dw prog w)).getD 0) h (CA.getD (t.probeStart h))with
  |none=>rw[hp]at e;exact nomatch e
  |some (.empty j (some d))=>rw[hp]at e;exact nomatch e
  |some (.empty j none)=>
   rw[hp]at e;injection e with e;subst e;have M':∀g:Nat->Int,(∀i,g i=((es[i]?).map (·.1)).getD 0)->t.probe g h (CA.getD (t.probeStart h))=some (.empty j none):=λg OW=>(by rw[hg g OW];exact hp);rw[M']
   ·dsimp only;exact wpAny_pure hQ
   ·intro i;rfl
  |some (.candidate j i next)=>
   rw[hp]at e;dsimp only at e;have M':∀g:Nat->Int,(∀i,g i=((es[i]?).map (·.1)).getD 0)->t.probe g h (CA.getD (t.probeStart h))=some (.candidate j i next):=λg OW=>by rw[hg g OW];exact hp
   rw[M']
   rotate_left
   ·intro i;rfl
   dsimp only;have hc:=candG Sm (hs:=λi=>((xs[i]?).map (dw prog w)).getD 0) (h:=h) (p:=CA.getD (t.probeStart h)) (j:=j) (i:=i) (nx:=next) (10 * turns t.mask) hp
   have hi:i < es.size:=(by rw[AG];exact hc.2.1);have NA:es[i]?=some es[i]:=dZ hi;obtain⟨y,hy,hent⟩:=hE.get (i:=i) (e:=es[i]) (by rw[eB];exact NA);obtain⟨_,b,hb,VX⟩:=hent;have CZ:∀v∈List.map (λx=>x.snd) (Array.filter (λx=>x.fst == h) es).toList,∃b y,v=.ref b/\fZ (gE prog w) s.heap y b:=by
    intro v hv;obtain⟨e',KW,rfl⟩:=jN.mp hv;rw[Array.toList_filter]at KW;have hm:=(wJ.mp KW).1;obtain⟨k,hk⟩:=jJ hm;obtain⟨y',_,_,b',RY,DT⟩:=hE.get hk;exact⟨b',y',RY,DT⟩
   generalize hEi:es[i]=ei at NA hb;obtain⟨h1,v1⟩:=ei;dsimp only at hb;subst hb;rw[NA];refine Ub ?_ ?_
   ·refine aA (Ll hx CZ ?_);simp only[eV,if_false];refine aA (hZ (uS hu VX hx ?_));refine aA (jS ho hd BI ?_);dsimp only;by_cases HM:y=x
    ·rw[decide_eq_true HM];subst HM;rw[hy]at e;simp only[decide_true,if_true]at e;injection e with e;subst e;simp only[xX,if_true];exact wpAny_pure hQ
    ·rw[decide_eq_false HM];simp only[rK,eV,if_false];have NB:t.sameMemory t.moves t.mask=some true:=(by unfold SetTable.sameMemory;simp);rw[NB];simp only[if_true];rw[hc.1];dsimp only;rw[NA];dsimp only;refine aA (wpAny_isSame_ref_self ?_);simp only[if_true];refine aA (wpAny_pure ?_);dsimp only;rw[hy]at e;rw[if_neg (by simpa using HM)]at e;exact ql hu ho hd Sm hn hE hx h f (some next) r e hQ
   ·refine aA (hZ (uS hu VX hx ?_));refine aA (jS ho hd BI ?_);dsimp only;by_cases HM:y=x
    ·rw[decide_eq_true HM];subst HM;rw[hy]at e;simp only[decide_true,if_true]at e;injection e with e;subst e;simp only[xX,if_true];exact wpAny_pure hQ
    ·rw[decide_eq_false HM];simp only[rK,eV,if_false];have NB:t.sameMemory t.moves t.mask=some true:=(by unfold SetTable.sameMemory;simp);rw[NB];simp only[if_true];rw[hc.1];dsimp only;rw[NA];dsimp only;refine aA (wpAny_isSame_ref_self ?_);simp only[if_true];refine aA (wpAny_pure ?_);dsimp only;rw[hy]at e;rw[if_neg (by simpa using HM)]at e;exact ql hu ho hd Sm hn hE hx h f (some next) r e hQ
structure TOk (prog:aU)(w:aZ)(t:eO)(xs:List (List Int)):Prop where
 tb:Tb t xs.length
 room:xs.length * 5 < t.mask * 3
 rc:Rc t (xs.map (dw prog w))
 nd:xs.Nodup
def A4 (prog:aU)(w:aZ)(h0 h:Heap)(S:Addr)(t:eO)(xs:List (List Int)):Prop:=
 ∃o es ep,h.get? S=some o/\o.ExactSet/\o.data=.set es ep t/\TOk prog w t xs/\EntsOf prog w h0 es.toList xs
theorem TOk.fit {t:eO}{xs:List (List Int)}(T:TOk prog w t xs):xs.length<=t.mask:=by have:=T.room;lia
theorem EntsOf.hashes {h:Heap}:∀{es:List (Int×aC)}{xs:List (List Int)},EntsOf prog w h es xs->es.map (·.1)=xs.map (dw prog w)
 | [],[],_=>rfl
 |e::es,x::xs,z=>by rw[gU,gU,z.1.1,EntsOf.hashes z.2]
 | [],_::_,z=>z.elim
 |_::_,[],z=>z.elim
theorem EntsOf.pick {h:Heap}{es:List (Int×aC)}{xs:List (List Int)}(E:EntsOf prog w h es xs):∀(p:List Nat),(∀i∈p,i < xs.length)->EntsOf prog w h (p.filterMap (es[·]?)) (p.map λi=>xs.getD i [])
 | [],_=>trivial
 |i::p,hp=>by
  have hi:=hp i eF;have hl:=E.length;have e:es[i]?=some es[i]:=aK (by lia);obtain⟨x,hx,ent⟩:=E.get e;rw[iQ,e,gU];refine⟨?_,EntsOf.pick E p λj hj=>hp j (cX _ hj)⟩;have:xs.getD i []=x:=(by rw[gG,hx];rfl);rw[this];exact ent
theorem vf {α:Type}{l:List α}:∀(p:List Nat),(∀i∈p,i < l.length)->(p.filterMap (l[·]?)).length=p.length
 | [],_=>rfl
 |i::p,hp=>by
  rw[iQ,aK (hp i eF)];simp only[eE];rw[vf p λj hj=>hp j (cX _ hj)]
theorem Oz (xs:List (List Int)):(dG xs.length).map (λi=>xs.getD i [])=xs:=by
 apply sC;intro i;rw[cQ];by_cases h:i < xs.length
 ·rw[oJ h];simp[gG,aK h]
 ·rw[jW (by simpa using h),jW (by lia)];rfl
theorem wp_add {S a:Addr}{h0:Heap}{t:eO}{xs:List (List Int)}{x:List Int}{Q:Bool->aG->Prop}
  (hu:A.units < jH) (hK:∀b o,h0.get? b=some o->s.heap.get? b=some o) (hS:A4 prog w h0 s.heap S t xs) (hn:xs.length<=75) (IH:fZ (gE prog w) h0 x a)
  (h:∀(b:Bool)(h':Heap) t' CC,gI S s.heap h'->A4 prog w h0 h' S t' CC->t'.led=t.led->(∀y,y∈CC↔y=x\/y∈xs)->CC.length<=xs.length+1->Q b { s with heap:=h',toks:=s.toks+(x.length+1) }) :
  aL (aS prog w) A (setAdd S (.ref a)) Q E s:=by
 obtain⟨o,es,ep,ho,hex,hd,T,PF⟩:=hS;have hx:=uy hK IH;have hE:EntsOf prog w s.heap es.toList xs:=PF.imp λy b=>uy hK;have AG:=hE.length;rw[gH]at AG;have BI:t.fits es.size=true:=(by rw[AG];exact uz T.tb T.fit);unfold setAdd;refine hZ ?_;refine aA (wpAny_pyHash_tuple hu hx ?_);unfold setAddHashed;refine hZ ?_;unfold setAddHashedIn;refine aA (jS (s:={ s with toks:=s.toks+(x.length+1) }) ho hd BI ?_);dsimp only;have hb:byScan (.ref a) es=false:=rfl;rw[hb];simp only[eV,if_false];have hf:(λ(i:Nat)=>(((xs.map (dw prog w))[i]?).getD 0))=λ(i:Nat)=>((xs[i]?).map (dw prog w)).getD 0:=by
  funext i;rw[cQ]
 unfold setSearch;by_cases FM:x∈xs
 ·obtain⟨i,hi⟩:=jJ FM;have hr:oq t (λi=>((xs[i]?).map (dw prog w)).getD 0) (λi=>decide (xs[i]?=some x)) (dw prog w x) 100000 (t.probeStart (dw prog w x))=some none:=by
   rw[<-hf];exact Rc.find T.tb (aJ _) T.rc (i:=i) (by rw[cQ,hi];rfl) (by simp[hi])
  refine aA (ql (s:={ s with toks:=s.toks+(x.length+1) }) hu ho hd T.tb T.fit hE hx (dw prog w x) 100000 none none hr ?_);dsimp only;exact wpAny_pure (h false s.heap t xs (vG _ _) ⟨o,es,ep,ho,hex,hd,T,PF⟩ rfl (λy=>⟨λz=>.inr z,λz=>by rcases z with rfl | z;exact FM;exact z⟩) (by lia))
 ·rcases Ln T.tb T.fit (λi=>((xs[i]?).map (dw prog w)).getD 0) (λi=>decide (xs[i]?=some x)) (dw prog w x)with⟨_,i,_,_,hq⟩ | ⟨j,hr,he,VY⟩
  ·exact absurd (bV (of_decide_eq_true hq)) FM
  refine aA (ql (s:={ s with toks:=s.toks+(x.length+1) }) hu ho hd T.tb T.fit hE hx (dw prog w x) 100000 none (some j) hr ?_);have hj:j<=t.mask:=Pin.thru (Pin.start _ _) VY;dsimp only;refine aA (jS (s:={ s with toks:=s.toks+(x.length+1) }) ho hd BI ?_);dsimp only;obtain⟨Sp,VH,CG,hmv,RZ,BK⟩:=T.tb.put he hj;have R':=Rc.put (h:=dw prog w x) T.tb (aJ _) T.rc he hj VY;rw[Sp.plain];simp only[if_true];refine aA (Ca (s:={ s with toks:=s.toks+(x.length+1) }) hx ?_);simp only[if_true];generalize hes:insertAt es (t.put j).2 (tupleKeyHash (gE prog w) x,bZ a)=CY;generalize GK:xs.take (t.put j).2++x::xs.drop (t.put j).2=xs1;have hins:CY.toList=es.toList.take (t.put j).2++(dw prog w x,bZ a)::es.toList.drop (t.put j).2:=(by rw[<-hes];exact ve _ _ _);have NC:EntsOf prog w h0 CY.toList xs1:=by
   rw[hins,<-GK];exact(PF.take _).app ⟨⟨rfl,a,rfl,IH⟩,PF.drop _⟩
  have EE:xs1.length=xs.length+1:=(by rw[<-GK];simp;lia);have hsz:CY.size=es.size+1:=(by have:=NC.length;rw[gH,EE]at this;lia);have DV:∀y,y∈xs1↔y=x\/y∈xs:=λy=>(by rw[<-GK];exact xu);have VZ:xs1.Nodup:=by
   rw[<-GK];have p:(xs.take (t.put j).2++x::xs.drop (t.put j).2).Perm (x::xs):=by
    refine List.perm_middle.trans (List.Perm.cons _ ?_);rw[nM]
   exact p.nodup_iff.mpr (List.nodup_cons.mpr ⟨FM,T.nd⟩)
  have hmap:xs1.map (dw prog w)=(xs.map (dw prog w)).take (t.put j).2++dw prog w x::(xs.map (dw prog w)).drop (t.put j).2:=by
   rw[<-GK,cU,gU,xY,uW]
  rw[<-hmap]at R';generalize (t.put j).1=t1 at Sp CG hmv RZ BK R';have SA:Tb t1 xs1.length:=(by rw[EE];exact Sp);have IU:CY.size < scanBound:=(by rw[hsz,AG];show _ < 4096;lia);have hg:(s.heap.update S (qD CY t1)).get? S=some { o with data:=.set CY (ep+1) t1 }:=by
   have:=iH (qD CY t1) ho (by rw[yU _ _ hd];rfl);rw[yU _ _ hd]at this;exact this
  have LF:=jA s.heap S (qD CY t1);refine aA (wpAny_storeSet_of (s:={ s with toks:=s.toks+(x.length+1) }) ho hd ?_ (fits_of_scanBound IU));cases LG:t1.tooFull with
  |false=>
   simp only[rK,eV,if_false];refine wpAny_pure (h true _ t1 xs1 LF ⟨_,_,_,hg,hex,rfl,⟨SA,?_,R',VZ⟩,NC⟩ CG DV (by lia));unfold SetTable.tooFull at LG;rw[SA.fill]at LG;have:=of_decide_eq_false LG;lia
  |true=>
   have KH:(xs.length+1) * 5>=t.mask * 3:=by
    unfold SetTable.tooFull at LG;rw[Sp.fill,RZ]at LG;exact of_decide_eq_true LG
   have PD:=T.room;obtain⟨OR,V',RT,IV⟩:¬pD (rQ (es.size+1)) > sizeLine/\M3 (pD (rQ (es.size+1)) - 1)/\xs1.length<=pD (rQ (es.size+1)) - 1/\xs1.length * 5 < (pD (rQ (es.size+1)) - 1) * 3:=by
    rw[AG,EE];rcases T.tb.mask with e | e | e
    ·have:xs.length=4:=(by rw[e]at KH PD;lia);rw[this];exact⟨by decide +kernel,.inr (.inl (by decide +kernel)),by decide +kernel,by decide +kernel⟩
    ·have:xs.length=18:=(by rw[e]at KH PD;lia);rw[this];exact⟨by decide +kernel,.inr (.inr (by decide +kernel)),by decide +kernel,by decide +kernel⟩
    ·rw[e]at KH;lia
   generalize rQ (es.size+1)=wd at OR V' RT IV;have heh:CY.map (·.1)=(xs1.map (dw prog w)).toArray:=by
    apply Array.toList_inj.mp;rw[Array.toList_map,EntsOf.hashes NC]
   obtain⟨t2,order,er,T2,em2,el2,pm,rc2⟩:=Oy (t:=t1) (n:=xs1.length) (H:=xs1.map (dw prog w)) Sp.plain (aJ _) V' RT;have KI:∀i∈order.toList,i < xs1.length:=λi hi=>(by simpa using pm.mem_iff.mp hi);have BS:=NC.length;have IW:order.toList.length=xs1.length:=(by rw[pm.length_eq,iS]);have WA:(order.filterMap (CY[·]?)).toList=order.toList.filterMap (CY.toList[·]?):=by
    rw[Array.toList_filterMap];congr 1
    funext i
    rw[eB]
   have hz:(order.filterMap (CY[·]?)).size=CY.size:=by
    rw[<-gH,WA,vf _ (by rw[BS];exact KI),IW,<-BS,gH]
   have p2:(order.toList.map λi=>xs1.getD i []).Perm xs1:=by
    have:=pm.map (λi=>xs1.getD i []);rw[Oz]at this;exact this
   simp only[Bool.not_false,xX,if_true];refine aA (Rz (s:={ s with heap:=s.heap.update S (qD CY t1),toks:=s.toks+(x.length+1) }) (t':=t2) (order:=order) hg rfl (by rw[hsz,AG,<-EE];exact uz SA (by rw[RZ,EE];have:=T.fit;lia)) OR (by rw[heh];exact er) hz IU ?_);refine wpAny_pure ?_;have SB:((s.heap.update S (qD CY t1)).update S (qD (order.filterMap (CY[·]?)) t2)).get? S=some { o with data:=.set (order.filterMap (CY[·]?)) (ep+1+1) t2 }:=by
    have:=iH (qD (order.filterMap (CY[·]?)) t2) hg (by rw[yU _ _ rfl];rfl);rw[yU _ _ rfl]at this;exact this
   refine h true _ t2 (order.toList.map λi=>xs1.getD i []) (LF.trans (jA _ S _)) ⟨_,_,_,SB,hex,rfl,⟨?_,?_,?_,p2.nodup_iff.mpr VZ⟩,?_⟩ (el2.trans CG) (λy=>p2.mem_iff.trans (DV y)) (by rw[p2.length_eq];lia)
   ·rw[p2.length_eq];exact T2
   ·rw[p2.length_eq,em2];exact IV
   ·have e3:(order.toList.map λi=>xs1.getD i []).map (dw prog w)=order.toList.map λk=>((xs1.map (dw prog w))[k]?).getD 0:=by
     rw[oF];refine List.map_congr_left λk hk=>?_;have DT:=KI k hk;show dw prog w (xs1.getD k [])=_;rw[cQ,gG,aK DT];rfl
    rw[e3];exact rc2
   ·rw[WA];exact EntsOf.pick NC _ KI
end
end TupG
namespace TupG
open SetTable TupSet PyProof.Rows
def Got (prog:aU)(w:aZ)(h0 h:Heap)(S:Addr)(led:Bool)(Y:List (List Int)):Prop:=∃t xs,A4 prog w h0 h S t xs/\t.led=led/\(∀y,y∈xs↔y∈Y)/\xs.length<=Y.length
section
variable {prog:aU}{w:aZ}{A:cC}{R:xC->aG->Prop}{I:Addr}{fp wr:List Addr}{G:Array pO->Array pO->Prop}{n:Nat}{P:Nat->aC->Prop}{St:Nat->aG->Prop}
theorem O0 (W:WalksS prog w A.in1 I fp wr G n P St)(S:Addr)(PH:S ∉ fp)(h0:Heap)(L:List (List Int))(led:Bool)(hnL:n=L.length)(h3:n<=76)(hu:A.in1.units < jH)
  (hP:∀i v,P i v->∃a x,v=.ref a/\L[i]?=some x/\fZ (gE prog w) h0 x a) (hS0:h0.get? S=none) (hwr:∀b∈wr,h0.get? b=none) :
  ∀(k i:Nat)(s:aG),n - i=k->i<=n->St i s->(∀b o,h0.get? b=some o->s.heap.get? b=some o)->
   Got prog w h0 s.heap S led (L.take i)->
   (∀s',Moved (S::wr) G s s'->(∀b o,h0.get? b=some o->s'.heap.get? b=some o)->Got prog w h0 s'.heap S led L->R (.ok (.ret .none)) s')->
   oA (aS prog w) A (.builtin "set.update.loop" ⟨[.ref S,.ref I],[]⟩) R s:=by
 have hSw:S ∉ wr:=λh=>PH (W.sub _ h);have DE:∀b∈wr,b∈S::wr:=λb hb=>cX _ hb;have IX:∀{s s':aG},Moved wr G s s'->(∀b o,h0.get? b=some o->s.heap.get? b=some o)->∀b o,h0.get? b=some o->s'.heap.get? b=some o:=λhm hK b o hb=>
  hm.heap b o (λhw=>by rw[hwr b hw]at hb;exact nomatch hb) (hK b o hb)
 have IY:∀{s s':aG}{Y},Moved wr G s s'->Got prog w h0 s.heap S led Y->Got prog w h0 s'.heap S led Y:=λhm hS=>by
  obtain⟨t,xs,⟨o,es,ep,ho,rest⟩,r2⟩:=hS;exact⟨t,xs,⟨o,es,ep,hm.heap S _ hSw ho,rest⟩,r2⟩
 intro k
 induction k with
 |zero=>
  intro i s hk hi CZ hK hS hR;have FM:i=n:=(by lia);subst FM;refine nL PyProof.Rows.F.entry_set_update_loop ?_;rw[qB nF _];show aL _ A.in1 (jL (.ref I) >>= _) _ _ s;refine aA (W.done s _ _ CZ λs' hm=>?_);show aL _ A.in1 (ret iD) _ _ s';have GQ:=IY hm hS;rw[hnL,gN]at GQ;exact wpAny_pure (hR s' (hm.mono DE) (IX hm hK) GQ)
 |succ k ih=>
  intro i s hk hi CZ hK hS hR;have AZ:i < n:=(by lia);refine nL PyProof.Rows.F.entry_set_update_loop ?_;rw[qB nF _];show aL _ A.in1 (jL (.ref I) >>= _) _ _ s;refine aA (W.item i s _ _ AZ CZ λv s' hPv hst' hm=>?_);obtain⟨a,x,rfl,hxL,hxk⟩:=hP i v hPv;have GQ:=IY hm hS;have WB:=IX hm hK;obtain⟨t,xs,hT,CG,DV,hxl⟩:=GQ;rw[cK]at hxl;show aL _ A.in1 (rE [bZ a] (setAdd S (.ref a)) >>= _) _ _ s';refine aA (hZ ?_);refine TupG.wp_add hu WB hT (by lia) hxk λb h' t' CC LF hT2 AR MX KC=>?_;have hS2:Got prog w h0 h' S led (L.take (i+1)):=⟨t',CC,hT2,AR.trans CG,λy=>by
    rw[MX,DV,eX,hxL];simp only[Option.toList_some,fK,List.mem_singleton];exact Or.comm,by rw[cK];lia⟩
  have hK2:∀b o,h0.get? b=some o->h'.get? b=some o:=λb o hb=>by
   rw[LF.2 b (λe=>by rw[e,hS0]at hb;exact nomatch hb)];exact WB b o hb
  refine wpAny_pure ⟨plainId_quiet nF _,ih (i+1) _ (by lia) AZ (W.frame _ s' _ _ hst' (qA _ _) λb hb o e=>?_) hK2 hS2 λLU hm'' hK'' hS''=>?_⟩
  ·rw[LF.2 b (λh:b=S=>PH (by rw[<-h];exact hb))];exact e
  ·refine hR LU (Moved.trans W.gtrans ((hm.mono DE).then_heap (qA _ _) λb o hb e=>?_) hm'') hK'' hS'';rw[LF.2 b (λh:b=S=>hb (by rw[h];exact eF))];exact e
end
section
variable {prog:aU}{w:aZ}{A:cC}{E:aC->aG->Prop}{s:aG}
theorem O1 (h0 h:Heap)(S:Addr)(led:Bool)(hg:h.get? S=some { cls:=.type "set",dict:=none,data:=.set #[] 0 (.fresh 0 0 led) }):Got prog w h0 h S led []:=
 ⟨_,[],⟨_,_,_,hg,⟨rfl,rfl,rfl⟩,rfl,⟨Tb.fresh led,by show 0 * 5 < 7 * 3;lia,(λq hq=>nomatch hq),List.nodup_nil⟩,trivial⟩,rfl,λy=>Iff.rfl,aN _⟩
theorem call_setG {l:Addr}{items:Array aC}{L:List (List Int)}{h0:Heap}{Q:aC->aG->Prop}
  (DN:∀b o,h0.get? b=some o->s.heap.get? b=some o) (hh:A.handled=none) (hu:A.units+8 < jH) (hl:s.heap.IsList l items) (hL:items.size=L.length) (h3:L.length<=76)
  (hi:∀(i:Nat)(v:aC),items[i]?=some v->∃a x,v=.ref a/\L[i]?=some x/\fZ (gE prog w) h0 x a)
  (h:∀(h':Heap)(tk:Nat),Got prog w h0 h' s.heap.objs.size (A6 w) L->(∀b o,s.heap.get? b=some o->h'.get? b=some o)->Q (.ref s.heap.objs.size) { s with heap:=h',toks:=tk }) :
  aL (aS prog w) A (call (.type "set") [.ref l]) Q E s:=by
 have WC:∀b,s.heap.objs.size<=b->h0.get? b=none:=λb hb=>by
  cases e:h0.get? b with
  |none=>rfl
  |some o=>exact absurd (aW (DN b o e)) (Nat.not_lt.mpr hb)
 obtain⟨c,tl,hmro⟩:=F.called_set.mro;have hmade:=F.called_set.made;have DE:=F.called_set.sub;refine rG (wR ?_);show aL _ _ (callAny (.type "set") _) _ _ _;refine wpAny_pure ⟨oW _ (by decide +kernel),nL F.entry_type_call ?_⟩;rw[Around.under_plain (weight_type_call_type "set" [.ref l] []) rfl];have h1:=F.called_set.notType;have h2:=F.called_set.canCreate;have hct:=F.typeCall_set_1 (.ref l)
 repeat (any_goals (first | assumption | wp_step))
 obtain⟨led,CG⟩:∃led,A6 w=led:=⟨_,rfl⟩;rw[CG]at h;refine lU (Rw (.ref l) (E:=E) (Q₁:=λobj s₁=>obj=.ref s.heap.objs.size/\s₁={ s with heap:=s.heap.push { cls:=.type "set",dict:=none,data:=.set #[] 0 (.fresh 0 0 led) } }) (by rw[CG];exact⟨rfl,rfl⟩)) λr s₁ hr=>?_;cases r with
 |error e=>exact hr
 |ok fl=>
  cases fl with
  |ret obj=>
   obtain⟨rfl,rfl⟩:=hr;have hS:(s.heap.push { cls:=.type "set",dict:=none,data:=.set #[] 0 (.fresh 0 0 led) }).get? s.heap.objs.size=some { cls:=.type "set",dict:=none,data:=.set #[] 0 (.fresh 0 0 led) }:=aY _ rfl;have hT:Shared.TypeIs { s with heap:=s.heap.push { cls:=.type "set",dict:=none,data:=.set #[] 0 (.fresh 0 0 led) } } (.ref s.heap.objs.size) "set":=⟨_,hS,rfl⟩;have hli:=F.called_set.init.lookup;have IF:=F.called_set.init.bind (.ref s.heap.objs.size)
   repeat (any_goals (first | assumption | wp_step))
   refine lU (lY (R:=wants (λr s₂=>r=.none/\∃h' tk,s₂={ s with heap:=h',toks:=tk }/\Got prog w h0 h' s.heap.objs.size led L/\(∀b o,s.heap.get? b=some o->h'.get? b=some o)) E) F.called_set.init.plain F.entry_set_init (check_set_init_1 hT ?_)) λr₂ s₂ FO=>?_
   ·obtain⟨ol,IW,EW,nl,WD⟩:=hl;obtain⟨ocls,odict,odata,oslots⟩:=ol;simp only at EW WD;subst EW;subst WD;have hol':(s.heap.push { cls:=.type "set",dict:=none,data:=.set #[] 0 (.fresh 0 0 led) }).get? l=some { cls:=.type "list",dict:=odict,data:=.seq items nl,slots:=oslots }:=aI _ IW;have hsls:=F.sub_list_set;have hslf:=F.sub_list_frozenset;have AO:(pM "list" == pM "dict")=false:=(by decide);have BS:(s.heap.push { cls:=.type "set",dict:=none,data:=.set #[] 0 (.fresh 0 0 led) }).IsList l items:=⟨_,hol',rfl,nl,rfl⟩;unfold iI.«set.__init__» noKeywords Builtin.Frozenset.updateFrom;generalize hPI:zO=PI
    wp_walk
    subst hPI;refine iR BS ?_;refine aA (wpAny_runValue ?_);have WE:l < s.heap.objs.size:=aW IW;have hh3:A.in1.in1.in1.handled=none:=(by simp[hh]);have HN:(s.heap.push { cls:=.type "set",dict:=none,data:=.set #[] 0 (.fresh 0 0 led) }).objs.size=s.heap.objs.size+1:=eY _ _;have hneI:l≠(s.heap.push { cls:=.type "set",dict:=none,data:=.set #[] 0 (.fresh 0 0 led) }).objs.size:=(by rw[HN];exact cE (rZ WE));have PH:s.heap.objs.size ∉ [(s.heap.push { cls:=.type "set",dict:=none,data:=.set #[] 0 (.fresh 0 0 led) }).objs.size,l]:=by
     rw[HN];intro hm;rcases aX.mp hm with e | e
     ·exact absurd e (cE (mX _))
     ·exact absurd (eG.mp e) (gJ WE)
    have AU:∀b o,s.heap.get? b=some o->((s.heap.push { cls:=.type "set",dict:=none,data:=.set #[] 0 (.fresh 0 0 led) }).push { cls:=.type "list_iterator",data:=.fields #[.ref l,.int 0 0] }).get? b=some o:=λb o e=>
     aI _ (aI _ e)
    refine O0 ((zU hh3 _ l hneI items).toS) s.heap.objs.size PH h0 L led hL (by rw[hL];exact h3) ?hun hi (WC _ (aN _)) ?hwr
     (items.size - 0) 0 _ (by lia) (gO _) ⟨⟨_,aY _ rfl,rfl,rfl⟩,(BS.push _)⟩ (λb o e=>AU b o (DN b o e)) ?hS0 ?hR
    case hun=>show A.units+1+1+1 < jH;lia
    case hwr=>
     intro b hb;rw[eG.mp hb,HN];exact WC _ (sF _)
    case hS0=>
     exact O1 _ _ _ _ (aI _ hS)
    case hR=>
     intro s' hm hK GQ;obtain⟨h',g',d',DO,QF⟩:=s';have eg:g'=s.gens:=hm.gens;have ed:d'=s.drawn:=hm.drawn;have eo:QF=s.os:=hm.os;subst eg;subst ed;subst eo;show aL _ _ _ _ _ _;refine wpAny_pure ?_;show aL _ _ (ret iD) _ _ _;exact wpAny_pure ⟨rfl,h',DO,rfl,GQ,λb o e=>hm.heap b o (λhb=>by
       rcases aX.mp hb with z | z
       · rw[z]at e;exact absurd (aW e) (kZ _)
       · rw[eG.mp z,HN]at e;exact absurd (aW e) (Nat.not_lt.mpr (sF _))) (AU b o e)⟩
   ·cases r₂ with
    |error e=>exact FO
    |ok fl₂=>
     cases fl₂ with
     |ret r=>
      obtain⟨rfl,h',tk,rfl,GQ,DT⟩:=FO
      repeat (any_goals (first | assumption | wp_step))
      exact h _ _ GQ DT
     |_=>exact FO.elim
  |_=>exact hr.elim
end
end TupG
namespace TupSet
open SetTable PyProof.Rows PySem.W
structure Ord (lt:Nat->Nat->Bool):Prop where
 asym:∀i j,lt i j=true->lt j i=false
 tr:∀i j k,lt j i=false->lt k j=false->lt k i=false
def Up (lt:Nat->Nat->Bool)(p:Array Nat)(m:Nat):Prop:=∀a b,a < b->b < m->lt (p.getD b 0) (p.getD a 0)=false
def Dn (lt:Nat->Nat->Bool)(p:Array Nat)(m:Nat):Prop:=∀a b,a < b->b < m->lt (p.getD a 0) (p.getD b 0)=false
def Sm (lt:Nat->Nat->Bool)(p:Array Nat)(i j:Nat):Prop:=∀a b,i<=a->a < j->i<=b->b < j->lt (p.getD a 0) (p.getD b 0)=false
theorem j7 {α β:Type}{lt:Nat->Nat->Bool}{f:α->KasT β}:∀(t:KasT α),cx lt (t.bind f)=cx lt (f (cx lt t))
 | .ret a=>rfl
 | .ask i j k=>j7 (k (lt i j))
section
variable {lt:Nat->Nat->Bool}
theorem Ord.irr (O:Ord lt)(i:Nat):lt i i=false:=by
 cases h:lt i i with
 |false=>rfl
 |true=>rw[O.asym _ _ h]at h;cases h
theorem Ord.eqv (O:Ord lt){u v:Nat}(h1:lt u v=false)(h2:lt v u=false)(x:Nat):lt x u=lt x v/\lt u x=lt v x:=by
 constructor
 ·cases h:lt x v with
  |false=>exact O.tr u v x h2 h
  |true=>
   cases h':lt x u with
   |true=>rfl
   |false=>rw[O.tr v u x h1 h']at h;cases h
 ·cases h:lt v x with
  |false=>exact O.tr x v u h h1
  |true=>
   cases h':lt u x with
   |true=>rfl
   |false=>rw[O.tr x u v h' h2]at h;cases h
theorem Up.succ (O:Ord lt){p:Array Nat}{n:Nat}(h:Up lt p n)(h1:1<=n)(e:lt (p.getD n 0) (p.getD (n - 1) 0)=false):Up lt p (n+1):=by
 intro a b BR hb;by_cases SC:b < n
 ·exact h a b BR SC
 ·have:b=n:=(by lia);subst this;by_cases ha:a=b - 1
  ·subst ha;exact e
  ·exact O.tr _ _ _ (h a (b - 1) (by lia) (by lia)) e
theorem Dn.succ (O:Ord lt){p:Array Nat}{n:Nat}(h:Dn lt p n)(h1:1<=n)(e:lt (p.getD (n - 1) 0) (p.getD n 0)=false):Dn lt p (n+1):=by
 intro a b BR hb;by_cases SC:b < n
 ·exact h a b BR SC
 ·have:b=n:=(by lia);subst this;by_cases ha:a=b - 1
  ·subst ha;exact e
  ·exact O.tr _ _ _ e (h a (b - 1) (by lia) (by lia))
theorem Up.le {p:Array Nat}{n m:Nat}(h:Up lt p n)(hm:m<=n):Up lt p m:=λa b BR hb=>h a b BR (by lia)
theorem Gi (O:Ord lt)(p:Array Nat):∀(f n:Nat),1<=n->Up lt p n->n<=cx lt (rR p f n)/\cx lt (rR p f n)<=n+f/\Up lt p (cx lt (rR p f n))/\
  (cx lt (rR p f n) < n+f->lt (p.getD (cx lt (rR p f n)) 0) (p.getD (cx lt (rR p f n) - 1) 0)=true)
 |0,n,_,h=>⟨aN _,aN _,h,λz=>absurd z (kZ _)⟩
 |f+1,n,h1,h=>by
  have e:cx lt (rR p (f+1) n)=cx lt (if lt (p.getD n 0) (p.getD (n - 1) 0)=true then .ret n else rR p f (n+1)):=rfl
  rw[e];cases hc:lt (p.getD n 0) (p.getD (n - 1) 0)with
  |true=>
   rw[if_pos rfl];exact⟨aN _,by show n<=_;lia,h,λ_=>hc⟩
  |false=>
   rw[if_neg bX];obtain⟨a,b,c,d⟩:=Gi O p f (n+1) (by lia) (h.succ O h1 hc);exact⟨by lia,by lia,c,λz=>d (by lia)⟩
theorem zi {p:Array Nat}{i j:Nat}(hj:j<=p.size)(k:Nat):(lQ p i j).getD k 0=if i<=k/\k < j then p.getD (i+j - 1 - k) 0 else p.getD k 0:=by
 rw[eU];unfold lQ;rw[getElem?_mirror_all hj]
 split
 ·rw[eU]
 ·rw[eU]
theorem Gj {p:Array Nat}{k l:Nat}(hk:k < p.size)(hl:l<=k)(i:Nat):(zX p k (k - l)).getD i 0=if i=l then p.getD k 0 else if l < i/\i<=k then p.getD (i - 1) 0 else p.getD i 0:=by
 simp only[eU];rw[getElem?_bubble hk _ (by lia),show k - (k - l)=l by lia];by_cases h:i=l
 ·rw[if_pos h,if_pos h]
 ·rw[if_neg h,if_neg h];by_cases h2:l < i/\i<=k
  ·rw[if_pos h2,if_pos h2]
  ·rw[if_neg h2,if_neg h2]
theorem zj (O:Ord lt){p:Array Nat}{i j:Nat}(hj:j<=p.size)(S:Sm lt p i j)(k x:Nat):lt x ((lQ p i j).getD k 0)=lt x (p.getD k 0)/\lt ((lQ p i j).getD k 0) x=lt (p.getD k 0) x:=by
 rw[zi hj]
 split
 ·next h=>exact O.eqv (S _ _ (by lia) (by lia) h.1 h.2) (S _ _ h.1 h.2 (by lia) (by lia)) x
 ·exact⟨rfl,rfl⟩
theorem tj {p p':Array Nat}(h:∀k x,lt x (p'.getD k 0)=lt x (p.getD k 0)/\lt (p'.getD k 0) x=lt (p.getD k 0) x)(a b:Nat):lt (p'.getD a 0) (p'.getD b 0)=lt (p.getD a 0) (p.getD b 0):=by
 rw[(h b _).1,(h a _).2]
structure Yx (lt:Nat->Nat->Bool)(p:Array Nat)(n f:Nat)(r:Array Nat×Nat×Nat):Prop where
 perm:r.1.Perm p
 lo:n<=r.2.1
 hi:r.2.1<=n+f
 q:r.2.2+1<=r.2.1
 dn:Dn lt r.1 r.2.1
 sm:Sm lt r.1 (r.2.1 - (r.2.2+1)) r.2.1
theorem xv (O:Ord lt):∀(f:Nat)(p:Array Nat) (n q:Nat),n+f<=p.size->q+1<=n->Dn lt p n->Sm lt p (n - (q+1)) n->Yx lt p n f (cx lt (pI f p n q))
 |0,p,n,q,_,hq,d,s=>⟨.rfl,aN _,aN _,hq,d,s⟩
 |f+1,p,n,q,hs,hq,d,s=>by
  have e:cx lt (pI (f+1) p n q)=cx lt (if lt (p.getD n 0) (p.getD (n - 1) 0)=true then (if q > 0 then pI f (lQ p (n - (q+1)) n) (n+1) 0 else pI f p (n+1) 0)else .ask (p.getD (n - 1) 0) (p.getD n 0) λd=>if d=true then .ret (p,n,q)else pI f p (n+1) (q+1)):=rfl
  rw[e];cases hc:lt (p.getD n 0) (p.getD (n - 1) 0)with
  |true=>
   rw[if_pos rfl];have hd:=O.asym _ _ hc;have one:∀(p:Array Nat),Sm lt p (n+1 - (0+1)) (n+1):=λp a b h1 h2 h3 h4=>by
    rw[show a=b by lia];exact O.irr _
   by_cases q0:q > 0
   ·rw[if_pos q0];have sz:(lQ p (n - (q+1)) n).size=p.size:=yV _ _;have sm:=zj O (by lia) s;have d':Dn lt (lQ p (n - (q+1)) n) n:=λa b h1 h2=>(by rw[tj sm];exact d a b h1 h2);have x:=xv O f (lQ p (n - (q+1)) n) (n+1) 0 (by lia) (by lia) (d'.succ O (by lia) (by rw[tj sm];exact hd)) (one _);exact⟨x.perm.trans (uN _ _ _ _),by have:=x.lo;lia,by have:=x.hi;lia,x.q,x.dn,x.sm⟩
   ·rw[if_neg q0];have x:=xv O f p (n+1) 0 (by lia) (by lia) (d.succ O (by lia) hd) (one _);exact⟨x.perm,by have:=x.lo;lia,by have:=x.hi;lia,x.q,x.dn,x.sm⟩
  |false=>
   rw[if_neg bX];have e2:cx lt (.ask (p.getD (n - 1) 0) (p.getD n 0) λd=>if d=true then .ret (p,n,q)else pI f p (n+1) (q+1))=cx lt (if lt (p.getD (n - 1) 0) (p.getD n 0)=true then .ret (p,n,q)else pI f p (n+1) (q+1)):=rfl
   rw[e2];cases hd:lt (p.getD (n - 1) 0) (p.getD n 0)with
   |true=>
    rw[if_pos rfl];exact⟨.rfl,aN _,by show n<=_;lia,hq,d,s⟩
   |false=>
    rw[if_neg bX];have x:=xv O f p (n+1) (q+1) (by lia) (by lia) (d.succ O (by lia) hd) (λa b h1 h2 h3 h4=>?_)
    ·exact⟨x.perm,by have:=x.lo;lia,by have:=x.hi;lia,x.q,x.dn,x.sm⟩
    ·by_cases ha:a=n
     ·by_cases hb:b=n
      ·rw[ha,hb];exact O.irr _
      ·rw[ha];exact O.tr _ _ _ (s (n - 1) b (by lia) (by lia) (by lia) (by lia)) hc
     ·by_cases hb:b=n
      ·rw[hb];exact O.tr _ _ _ hd (s a (n - 1) (by lia) (by lia) (by lia) (by lia))
      ·exact s a b (by lia) (by lia) (by lia) (by lia)
structure Lp (lt:Nat->Nat->Bool)(p:Array Nat)(r:Nat×Array Nat):Prop where
 perm:r.2.Perm p
 lo:1<=r.1
 hi:r.1<=p.size
 up:Up lt r.2 r.1
theorem Gk (O:Ord lt){p:Array Nat}{n:Nat}(h1:1<=n)(hn:n<=p.size)(d:Dn lt p n):Lp lt p (cx lt (yW n p.size p)):=by
 have up:Up lt (lQ p 0 n) n:=λa b BR hb=>by
  rw[zi hn,zi hn,if_pos ⟨gO _,hb⟩,if_pos ⟨gO _,by lia⟩];exact d _ _ (by lia) (by lia)
 obtain⟨a,b,c,_⟩:=Gi O (lQ p 0 n) (p.size - n) n h1 up;unfold yW;rw[j7];exact⟨uN _ _ _ _,by show 1<=cx lt _;lia,by show cx lt _<=_;lia,c⟩
theorem yh (O:Ord lt){p:Array Nat}{n:Nat}(h1:1<=n)(hn:n < p.size)(d:Dn lt p n)(hd:lt (p.getD n 0) (p.getD (n - 1) 0)=true):Lp lt p (cx lt (uC n p.size p)):=by
 have x:=xv O (p.size - (n+1)) p (n+1) 0 (by lia) (by lia) (d.succ O h1 (O.asym _ _ hd)) (λa b h1 h2 h3 h4=>by rw[show a=b by lia];exact O.irr _);unfold uC;rw[j7];generalize cx lt (pI (p.size - (n+1)) p (n+1) 0)=r at x;have lo:=x.lo;have hi:=x.hi;have sz:r.1.size=p.size:=x.perm.size_eq
 split
 ·have sm:=zj O (by lia) x.sm;have sz2:(lQ r.1 (r.2.1 - (r.2.2+1)) r.2.1).size=p.size:=(by rw[yV,sz]);have y:=Gk O (p:=lQ r.1 (r.2.1 - (r.2.2+1)) r.2.1) (n:=r.2.1) (by lia) (by lia) (λa b h1 h2=>by rw[tj sm];exact x.dn a b h1 h2);rw[sz2]at y;exact⟨(y.perm.trans (uN _ _ _ _)).trans x.perm,y.lo,by have:=y.hi;lia,y.up⟩
 ·have y:=Gk O (p:=r.1) (n:=r.2.1) (by lia) (by lia) x.dn;rw[sz]at y;exact⟨y.perm.trans x.perm,y.lo,by have:=y.hi;lia,y.up⟩
theorem R1 (O:Ord lt){p:Array Nat}(h1:1<=p.size):Lp lt p (cx lt (yX p.size p)):=by
 obtain⟨a,b,c,d⟩:=Gi O p (p.size - 1) 1 (aN _) (λa b h1 h2=>by lia);unfold yX;rw[j7];generalize cx lt (rR p (p.size - 1) 1)=n at a b c d;by_cases e:n=p.size
 ·rw[if_pos (by simp[e])];exact⟨.rfl,a,by show n<=_;lia,c⟩
 rw[if_neg (by simpa using e)];have hd:=d (by lia);by_cases n1:n > 1
 ·rw[if_pos n1];have e2:cx lt (.ask (p.getD 0 0) (p.getD (n - 1) 0) λc=>if c=true then .ret (n,p)else uC n p.size (lQ p 0 n))=cx lt (if lt (p.getD 0 0) (p.getD (n - 1) 0)=true then .ret (n,p)else uC n p.size (lQ p 0 n)):=rfl
  rw[e2];cases h0:lt (p.getD 0 0) (p.getD (n - 1) 0)with
  |true=>
   rw[if_pos rfl];exact⟨.rfl,a,by show n<=_;lia,c⟩
  |false=>
   rw[if_neg bX];have WG:∀a b,a<=b->b < n->lt (p.getD b 0) (p.getD a 0)=false:=λa b h1 h2=>by
    by_cases e:a=b
    ·rw[e];exact O.irr _
    ·exact c a b (by lia) h2
   have s:Sm lt p 0 n:=λi j _ hi _ hj=>by
    exact O.tr _ _ _ (WG j (n - 1) (by lia) (by lia)) (O.tr _ _ _ h0 (WG 0 i (by lia) hi))
   have sm:=zj O (by lia) s;have sz:(lQ p 0 n).size=p.size:=yV _ _;have y:=yh O (p:=lQ p 0 n) (n:=n) (by lia) (by lia) (λa b h1 h2=>by rw[tj sm];exact s a b (by lia) (by lia) (by lia) (by lia)) (by rw[tj sm];exact hd);rw[sz]at y;exact⟨y.perm.trans (uN _ _ _ _),y.lo,by have:=y.hi;lia,y.up⟩
 ·rw[if_neg n1];have e1:n=1:=(by lia);subst e1;exact yh O (aN _) (by lia) (λa b h1 h2=>by lia) hd
theorem zm (O:Ord lt){p:Array Nat}{k:Nat}(u:Up lt p k):∀(f l r:Nat),r - l<=f->l<=r->r<=k->(∀a,a < l->lt (p.getD k 0) (p.getD a 0)=false)->(∀a,r<=a->a < k->lt (p.getD k 0) (p.getD a 0)=true)->
  ∃m,cx lt (pL p k f l r)=m/\m<=k/\(∀a,a < m->lt (p.getD k 0) (p.getD a 0)=false)/\(∀a,m<=a->a < k->lt (p.getD k 0) (p.getD a 0)=true)
 |0,l,r,hf,hlr,hr,h1,h2=>⟨l,rfl,by lia,h1,λa ha=>h2 a (by lia)⟩
 |f+1,l,r,hf,hlr,hr,h1,h2=>by
  by_cases hl:l>=r
  ·refine⟨l,?_,by lia,h1,λa ha=>h2 a (by lia)⟩;unfold pL;rw[if_pos hl];rfl
  ·have e:cx lt (pL p k (f+1) l r)=cx lt (if lt (p.getD k 0) (p.getD ((l+r) / 2) 0)=true then pL p k f l ((l+r) / 2)else pL p k f ((l+r) / 2+1) r):=by
    conv=>lhs;unfold pL
    rw[if_neg hl];rfl
   rw[e];cases hc:lt (p.getD k 0) (p.getD ((l+r) / 2) 0)with
   |true=>
    rw[if_pos rfl];refine zm O u f l ((l+r) / 2) (by lia) (by lia) (by lia) h1 (λa ha hk=>?_);by_cases e:a=(l+r) / 2
    ·rw[e];exact hc
    ·cases h:lt (p.getD k 0) (p.getD a 0)with
     |true=>rfl
     |false=>
      rw[O.tr _ _ _ (u ((l+r) / 2) a (by lia) hk) h]at hc;cases hc
   |false=>
    rw[if_neg bX];refine zm O u f ((l+r) / 2+1) r (by lia) (by lia) hr (λa ha=>?_) h2;by_cases e:a=(l+r) / 2
    ·rw[e];exact hc
    ·exact O.tr _ _ _ (u a ((l+r) / 2) (by lia) (by lia)) hc
theorem Yy (O:Ord lt){p:Array Nat}{k m:Nat}(hk:k < p.size)(hm:m<=k)(u:Up lt p k)(h1:∀a,a < m->lt (p.getD k 0) (p.getD a 0)=false)(h2:∀a,m<=a->a < k->lt (p.getD k 0) (p.getD a 0)=true) :
  Up lt (zX p k (k - m)) (k+1):=by
 intro a b BR hb;rw[Gj hk hm,Gj hk hm];by_cases eb:b=m
 ·rw[if_pos eb,if_neg (by lia),if_neg (by lia)];exact h1 a (by lia)
 ·rw[if_neg eb];by_cases ea:a=m
  ·rw[if_pos ea,if_pos (by lia)];exact O.asym _ _ (h2 (b - 1) (by lia) (by lia))
  ·rw[if_neg ea];by_cases h3:m < b/\b<=k
   ·rw[if_pos h3];by_cases h4:m < a/\a<=k
    ·rw[if_pos h4];exact u _ _ (by lia) (by lia)
    ·rw[if_neg h4];exact u _ _ (by lia) (by lia)
   ·rw[if_neg h3,if_neg (by lia)];exact u _ _ BR (by lia)
theorem O2 (O:Ord lt):∀(f:Nat)(p:Array Nat) (k:Nat),k+f=p.size->Up lt p k->Up lt (cx lt (xI f p k)) p.size/\(cx lt (xI f p k)).Perm p
 |0,p,k,h,u=>⟨by rw[<-h];exact u,.rfl⟩
 |f+1,p,k,h,u=>by
  obtain⟨m,e,hm,h1,h2⟩:=zm O u k 0 k (by lia) (gO _) (aN _) (λa ha=>absurd ha (pB _)) (λa ha hk=>absurd ha (by lia));have e2:cx lt (xI (f+1) p k)=cx lt (xI f (zX p k (k - m)) (k+1)):=by
   show cx lt ((pL p k k 0 k).bind λl=>xI f (zX p k (k - l)) (k+1))=_;rw[j7,e]
  obtain⟨x,y⟩:=O2 O f (zX p k (k - m)) (k+1) (by rw[bubble_size];lia) (Yy O (by lia) hm u h1 h2);rw[e2];rw[bubble_size]at x;exact⟨x,y.trans (bubble_perm _ _ _)⟩
theorem Wh (O:Ord lt){n:Nat}(h1:1<=n):Up lt (cx lt (oG n)) n/\(cx lt (oG n)).toList.Perm (dG n):=by
 have sz:(dG n).toArray.size=n:=(by simp);have c:=R1 O (p:=(dG n).toArray) (by lia);rw[sz]at c;unfold oG;rw[j7];generalize cx lt (yX n (dG n).toArray)=r at c;have hi:=c.hi;have lo:=c.lo;have s2:r.2.size=n:=(by rw[c.perm.size_eq,sz]);by_cases h:r.1 < n
 ·rw[if_pos h];obtain⟨x,y⟩:=O2 O (n - max r.1 1) r.2 (max r.1 1) (by lia) (c.up.le (by lia));rw[s2]at x;exact⟨x,by have:=(y.trans c.perm).toList;simpa using this⟩
 ·rw[if_neg h];have e:r.1=n:=(by lia);exact⟨by show Up lt r.2 n;rw[<-e];exact c.up,by have:=c.perm.toList;show r.2.toList.Perm _;simpa using this⟩
end
def AskQ {α:Type}(n:Nat)(P:α->Prop):KasT α->Prop
 | .ret a=>P a
 | .ask i j k=>i < n/\j < n/\∀b,AskQ n P (k b)
theorem AskQ.bind {α β:Type}{n:Nat}{P:α->Prop}{Q:β->Prop}{f:α->KasT β}(hf:∀a,P a->AskQ n Q (f a)):∀(t:KasT α),AskQ n P t->AskQ n Q (t.bind f)
 | .ret a,h=>hf a h
 | .ask i j k,h=>⟨h.1,h.2.1,λb=>AskQ.bind hf (k b) (h.2.2 b)⟩
theorem AskQ.asks {α:Type}{n:Nat}{P:α->Prop}:∀(t:KasT α),AskQ n P t->ni n t=true
 | .ret a,_=>rfl
 | .ask i j k,h=>by
  simp only[ni,iB,decide_eq_true_eq];exact⟨⟨⟨h.1,h.2.1⟩,AskQ.asks _ (h.2.2 true)⟩,AskQ.asks _ (h.2.2 false)⟩
def Alln (n:Nat)(p:Array Nat):Prop:=0 < n/\∀x∈p.toList,x < n
theorem Alln.at {n:Nat}{p:Array Nat}(h:Alln n p)(i:Nat):p.getD i 0 < n:=by
 rw[eU];cases e:p[i]? with
 |none=>exact h.1
 |some x=>exact h.2 x (by rw[<-eB]at e;exact bV e)
theorem Alln.perm {n:Nat}{p q:Array Nat}(h:Alln n p)(e:q.Perm p):Alln n q:=⟨h.1,λx hx=>h.2 x (e.toList.mem_iff.mp hx)⟩
theorem Alln.rev {n:Nat}{p:Array Nat}(h:Alln n p)(i j:Nat):Alln n (lQ p i j):=h.perm (uN _ _ _ _)
section
variable {n:Nat}
theorem Cc {p:Array Nat}(h:Alln n p):∀f m,AskQ n (λ_=>True) (rR p f m)
 |0,m=>trivial
 |f+1,m=>⟨h.at _,h.at _,λb=>by cases b;exact Cc h f (m+1);exact trivial⟩
theorem u6:∀(f:Nat) {p:Array Nat}(h:Alln n p) (m q:Nat),AskQ n (λr=>Alln n r.1) (pI f p m q)
 |0,p,h,m,q=>h
 |f+1,p,h,m,q=>⟨h.at _,h.at _,λb=>by
     cases b
     · exact⟨h.at _,h.at _,λb=>by cases b;exact u6 f h (m+1) (q+1);exact h⟩
     · show AskQ n _ (if q > 0 then pI f (lQ p (m - (q+1)) m) (m+1) 0 else pI f p (m+1) 0)
       split
       · exact u6 f (h.rev _ _) (m+1) 0
       · exact u6 f h (m+1) 0⟩
theorem C5 {p:Array Nat}(h:Alln n p)(m r:Nat):AskQ n (λr=>Alln n r.2) (yW m r p):=by
 unfold yW;refine AskQ.bind (P:=λ_=>True) (λa _=>?_) _ (Cc (h.rev _ _) _ _);exact h.rev 0 m
theorem w8 {p:Array Nat}(h:Alln n p)(m r:Nat):AskQ n (λr=>Alln n r.2) (uC m r p):=AskQ.bind (λa ha=>by
  show AskQ n _ (if a.2.2 > 0 then _ else _)
  split
  · exact C5 (ha.rev _ _) _ _
  · exact C5 ha _ _) _ (u6 _ h _ _)
theorem O3 {p:Array Nat}(h:Alln n p)(r:Nat):AskQ n (λr=>Alln n r.2) (yX r p):=AskQ.bind (λm _=>by
  show AskQ n _ (if (m == r)=true then _ else _)
  split
  · exact h
  · split
    · exact⟨h.at _,h.at _,λb=>by cases b;exact w8 (h.rev _ _) _ _;exact h⟩
    · exact w8 h _ _) _ (Cc h _ _)
theorem xb {p:Array Nat}(h:Alln n p)(k:Nat):∀f l r,AskQ n (λ_=>True) (pL p k f l r)
 |0,l,r=>trivial
 |f+1,l,r=>by
  unfold pL
  split
  ·trivial
  ·exact⟨h.at _,h.at _,λb=>by cases b;exact xb h k f _ _;exact xb h k f _ _⟩
theorem Jh:∀(f:Nat) {p:Array Nat}(h:Alln n p) (k:Nat),AskQ n (λr=>Alln n r) (xI f p k)
 |0,p,h,k=>h
 |f+1,p,h,k=>AskQ.bind (λl _=>Jh f (h.perm (bubble_perm _ _ _)) (k+1)) _ (xb h k k 0 k)
theorem R6 (h:0 < n):ni n (oG n)=true:=by
 have a:Alln n (dG n).toArray:=⟨h,λx hx=>by simpa using hx⟩;refine AskQ.asks (P:=λr=>Alln n r) _ (AskQ.bind (λr hr=>?_) _ (O3 a n));show AskQ n _ (if r.1 < n then _ else _)
 split
 ·exact Jh _ hr _
 ·exact hr
end
end TupSet
namespace TupSet
open SetTable PyProof.Rows PySem.W
theorem Wi (xs:List (List Int)):Ord (ltX xs) where
 asym _ _ h:=C0 h
 tr i j k h1 h2:=C1 (x:=xs.getD i []) (y:=xs.getD j []) (z:=xs.getD k []) h1 h2
theorem R7 (xs:List (List Int)):(dG xs.length).map (λi=>xs.getD i [])=xs:=by
 apply sC;intro i;rw[cQ];by_cases h:i < xs.length
 ·rw[oJ h];simp[gG,aK h]
 ·rw[jW (by simpa using h),jW (by lia)];rfl
theorem sortG {xs:List (List Int)}(h1:1<=xs.length) :
  ni xs.length (oG xs.length)=true/\(cx (ltX xs) (oG xs.length)).toList.map (λi=>xs.getD i [])=jm xs/\∀i∈(cx (ltX xs) (oG xs.length)).toList,i < xs.length:=by
 obtain⟨u,p⟩:=Wh (Wi xs) h1;refine⟨R6 h1,yy ?_ ?_,λi hi=>by simpa using p.mem_iff.mp hi⟩
 ·have:=p.map (λi=>xs.getD i []);rw[R7]at this;exact this
 ·have hl:(cx (ltX xs) (oG xs.length)).size=xs.length:=(by rw[<-gH,p.length_eq,iS]);generalize cx (ltX xs) (oG xs.length)=q at u hl;rw[m5,List.pairwise_map,List.pairwise_iff_getElem];intro i j hi hj WH;have e:∀k (hk:k < q.toList.length),q.toList[k]=q.getD k 0:=λk hk=>by
   rw[eU,<-eB,aK hk];rfl
  rw[e,e];exact u i j WH (by rw[gH,hl]at hj;exact hj)
section
variable {prog:aU}{w:aZ}{A:cC}{E:aC->aG->Prop}{s:aG}
theorem R8 {a:Addr}{vs:List aC}{n:Nat}{xs:List (List Int)}{g:Heap}{P:PySem.Fin->aG->Prop}(ho:s.heap.get? a=some (kX "list" vs.toArray n))(hG:KeysL prog w g vs xs)(kg:∀x c,fZ (gE prog w) g x c->fZ (gE prog w) s.heap x c)(AO:∀x∈xs,x≠[])(h3:xs.length < 64)
  (h:∀h' out c,(∀b o,b≠a->s.heap.get? b=some o->h'.get? b=some o)->h'.get? a=some (kX "list" (jO out) c)->KeysL prog w g out (jm xs)->P (.done (.ret .none)) { s with heap:=h' }) :
  aL (aS prog w) A (iI.«list.sort» ⟨[.ref a],[]⟩) P E s:=by
 have hK:KeysL prog w s.heap vs xs:=hG.imp kg;have AG:=hK.length;have halt:a < s.heap.objs.size:=aW ho;have s1:=jA s.heap a (jB λ_=>(#[]:Array aC));obtain⟨e1,ND⟩:∃e1,(s.heap.update a (jB λ_=>(#[]:Array aC))).get? a=some (kX "list" #[] e1):=⟨_,get?_update_seq ho λ_=>#[]⟩;have LH:(((s.heap.update a (jB λ_=>(#[]:Array aC))).push (kX "tuple" vs.toArray 0)).push (kX "list" #[] 0)).get? a=some (kX "list" #[] e1):=
  aI _ (aI _ ND)
 have kp:∀b o,b≠a->s.heap.get? b=some o->(((s.heap.update a (jB λ_=>(#[]:Array aC))).push (kX "tuple" vs.toArray 0)).push (kX "list" #[] 0)).get? b=some o:=λb o hb e=>
  aI _ (aI _ (by rw[s1.2 b hb];exact e))
 generalize hH:((s.heap.update a (jB λ_=>(#[]:Array aC))).push (kX "tuple" vs.toArray 0)).push (kX "list" #[] 0)=H at LH kp;have SD:KeysL prog w H vs xs:=hK.imp λx c k=>Lm k ho kp;have AK:∀(out:List aC),out.length=vs.length->KeysL prog w g out (jm xs)->∃c2,(H.update a (jB λ_=>jO out)).get? a=some (kX "list" (jO out) c2)/\P (.done (.ret .none)) { s with heap:=H.update a (jB λ_=>jO out) }:=λout IW GV=>by
  have s2:=jA H a (jB λ_=>jO out);obtain⟨c2,DB⟩:∃c2,(H.update a (jB λ_=>jO out)).get? a=some (kX "list" (jO out) c2):=⟨_,get?_update_seq LH λ_=>jO out⟩;have kk:∀b o,b≠a->H.get? b=some o->(H.update a (jB λ_=>jO out)).get? b=some o:=λb o hb e=>(by rw[s2.2 b hb];exact e);exact⟨c2,DB,h _ out c2 (λb o hb e=>kk b o hb (kp b o hb e)) DB GV⟩
 have h4:vs.length < 64:=(by lia);rw[list_sort_plain];refine aA (listItems_at ho rfl ?_);refine aA (xZ ho rfl ?_ (by rw[aO,iN];lia) (gO _));refine aA (zH ND rfl ?_);refine aA (rM ?_ (by show vs.length<=_;rw[iN];lia));refine aA (yA ?_ (gO _));refine hZ ?_;show aL (aS prog w) A _ P E { s with heap:=((s.heap.update a (jB λ_=>(#[]:Array aC))).push (kX "tuple" vs.toArray 0)).push (kX "list" #[] 0) };rw[hH];dsimp only;by_cases h2:2<=vs.length
 ·have EA:¬vs.toArray.size < 2:=(by rw[aO];lia);rw[if_neg EA,if_neg EA];obtain⟨fs,hf1,hf2,hf3⟩:=SD.firsts AO;refine aA (kat_kind (s:={ s with heap:=H }) (T:=.type "int") hf1 (by lia) (λv hv=>by obtain⟨k,t,rfl⟩:=hf3 v hv;exact .now) (by decide) ?_);obtain⟨q1,q2,q3⟩:=sortG (xs:=xs) (by lia);refine aA (gB (kat_run (s:={ s with heap:=H }) (ks:=vs) (vs:=vs) (Q:=λCI s'=>s'={ s with heap:=H }/\failedOf CI=none/\(arrOf CI).map (·.2)=jO ((cx (ltX xs) (oG xs.length)).toList.map λi=>vs.getD i iD)) (G:=λp s'=>s'={ s with heap:=H }/\p=cx (ltX xs) (oG xs.length)) rfl h2 (by lia) (λp CI s' a1 a2 a3 a4=>⟨a4.1,a3,by rw[kat_snds rfl a2,a4.2]⟩) ?_) ?_ λ_ _ e=>e)
  ·rw[AG];refine Jc (n:=xs.length) (lt:=ltX xs) (λi j C hi hj hC=>?_) _ q1 ⟨rfl,rfl⟩;obtain⟨c,ec,kc⟩:=SD.at hi;obtain⟨d,ed,kd⟩:=SD.at hj;unfold kas_ask;rw[ec,ed];exact Yu (s:={ s with heap:=H }) kc kd hC
  ·intro AC s' KF;obtain⟨⟨⟩,CI⟩:=AC;obtain⟨rfl,hfail,hout⟩:=KF;dsimp only;rw[hout];have GV:=hG.pick _ q3;rw[q2]at GV;have IW:((cx (ltX xs) (oG xs.length)).toList.map λi=>vs.getD i iD).length=vs.length:=by
    rw[GV.length,(jn xs).length_eq,AG]
   obtain⟨c2,DB,hP⟩:=AK _ IW GV;refine aA (zH LH rfl ?_);refine aA (xZ (s:={ s with heap:=H }) LH rfl ?_ (gO _) (by rw[aO,IW,iN];lia));rw[hfail];simp only[bne_self_eq_false,eV,if_false];exact wpAny_pure hP
 ·have EA:vs.toArray.size < 2:=(by rw[aO];lia);rw[if_pos EA,if_pos EA];have KJ:jm xs=xs:=by
   match xs,AG with
   | [],_=>rfl
   | [x],_=>rfl
   |_::_::_,e=>simp at e;lia
  obtain⟨c2,DB,hP⟩:=AK vs rfl (by rw[KJ];exact hG);refine aA (wpAny_pure ?_);refine aA (wpAny_pure ?_);dsimp only;have hz:Array.map (λx=>x.snd) (arrOf (SortSt.mk' general' (vs.toArray.zip vs.toArray) #[] 7 none))=jO vs:=by
   show Array.map (λx=>x.snd) (vs.toArray.zip vs.toArray)=_;apply Array.toList_inj.mp;rw[Array.toList_map,Array.toList_zip];exact List.map_snd_zip (aN _)
  rw[hz];refine aA (zH LH rfl ?_);refine aA (xZ (s:={ s with heap:=H }) LH rfl ?_ (gO _) (by rw[aO,iN];lia));simp only[bne_self_eq_false,eV,if_false];exact wpAny_pure hP
end
end TupSet
namespace TupG
open SetTable TupSet PyProof.Rows PySem.W
theorem Hq {xs:Array Nat}(hr:RiseA xs){i v:Nat}(hi:xs[i]?=some v):below xs (v+1)=i+1:=by
 have hl:=yw xs (v+1);have h1:i < below xs (v+1):=by
  by_cases h:below xs (v+1)<=i
  ·have:=(iu hr (v+1) hi).2 h;lia
  ·lia
 by_cases h:below xs (v+1)=i+1
 ·exact h
 ·have e:xs[i+1]?=some (xs[i+1]'(by lia)):=dZ (by lia);have h2:=(iu hr (v+1) e).1 (by lia);have h3:=hr.lt hi e (by lia);lia
theorem Hr {xs:Array Nat}(hr:RiseA xs):below xs 0=0:=by
 have hl:=yw xs 0;by_cases h:below xs 0=0
 ·exact h
 ·have e:xs[0]?=some (xs[0]'(by lia)):=dZ (by lia);have:=(iu hr 0 e).1 (by lia);lia
section
variable {prog:aU}{w:aZ}{A:cC}{E:aC->aG->Prop}{s:aG}
theorem Bd {S:Addr}{o:Obj}{es:Array (Int×aC)}{ep slot i:Nat}{t:eO}{Q:Option (aC×Nat)->aG->Prop}
  (ho:s.heap.get? S=some o) (hd:o.data=.set es ep t) (Sm:Tb t es.size) (hn:es.size<=t.mask) (CG:w.params.followText "set-order"=false->t.led=true)
  (NG:w.params.followText "set-order"=false->below t.place slot=i)
  (h:∀nx,(w.params.followText "set-order"=false->i < es.size->below t.place nx=i+1)->Q (((gf w S ep es)[i]?).map λv=>(v,nx)) s) :
  aL (aS prog w) A (setNext S slot i ep) Q E s:=by
 have BI:t.fits es.size=true:=uz Sm hn;unfold setNext;refine aA (jS ho hd BI ?_);dsimp only;unfold zY;refine aA (aA (qC (wpAny_pure ?_)));cases hf:w.params.followText "set-order" with
 |true=>
  rw[show((aS prog w).w.params.followText "set-order")=true from hf];simp only[if_true];rw[if_neg (by simp)];unfold setWalk;refine aA (aA (jS ho hd BI ?_));dsimp only;unfold zY;refine aA (aA (qC (wpAny_pure ?_)));rw[show((aS prog w).w.params.followText "set-order")=true from hf];simp only[if_true];refine aA (qC (wpAny_pure (wpAny_pure ?_)));have:=h slot (λe=>by rw[hf]at e;exact nomatch e);have hw:gf w S ep es=(yT (w.params.setOrder S ep) es).toList.map (·.2):=(by unfold gf;rw[if_pos hf]);rw[hw,cQ,eB,Option.map_map]at this;exact this
 |false=>
  rw[show((aS prog w).w.params.followText "set-order")=false from hf];simp only[eV,if_false];refine wg (show(!t.plain && decide (es.size > 1))=false by rw[Sm.plain];rfl) ?_;refine aA ?_;show aL _ _ (ite ((!t.led && !es.isEmpty)=true) _ _) _ _ _;refine wg (by rw[CG hf];rfl) (wpAny_pure ?_);rw[NG hf];have hw:gf w S ep es=es.toList.map (·.2):=(by unfold gf;rw[hf];rfl);by_cases hi:i < es.size
  ·have BK:i < t.place.size:=(by rw[Sm.size];exact hi);rw[dZ hi,dZ BK];have:=h (t.place[i]+1) (λ_ _=>Hq Sm.rise (dZ BK));rw[hw,cQ,eB,dZ hi]at this;exact wpAny_pure this
  ·have:=h 0 (λ_ h'=>absurd h' hi);rw[hw,cQ,eB,qE.mpr (by lia)]at this;rw[qE.mpr (by lia)];exact wpAny_pure this
structure oh (w:aZ)(o:Obj)(es:Array (Int×aC))(ep:Nat)(t:eO):Prop where
 ex:o.ExactSet
 data:o.data=.set es ep t
 small:Tb t es.size
 fit:es.size<=t.mask
 n76:es.size<=76
 led:w.params.followText "set-order"=false->t.led=true
theorem Gm {I S:Addr}{o:Obj}{es:Array (Int×aC)}{ep i:Nat}{t:eO}{v:aC}{Q:Option aC->aG->Prop}
  (DF:IsSetIter w s.heap I S i es.size ep t) (ho:s.heap.get? S=some o) (D:oh w o es ep t) (hv:(gf w S ep es)[i]?=some v)
  (hQ:∀h',IsSetIter w h' I S (i+1) es.size ep t->gI I s.heap h'->Q (some v) { s with heap:=h' }) :
  aL (aS prog w) A (jL (.ref I)) Q E s:=by
 have hT:=DF.typeIs;obtain⟨slot,oi,IZ,hc,HP,NG⟩:=DF;have hi:i < es.size:=by
  rw[<-og w S ep es];exact(aM.mp hv).1
 unfold jL;refine aA (lM (eZ (name:=hX "__next__") hT ic (gM ic hT vc ?_ (we _))));show aL _ _ (fieldsOf (.ref I) >>= _) _ _ s;refine aA (wpAny_fieldsOf IZ HP ?_);dsimp only;refine aA (uF ho D.data (uz D.small D.fit) ?_);refine wg (by simp) ?_;refine aA (Bd (i:=i) (slot:=slot) ho D.data D.small D.fit D.led NG λnx WI=>?_);rw[show((ep:Int)).toNat=ep from gL ep,hv];dsimp only[pV];refine aA (mZ IZ HP (by simp) ?_);have ND:=iH (oP λxs=>xs.setIfInBounds 0 (iU nx)) IZ (nK (iO HP _));refine aA (mZ ND (iO HP _) (by simp) (wpAny_pure ⟨v,rfl,wpAny_pure (hQ _ ?_ ((jA ..).trans (jA ..)))⟩));refine⟨nx,_,iH _ ND (nK (iO (iO HP _) _)),(rX ..).trans ((rX ..).trans hc),?_,λhf=>WI hf hi⟩;rw[iO (iO HP _)];simp[iU]
theorem Hs {I S:Addr}{o:Obj}{es:Array (Int×aC)}{ep:Nat}{t:eO}{Q:Option aC->aG->Prop}(hh:A.handled=none)
  (DF:IsSetIter w s.heap I S es.size es.size ep t) (ho:s.heap.get? S=some o) (D:oh w o es ep t)
  (hQ:∀h',uM I s.heap h'->Q none { s with heap:=h' }) :
  aL (aS prog w) A (jL (.ref I)) Q E s:=by
 have hT:=DF.typeIs;obtain⟨slot,oi,IZ,hc,HP,NG⟩:=DF;unfold jL;refine aA (lM (eZ (name:=hX "__next__") hT ic (gM ic hT vc ?_ (we _))));show aL _ _ (fieldsOf (.ref I) >>= _) _ _ s;refine aA (wpAny_fieldsOf IZ HP ?_);dsimp only;refine aA (uF ho D.data (uz D.small D.fit) ?_);refine wg (by simp) ?_;refine aA (Bd (i:=es.size) (slot:=slot) ho D.data D.small D.fit D.led NG λnx WI=>?_);rw[List.getElem?_eq_none_iff.mpr (by rw[og];exact aN _)];dsimp only[pV];refine aA (mZ IZ HP (by simp) ?_);refine aA ?_;simp only[newExc,zI];refine aA (gR ?_ (by size_fits));refine aA (m:=uK _ _) (zD (a:=iD) (by first | rfl | (simp only[uK];rfl)) ?_)
 refine gR ?_ (by size_fits);simp only[raiseNew];refine aA (wpAny_handled ?_)
 first | rw[show A.in1.handled=none from hh] | rw[hh]
 refine aA (wpAny_pure (wpAny_throw ?_));refine aA (oE (T:="StopIteration") (b:=true) ⟨_,aY _ rfl,rfl⟩ rN ?_);exact wpAny_pure (hQ _ (((jA ..).extBut.push _).push _))
theorem Wj {S:Addr}{o:Obj}{es:Array (Int×aC)}{ep:Nat}{t:eO}{Q:aC->aG->Prop}(ho:s.heap.get? S=some o)(D:oh w o es ep t)
  (hQ:Q (.ref s.heap.objs.size) { s with heap:=s.heap.push { cls:=.type "set_iterator",data:=.fields #[.int 0 0,.int 0 0,.ref S,.int es.size 0,.int ep 0] } }) :
  aL (aS prog w) A (zO (.ref S)) Q E s:=by
 have hT:s.TypeIs (.ref S) "set":=⟨o,ho,D.ex.1⟩;have BI:=uz D.small D.fit;refine wpAny_pyIter_slot hT F.slot_set_iter (gM F.slot_set_iter hT Fw ?_ (F.args_set_iter_1 _));show aL _ _ (Builtin.Frozenset.sizeOf S >>= _) _ _ s;unfold Builtin.Frozenset.sizeOf;refine aA (aA (uF ho D.data BI (wpAny_pure ?_)));unfold setDrawn;refine aA (aA (jS ho D.data BI ?_));dsimp only;unfold zY;refine aA (aA (qC (wpAny_pure (wpAny_pure ?_))));refine wg (show(!(w.params.followText "set-order") && (!t.plain && decide (es.size > 1)))=false by rw[D.small.plain];simp) ?_;refine aA (wpAny_pure ?_);refine aA (wpAny_setEpoch_of ho D.data BI ?_);refine aA (gR (wpAny_pure ⟨_,rfl,"set_iterator",_,⟨_,aY _ rfl,rfl⟩,ic.lookup,hQ⟩))
theorem O4 (hh:A.handled=none){I S:Addr}(AO:S≠I){o:Obj}{es:Array (Int×aC)}{ep:Nat}{t:eO}(D:oh w o es ep t) :
  Walks prog w A I [I,S] [I] es.size (λi v=>(gf w S ep es)[i]?=some v) (λi h=>IsSetIter w h I S i es.size ep t/\h.get? S=some o) where
 sub:=λb hb=>by simp at hb;simp[hb]
 frame:=λi h h' st hk=>by
  obtain⟨⟨slot,oi,IZ,r⟩,hS⟩:=st;exact⟨⟨slot,oi,hk I (by simp) _ IZ,r⟩,hk S (by simp) _ hS⟩
 item:=λi s Q E hi st hQ=>by
  have hl:=og w S ep es;have hv:(gf w S ep es)[i]?=some ((gf w S ep es)[i]'(by lia)):=aK _;refine Gm st.1 st.2 D hv λh' hit' CP=>?_;exact hQ _ h' s.toks hv ⟨hit',by rw[CP.2 S AO];exact st.2⟩ λb o hb e=>CP.extBut b o (λh=>hb (by simp[h])) e
 done:=λs Q E st hQ=>Hs hh st.1 st.2 D λh' KW=>hQ h' s.toks λb o hb e=>KW b o (λh=>hb (by simp[h])) e
 self:=λi s Q E st hQ=>by
  have hT:=st.1.typeIs;refine wpAny_pyIter_slot hT wj (gM wj hT Di ?_ (Fx _));show aL _ _ (ret (.ref I)) _ _ s;exact wpAny_pure ⟨_,rfl,"set_iterator",_,hT,ic.lookup,hQ⟩
theorem Wk {S:Addr}{o:Obj}{es:Array (Int×aC)}{ep:Nat}{t:eO}(D:oh w o es ep t) :
  KdlSrc prog w "set" S S es.size (λi v=>(gf w S ep es)[i]?=some v) (λh=>h.get? S=some o) where
 type:=λs ho=>⟨o,ho,D.ex.1⟩
 there:=λh ho=>⟨aW ho,aW ho⟩
 keep:=λh h' ho hk=>hk S (.inl rfl) _ ho
 notList:=by decide
 notTuple:=by decide
 hint:=λA E s Q ho h=>Rx ⟨o,ho,D.ex.1⟩ h
 iter:=λA s hh ho=>⟨_,_,λE Q h=>Wj ho D h,O4 hh (cE (aW ho)) D,⟨0,_,aY _ rfl,rfl,rfl,λ_=>Hr D.small.rise⟩,aI _ ho⟩
theorem Lq {S:Addr}{o:Obj}{es:Array (Int×aC)}{ep:Nat}{t:eO}{Q:List aC->aG->Prop}(hh:A.handled=none)(ho:s.heap.get? S=some o)(D:oh w o es ep t)
  (h:∀h' tk,(∀b o,s.heap.get? b=some o->h'.get? b=some o)->Q (gf w S ep es) { s with heap:=h',toks:=tk }) :
  aL (aS prog w) A (collect (.ref S)) Q E s:=by
 unfold collect;refine aA (wpAny_runValue (nL entry_proto_collect' ?_));show aL _ _ (do again (.builtin "list.__iadd__" ⟨[<-newList [],.ref S],[]⟩)) _ _ s
 refine aA (yA (wpAny_pure ⟨oW _ (by decide +kernel),nL entry_list_iadd' ?_⟩));rw[qB PySem.F.plain_list_iadd _];show aL _ A.in1 (Builtin.List.listExtendWith (.ref s.heap.objs.size) (.ref S) (.ref s.heap.objs.size)) _ _ _;have AZ:=aW ho;refine kdl_extend (prog:=prog) (R:=λr s'=>match r with
   | .ok (.ret v)=>aL (aS prog w) A (match v with
     | .ref a=>(do
       let x <-load a
       match x.data with
         | .seq xs _=>pure xs.toList
         |_=>wZ "internal:collect")
     |_=>wZ "internal:collect") Q E s'
   | .ok _=>False
   | .error e=>E e s') (s:={ s with heap:=s.heap.push { cls:=.type "list",data:=.seq #[] } }) (Wk D) hh (aI _ ho) s.heap.objs.size (gJ AZ) (gJ AZ) (.ref s.heap.objs.size) 0 (aY _ rfl) (λh' tk HQ c' hk GQ NH=>?_) (by rw[iN];have:=D.n76;lia)
 have e:HQ.toList=gf w S ep es:=by
  refine sC λj=>?_;rw[eB];by_cases hj:j < HQ.size
  ·have hv:HQ[j]?=some HQ[j]:=dZ hj;rw[hv];exact(NH.2 j _ hv).symm
  ·rw[qE.mpr (by lia),List.getElem?_eq_none_iff.mpr];rw[og,<-NH.1];lia
 dsimp only;refine aA (wpAny_load GQ (wpAny_pure ?_));rw[e];exact h h' tk λb o hb=>hk b o (cE (aW hb)) (aI _ hb)
theorem Ht {S:Addr}{o:Obj}{es:Array (Int×aC)}{ep:Nat}{t:eO}{xs:List (List Int)}{h0:Heap}{Q:aC->aG->Prop}(DN:∀b o,h0.get? b=some o->s.heap.get? b=some o)(hh:A.handled=none)(ho:s.heap.get? S=some o)(D:oh w o es ep t)
  (hE:EntsOf prog w h0 es.toList xs) (AO:∀x∈xs,x≠[]) (WJ:xs.length < 64)
  (h:∀d h' tk out c,s.heap.get? d=none->(∀b o,s.heap.get? b=some o->h'.get? b=some o)->h'.get? d=some (kX "list" (jO out) c)->KeysL prog w h0 out (jm xs)->Q (.ref d) { s with heap:=h',toks:=tk }) :
  aL (aS prog w) A (call (.builtin "sorted") [.ref S]) Q E s:=by
 have AG:=hE.length;rw[gH]at AG;have IB:=D.n76;have WJ:=WJ;obtain⟨ys,BO,hky⟩:=(EntsOf.keys hE).perm (A7 w S ep es);have hyl:ys.length < 64:=(by rw[BO.length_eq];lia);have ON:=og w S ep es;have KJ:jm ys=jm xs:=yy ((jn ys).trans BO) (kz ys);refine Calls.call_function_entry kind_sorted plain_sorted entry_sorted (args_sorted1 _) ?_;unfold iI.«sorted»;refine aA (m:=checkCount "sorted" 1 1 _) (wpAny_pure ?_);refine aA (Lq (A:=A.in1) hh ho D λh1 CS DW=>?_);refine aA (yA ?_ (by rw[iN];lia));show aL _ _ _ _ _ { s with heap:=h1.push (kX "list" (gf w S ep es).toArray 0),toks:=CS };have OH:(h1.push (kX "list" (gf w S ep es).toArray 0)).get? h1.objs.size=some (kX "list" (gf w S ep es).toArray 0):=aY _ rfl;have kp:∀b o,s.heap.get? b=some o->(h1.push (kX "list" (gf w S ep es).toArray 0)).get? b=some o:=λb o e=>aI _ (DW b o e);have JA:s.heap.get? h1.objs.size=none:=by
  cases e:s.heap.get? h1.objs.size with
  |none=>rfl
  |some o'=>exact absurd (aW (DW _ _ e)) (kZ _)
 refine aA (hZ (gM slot_list_sort ⟨_,OH,rfl⟩ entry_list_sort ?body (args_list_sort _)))
 case body=>
  refine R8 (s:={ s with heap:=h1.push (kX "list" (gf w S ep es).toArray 0),toks:=CS }) OH hky (λx a k=>uy kp (uy DN k)) (λx hx=>AO x (BO.mem_iff.mp hx)) hyl λh' out c hk hd GV=>?_;rw[KJ]at GV;refine⟨_,rfl,wpAny_pure ⟨_,rfl,h _ h' CS out c JA (λb o e=>hk b o (λeb=>?_) (kp b o e)) hd GV⟩⟩;rw[eb,JA]at e;exact nomatch e
end
end TupG
namespace TupG
open SetTable TupSet PyProof.Rows PySem.W
def dd:List (List Int)->List (List Int)
 | []=>[]
 |x::l=>if x∈l then dd l else x::dd l
theorem Be {y:List Int}:∀{l:List (List Int)},y∈dd l↔y∈l
 | []=>Iff.rfl
 |x::l=>by
  unfold dd
  split
  ·next h=>
   rw[Be,aX];exact⟨.inr,λz=>by rcases z with rfl | z;exact h;exact z⟩
  ·rw[aX,aX,Be]
theorem zo:∀(l:List (List Int)),(dd l).Nodup
 | []=>List.nodup_nil
 |x::l=>by
  unfold dd
  split
  ·exact zo l
  ·next h=>exact List.nodup_cons.mpr ⟨λz=>h (Be.mp z),zo l⟩
theorem O5:∀(l:List (List Int)),(dd l).length<=l.length
 | []=>aN _
 |x::l=>by
  unfold dd;have:=O5 l
  split
  ·rw[eE];lia
  ·rw[eE,eE];lia
theorem Bf:∀{xs ys:List (List Int)},xs.Nodup->ys.Nodup->(∀y,y∈xs↔y∈ys)->xs.Perm ys
 | [],ys,_,_,h=>by
  cases ys with
  |nil=>exact .refl _
  |cons y ys=>exact nomatch (h y).mpr eF
 |x::xs,ys,hx,hy,h=>by
  have LD:=(h x).mp eF;have DL:=qM.mp hx;refine(List.Perm.cons x (Bf DL.2 (hy.erase x) λy=>?_)).trans (List.perm_cons_erase LD).symm;rw[hy.mem_erase_iff,<-h,aX];exact⟨λz=>⟨λe=>DL.1 (e ▸ z),.inr z⟩,λAD=>by obtain⟨n,z⟩:=AD;exact z.resolve_left n⟩
def srtG (L:List (List Int)):List (List Int):=jm (dd L)
theorem srtG_len (L:List (List Int)):(srtG L).length<=L.length:=by
 unfold srtG;rw[(jn _).length_eq];exact O5 L
theorem Wl {L xs:List (List Int)}(nd:xs.Nodup)(h:∀y,y∈xs↔y∈L):jm xs=srtG L:=
 yy ((jn xs).trans (Bf nd (zo L) λy=>(h y).trans Be.symm)) (kz xs)
section
variable {prog:aU}{w:aZ}{A:cC}{E:aC->aG->Prop}{s:aG}
theorem call_sorted_ofG {h0:Heap}{S:Addr}{L:List (List Int)}{Q:aC->aG->Prop}(hh:A.handled=none)(h3:L.length < 64)(AO:∀x∈L,x≠[])
  (k:Got prog w h0 s.heap S (A6 w) L) (hk:∀b o,h0.get? b=some o->s.heap.get? b=some o)
  (h:∀d h' tk out c,s.heap.get? d=none->(∀b o,s.heap.get? b=some o->h'.get? b=some o)->h'.get? d=some (kX "list" (jO out) c)->KeysL prog w h0 out (srtG L)->Q (.ref d) { s with heap:=h',toks:=tk }) :
  aL (aS prog w) A (call (.builtin "sorted") [.ref S]) Q E s:=by
 obtain⟨t,xs,⟨o,es,ep,ho,hex,hd,T,hE⟩,hl,hm,hx⟩:=k;have AG:=hE.length;rw[gH]at AG;rw[<-Wl T.nd hm]at h;refine Ht hk hh ho ⟨hex,hd,by rw[AG];exact T.tb,by rw[AG];exact T.fit,by lia,λhf=>?_⟩ hE (λx hx=>AO x ((hm x).mp hx)) (by lia) h;rw[hl];unfold A6;rw[hf];rfl
end
end TupG
end PySem
namespace L2
open PySem PySem.Spec PyProof.Rows
section
variable {X:Cx}{e:Expr}{te:TE}{x y:Str}{p p2 pos DU:Pos}
def tSrtG (K:aB)(te:TE):TE:=λσ H Q=>te σ H λv H1=>∃l ys L,v=.ref l/\SqL K H1 l ys/\TupsV K H1 ys L/\L.length < 64/\(∀x∈L,x≠[])/\
 ∀d zs,H1 d=none->TupsV K H1 zs (TupG.srtG L)->Q (.ref d) (upd H1 d (.lst zs))
theorem Wm (hc:X.calm=true)(hu:X.A.units+8 < jH)(hg:Gl X x)(hm:X.mg x=none)(hv:jK x=some (.builtin "sorted"))(SB:Gl X y)(MX:X.mg y=none)(hv2:jK y=some (.type "set"))(he:PE X e te)
  (hn:x≠"__name__":=by decide) (C':(x == ("__debug__":Str))=false:=by decide) (EA:y≠"__name__":=by decide) (hdb2:(y == ("__debug__":Str))=false:=by decide)
  (hs:cJ [.Call (.Name y p2) [e] [] DU] X.env=(false,eval (.Call (.Name y p2) [e] [] DU) X.env)::cJ [] X.env:=by rfl) (BK:(jU pos (cJ [] X.env)).any (·.1)=false:=by rfl)
  (BL:cJ [e] X.env=(false,eval e X.env)::cJ [] X.env:=by rfl) (hpl2:(jU DU (cJ [] X.env)).any (·.1)=false:=by rfl) :
  PE X (.Call (.Name x p) [.Call (.Name y p2) [e] [] DU] [] pos) (tSrtG X.K te):=by
 intro f' s σ H Q I h;refine jZ (iw I hg hm hv ?_ hn C');refine PyProof.Rows.callWith_builtin1 ?_ hs BK;rw[hs];show aL _ _ (zZ ((false,eval (.Call (.Name y p2) [e] [] DU) X.env)::jU pos (cJ [] X.env))) _ _ s;refine uQ ?_;refine jZ (iw I SB MX hv2 ?_ EA hdb2);refine gW ?_ BL hpl2;rw[BL];show aL _ _ (zZ ((false,eval e X.env)::jU DU (cJ [] X.env))) _ _ s;refine uQ (thn (he f' s σ H _ I h) λu s1 AD=>?_);obtain⟨v,H1,I1,r1,q1⟩:=AD;obtain⟨l,ys,L,rfl,hl,ht,h3,AO,q1⟩:=q1;cases r1;refine vD ?_;obtain⟨its,rv,pl,hz⟩:=I1.list hl;have DN:∀b o,(wu X.K H1 s1.heap).get? b=some o->s1.heap.get? b=some o:=λb o e=>(Jd e).1;refine TupG.call_setG (items:=its.toArray) (L:=L) (h0:=wu X.K H1 s1.heap) DN (I1.ok.hd hc) hu pl.isList (by rw[aO,<-rv.length];exact Paired.length ht) (by lia) (λi v e=>?_) λh' tk hS hk=>?_
 ·obtain⟨a,x,e1,e2,k⟩:=ht.get rv i v (by simpa using e);exact⟨a,x,e1,e2,I1.tupK k⟩
 ·refine vD ?_;refine TupG.call_sorted_ofG (s:={ s1 with heap:=h',toks:=tk }) (I1.ok.hd hc) h3 AO hS (λb o e=>hk b o (DN b o e)) λd h2 NI out c hd CW hdo GV=>?_;obtain⟨zs,hzv,WK⟩:=I1.ofKeysL GV;have hkk:∀b o,s1.heap.get? b=some o->h2.get? b=some o:=λb o e=>CW b o (hk b o e);have J:Inv X f' σ H1 { s1 with heap:=h',toks:=tk }:=I1.kept (h':=h') (t':=tk) hk;have MF:H1 d=none:=J.hok.none_at hd;have AG:zs.length<=sizeLine:=by
   have a1:=Paired.length WK;have a2:=TupG.srtG_len L;rw[a1];exact cH (cH a2 (lF h3)) (by decide)
  refine⟨.ref d,upd H1 d (.lst zs),?_,rfl,q1 d zs MF WK⟩;exact J.laidN (h':=h2) (t':=NI) CW hd (show ObjOk X.prog X.w _ h2 d (.lst zs)from⟨AG,out,c,hzv,hdo⟩)
end
open PySem.SeqAt
theorem zp {κ:Type}[DecidableEq κ]:∀(ks ls:List κ),((dG (min ks.length ls.length)).all (λj=>decide (ks[j]?=ls[j]?)) && ks.length == ls.length)=decide (ks=ls)
 | [],[]=>by simp
 | [],_::_=>by simp
 |_::_,[]=>by simp
 |k::ks,l::ls=>by
  have ih:=zp ks ls;have e:min (k::ks).length (l::ls).length=min ks.length ls.length+1:=(by simp only[eE];lia);rw[e,List.range_succ_eq_map,uV,yQ];have e2:((dG (min ks.length ls.length)).all ((λj=>decide ((k::ks)[j]?=(l::ls)[j]?))∘Nat.succ))=(dG (min ks.length ls.length)).all (λj=>decide (ks[j]?=ls[j]?)):=by
   congr 1
  have e3:((k::ks).length == (l::ls).length)=(ks.length == ls.length):=(by simp);rw[e2,e3,Bool.and_assoc,ih];by_cases hx:k=l
  ·subst hx;simp
  ·simp[hx]
theorem xc {α β:Type}{R:α->β->Prop}(fn:∀x k l,R x k->R x l->k=l):∀{xs:List α}{ks ls:List β},Paired R xs ks->Paired R xs ls->ks=ls
 | [],_,_,.nil,.nil=>rfl
 |_::_,_,_,.cons h1 t1,.cons h2 t2=>by rw[fn _ _ _ h1 h2,xc fn t1 t2]
section
variable {X:Cx}{f':List (Addr×Obj)}{σ:St}{H:Hp}{s:aG}{A:cC}
theorem C6 {κ:Type}[DecidableEq κ]{R:V->κ->Prop}{xs ys:List V}{ks ls:List κ}{its AH:List aC}(h1:Paired R xs ks)(h2:Paired R ys ls)(r1:Vals xs its)(r2:Vals ys AH)
  (el:∀(j:Nat)(k l:κ),ks[j]?=some k->ls[j]?=some l->∀(x y:V)(u v:aC),R x k->R y l->RelV x u->RelV y v->EqAt A s u v (decide (k=l))) :
  ∀j (q1:j < its.toArray.size) (q2:j < AH.toArray.size),EqAt A s its.toArray[j] AH.toArray[j] (decide (ks[j]?=ls[j]?)):=by
 intro j q1 q2;have l1:=r1.length;have l2:=r2.length;have j1:j < xs.length:=(by rw[l1];simpa using q1);have j2:j < ys.length:=(by rw[l2];simpa using q2);obtain⟨k,e1,k1⟩:=j6 h1 (aK j1);obtain⟨l,e2,k2⟩:=j6 h2 (aK j2);obtain⟨u,f1,ru⟩:=r1.get (aK j1);obtain⟨v,f2,rv⟩:=r2.get (aK j2);have g1:its.toArray[j]=u:=by
  have z:its[j]?=some its.toArray[j]:=(by simp[aK (by simpa using q1:j < its.length)]);rw[f1]at z;exact(cZ z).symm
 have g2:AH.toArray[j]=v:=by
  have z:AH[j]?=some AH.toArray[j]:=(by simp[aK (by simpa using q2:j < AH.length)]);rw[f2]at z;exact(cZ z).symm
 rw[g1,g2,e1,e2];have z:=el j k l e1 e2 _ _ _ _ k1 k2 ru rv;have e:decide (some k=some l)=decide (k=l):=(by rw[decide_eq_decide];exact⟨cZ,λz=>by rw[z]⟩);rw[e];exact z
theorem xx {κ:Type}[DecidableEq κ]{R:V->κ->Prop}(I:Inv X f' σ H s){a b:Addr}{xs ys:List V}{ks ls:List κ}(fn:xs=ys->ks=ls)(ha:SqT X.K H a xs)(hb:SqT X.K H b ys)(h1:Paired R xs ks)(h2:Paired R ys ls)(hu:A.units < jH)
  (el:∀(j:Nat)(k l:κ),ks[j]?=some k->ls[j]?=some l->∀(x y:V)(u v:aC),R x k->R y l->RelV x u->RelV y v->EqAt A.in1 s u v (decide (k=l))):EqAt A s (.ref a) (.ref b) (decide (ks=ls)):=by
 obtain⟨its,r1,p1,_⟩:=I.tuple ha;obtain⟨AH,r2,p2,_⟩:=I.tuple hb;have z1:its.toArray.size=ks.length:=(by rw[aO,<-r1.length,Paired.length h1]);have z2:AH.toArray.size=ls.length:=(by rw[aO,<-r2.length,Paired.length h2]);by_cases BR:a=b
 ·subst BR;have e:=I.tuple_inj ha hb;rw[decide_eq_true (fn e)];exact AE _
 ·have q:=RcAt.tuples (s:=s) (A:=A) (show s.heap.IsTuple a its.toArray from p1) (show s.heap.IsTuple b AH.toArray from p2) hu (C6 h1 h2 r1 r2 el);rw[z1,z2,zp]at q;exact yM BR q
def rNeK (K:aB){κ:Type}[DecidableEq κ](R:Hp->V->κ->Prop)(b:Bool):R2:=λx y H Q=>∃l r xs ys ks ls,x=.ref l/\y=.ref r/\SqL K H l xs/\SqL K H r ys/\Paired (R H) xs ks/\Paired (R H) ys ls/\Q (.bl (if b then decide (ks=ls)else !decide (ks=ls))) H
theorem O6 {κ:Type}[DecidableEq κ]{R:Hp->V->κ->Prop}(hu:X.A.units+64 < jH)
  (el:∀(f':List (Addr×Obj))(s:aG) (σ:St) (H:Hp),Inv X f' σ H s->∀(k l:κ)(x y:V) (u v:aC),R H x k->R H y l->RelV x u->RelV y v->EqAt X.A.in1 s u v (decide (k=l))):OpR X (jX .NotEq) (rNeK X.K R false):=by
 intro f' s σ H x y v u Q I rx ry h;obtain⟨a,b,xs,ys,ks,ls,rfl,rfl,ha,hb,h1,h2,q⟩:=h;cases rx;cases ry;obtain⟨its,r1,p1,_⟩:=I.list ha;obtain⟨AH,r2,p2,_⟩:=I.list hb;have z1:its.toArray.size=ks.length:=(by rw[aO,<-r1.length,Paired.length h1]);have z2:AH.toArray.size=ls.length:=(by rw[aO,<-r2.length,Paired.length h2]);have AK:∀c:Bool,c=!decide (ks=ls)->EP X f' σ Q (.bool c) s:=λc e=>by
  subst e;exact⟨.bl _,H,I,rfl,q⟩
 by_cases hn:ks.length=ls.length
 ·have e:its.toArray.size=AH.toArray.size:=(by rw[z1,z2,hn]);have qn:=SeqAt.RcNeAt.lists (s:=s) (A:=X.A) p1.isList p2.isList e (by lia) (C6 h1 h2 r1 r2 λj k l _ _ x y u v=>el f' s σ H I k l x y u v);refine qn _ _ _ _ (AK _ ?_);rw[z1,<-zp ks ls,hn,yY];simp
 ·have e:(its.toArray.size != AH.toArray.size)=true:=by
   rw[z1,z2];simpa using hn
  refine SeqAt.RcNeAt.lists_lengths (A:=X.A) (s:=s) p1.isList p2.isList e (by lia) _ _ _ _ (AK _ ?_);rw[decide_eq_false (λz=>hn (by rw[z]))];rfl
end
end L2
namespace S63
open PySem L2 Bits S1 Fly
def cel:Option Int->V
 |none=>.non
 |some i=>.int i
theorem zq (c:Option Int):kh (cel c)=true:=by cases c<;>rfl
def xf (p:List (Option Int)):Da:=.tup (p.map λc=>.flat (cel c))
structure Row where
 m:List (Option Int)
 ds:List (List (Option Int))
def u7 (r:Row):Da:=.tup [xf r.m,.tup (r.ds.map xf)]
structure RowOk (n:Nat)(r:Row):Prop where
 ml:r.m.length=n
 dl:r.ds.length<=36
 dm:∀d∈r.ds,d.length=n
theorem zt (p:List (Option Int)):(xf p).fix=true:=by
 unfold xf;rw[Da.fix];exact d8 (λ_=>by rw[Da.fix]) p
theorem Gn (r:Row):(u7 r).fix=true:=by
 unfold u7;rw[Da.fix,fixL,fixL,fixL,zt,Da.fix,d8 zt];rfl
theorem yi {K:aB}{H:Hp}:∀(p:List (Option Int)),Holds K H (p.map cel) (p.map λc=>.flat (cel c))
 | []=>.nil
 |c::p=>.cons (.flat (zq c)) (yi p)
theorem Gp {K:aB}{H:Hp}:∀{xs:List V}{p:List (Option Int)},Holds K H xs (p.map λc=>.flat (cel c))->xs=p.map cel
 | [],[],_=>rfl
 | [],_::_,h=>by cases h
 |_::_,[],h=>by cases h
 |x::xs,c::p,h=>by
  cases h with
  |cons h1 r1=>
   cases h1.flatI;rw[Gp r1];rfl
theorem m7 {K:aB}{H:Hp}{x:V}{p:List (Option Int)}(h:Hold K H x (xf p)):∃a,x=.ref a/\SqT K H a (p.map cel):=by
 obtain⟨a,xs,rfl,ha,hx⟩:=Hold.tupI h;rw[Gp hx]at ha;exact⟨a,rfl,ha⟩
theorem Gq {K:aB}{H:Hp}{a:Addr}{p:List (Option Int)}(h:SqT K H a (p.map cel)):Hold K H (.ref a) (xf p):=.tup h (yi p)
theorem zu {K:aB}{H:Hp}{x:V}{l:List Int}(h:Hold K H x (jq l)):∃a,x=.ref a/\SqT K H a (l.map V.int):=by
 obtain⟨a,xs,rfl,ha,hx⟩:=Hold.tupI h;rw[hx.ints]at ha;exact⟨a,rfl,ha⟩
theorem O7 {K:aB}{H:Hp}{a:Addr}{l:List Int}(h:SqT K H a (l.map V.int)):Hold K H (.ref a) (jq l):=.tup h (oy l)
def put (l:List Int)(p:List (Option Int)):List Int:=(l.zip p).map λx=>x.2.getD x.1
theorem Ji {l:List Int}{p:List (Option Int)}(h:l.length=p.length):(put l p).length=l.length:=by
 unfold put;rw[aJ,List.length_zip,h,yY]
def Lr (K:aB):Sp:=λvs H Q _=>∃(a b:Addr)(l:List Int) (p:List (Option Int)),vs=[.ref a,.ref b]/\SqT K H a (l.map V.int)/\SqT K H b (p.map cel)/\l.length=p.length/\l.length<=100/\
 ∀(r:Addr)(H':Hp),Same H H'->H r=none->H' r=some (.tup ((put l p).map V.int))->Q (.ref r) H'
def Jj (K:aB):Sp:=λvs H Q _=>∃(a b:Addr)(l:List Int) (p:List (Option Int)),vs=[.ref b,.ref a]/\SqT K H a (l.map V.int)/\SqT K H b (p.map cel)/\l.length=p.length/\l.length<=100/\
 ∀(H':Hp),Same H H'->Q (.bl (decide (put l p=l))) H'
def Ue:gQ:={ kind:=.function,names:=[(".0",.local),("own",.local),("value",.local)],isGenerator:=false,isCoroutine:=false,more:=[] }
section
variable {P:aU}{w:aZ}{K:aB}{mg:Str->Option aC}{base:Heap}
theorem cTp_ {X:Cx}:cp X ["own","value"] [] [] Ue []:=ip rfl (by decide +kernel) (by decide +kernel) (by decide +kernel)
theorem scTk:aw zzf zzf (aj Qh):=fsN
theorem Yz {f:Addr}{fd:bQ}(F:Fun K "with_put" "with_put" Qh f fd)(mt:mg "tuple"=none)(mz:mg "zip"=none):‹1› f fd zzf (Lr K):=by
 exists F,scTk
 ·obtain⟨a,b,l,p,rfl,_⟩:=h;rfl
 obtain⟨a,b,l,p,rfl,ha,hb,AG,DX,q⟩:=h;refine⟨_,ak (az (n9 jx rfl mt (by kernel_rfl) (aa (dz (ns:=["own","value"]) (ys:=[]) (sc:=Ue) cTp_ rfl (M4 rfl mz (aa (pv 0) (aa (pv 1) ag))) (λC s H fp=>pg2 rfl) (λC s H fp=>cz) (λC s H fp=>pf (L8 (W8 (pv 1))) (pv 0) (pv 1))) ag))),?_⟩;dsimp only[bh,Cx.nox];refine⟨_,rfl,_,rfl,a,b,_,_,rfl,ha,hb,λD hD=>?_⟩;have pl:=Ji AG;refine F0 (K:=K) (a:=a) (b:=b) (xs:=l.map V.int) (ws:=p.map cel) (by simpa using AG) (λi ys G=>Same H G/\G D=some (.lst ys)/\ys=((put l p).take i).map V.int) ⟨ae hD _,af,rfl⟩ (λi ys G z=>z.2.1) (λi ys G _ z=>⟨ha.same z.1,hb.same z.1⟩) ?_ ?_ ?_
 ·intro i x y t ys G hx hy AC ht;obtain⟨sG,gD,rfl⟩:=AC;rw[cQ]at hx hy;obtain⟨o,eo,rfl⟩:=gY.mp hx;obtain⟨c,ec,rfl⟩:=gY.mp hy;have MO:H D=none:=hD;have ep:(put l p)[i]?=some (c.getD o):=by
   unfold put;rw[cQ,(qS (z:=(o,c))).mpr ⟨eo,ec⟩];rfl
  have Dt:D≠t:=aq gD ht;have JS:H t=none:=Same.free sG ht;refine⟨bj (by rw[aJ,cK];lia),t,_,rfl,SqT.of af,rfl,_,_,rfl,_,_,rfl,rfl,⟨[some _,some _],rfl,rfl⟩,?_⟩;refine⟨_,rfl,_,rfl,?_⟩;have AK:∀v:V,v=.int (c.getD o)->upd G t (.tup [.int o,cel c]) D=some (.lst (((put l p).take i).map V.int))/\Same H (upd (upd G t (.tup [.int o,cel c])) D (.lst (((put l p).take i).map V.int++[v])))/\
    upd (upd G t (.tup [.int o,cel c])) D (.lst (((put l p).take i).map V.int++[v])) D=some (.lst (((put l p).take i).map V.int++[v]))/\((put l p).take i).map V.int++[v]=((put l p).take (i+1)).map V.int:=λv ev=>by
   refine⟨by rw[ao Dt];exact gD,Same.put (Same.put sG JS _) MO _,af,?_⟩;rw[eX,ep,ev];simp
  cases c with
  |none=>exact iz ⟨_,rfl,AK _ rfl⟩
  |some i=>exact dh ⟨_,rfl,AK _ rfl⟩
 ·intro i ys G hi AC;obtain⟨sG,gD,rfl⟩:=AC;exact bj (by rw[aJ,cK];lia)
 ·intro ys G AC;obtain⟨sG,gD,rfl⟩:=AC;refine⟨D,_,rfl,.inl ⟨SqL.of gD,λr CT=>q r _ (Same.trans sG (ae CT _)) (Same.free sG CT) ?_⟩⟩;rw[af,aJ,<-pl,gN]
theorem scTm:aw zz4 zz4 (aj E3):=fsN
theorem R9 {f g:Addr}{fd gd:bQ}(F:Fun K "matches" "matches" E3 f fd)(G:‹1› g gd zzf (Lr K))(bG:Binds K gd zzf [])(kG:aR K (.ref g)=true)
  (mG:mg "with_put"=some (.ref g)):‹2› f fd zz4 (Jj K):=by
 exists F,scTm
 ·obtain⟨a,b,l,p,rfl,_⟩:=h;rfl
 obtain⟨a,b,l,p,rfl,ha,hb,AG,DX,q⟩:=h;refine⟨_,ak (az (iy (Wd (nC (qA _ _) hr.units)) (ar G hr rfl mG kG bG .nil bb (aa (pv 1) (aa (pv 0) ag))) (pv 1) (bw _))),?_⟩;dsimp only[bh,Cx.nox];refine⟨_,rfl,_,rfl,a,b,l,p,rfl,ha,hb,AG,DX,λr G1 s1 BE g1=>⟨_,rfl,r,a,_,_,rfl,rfl,SqT.of g1,ha.same s1,q G1 s1⟩⟩
end
open PySem.TupSet
def due (l:List Int):List Row->List (List Int)
 | []=>[]
 |r::t=>if put l r.m=l then TupG.srtG (r.ds.map (put l))else due l t
theorem Cd {K:aB}{H:Hp}:∀{ys:List V}{L:List (List Int)},Holds K H ys (L.map jq)->TupsV K H ys L
 | [],[],_=>.nil
 | [],_::_,h=>by cases h
 |_::_,[],h=>by cases h
 |y::ys,l::L,h=>by
  cases h with
  |cons h1 r1=>
   obtain⟨a,rfl,ha⟩:=zu h1;exact .cons ⟨a,rfl,ha⟩ (Cd r1)
theorem Gr {K:aB}{H:Hp}:∀{ys:List V}{L:List (List Int)},TupsV K H ys L->Holds K H ys (L.map jq)
 |_,_,.nil=>.nil
 |_,_,.cons h r=>by
  obtain⟨a,rfl,ha⟩:=h;exact .cons (O7 ha) (Gr r)
def TabAt (K:aB)(H:Hp)(t:Addr)(T:List Row):Prop:=∃xs,SqL K H t xs/\Holds K H xs (T.map u7)
theorem TabAt.same {K:aB}{H H':Hp}{t:Addr}{T:List Row}(h:TabAt K H t T)(e:Same H H'):TabAt K H' t T:=by
 obtain⟨xs,h1,h2⟩:=h;exact⟨xs,e.seq h1,h2.mono e⟩
def Y0 (K:aB):Sp:=λvs H Q _=>∃(t a:Addr)(l:List Int) (T:List Row),vs=[.ref t,.ref a]/\TabAt K H t T/\SqT K H a (l.map V.int)/\(∀r∈T,RowOk l.length r)/\1<=l.length/\l.length<=100/\
 ∀(r:Addr)(H':Hp),Same H H'->H r=none->LetAt K H' r (due l T)->Q (.ref r) H'
def Ug:gQ:={ kind:=.function,names:=[(".0",.local),("deed",.local),("with_put",.globalImplicit),("letter",.free)],isGenerator:=false,isCoroutine:=false,more:=[] }
abbrev nTB:List Str:=["table","letter","row"]
section
variable {P:aU}{w:aZ}{K:aB}{mg:Str->Option aC}{base:Heap}
theorem Y1:aw nTB zys (aj sBy):=fsN
theorem cTB {CX:CXT}{f:Addr}{AF:aC}{A:cC}{outer:List Env}{s:aG}{H:Hp}{E:XK} :
  cp (bh CX P w K mg base nTB "by_table" (aj sBy) f AF A outer s H E).nox ["deed"] zz1 [1] Ug [("letter",s.heap.objs.size+1)]:=csN [(".0",.local),("deed",.local),("with_put",.globalImplicit),("letter",.cell)]
theorem ok_by {f fM fP:Addr}{fd dM dP:bQ}(F:Fun K "by_table" "by_table" sBy f fd)
  (GM:‹2› fM dM zz4 (Jj K)) (bM:Binds K dM zz4 []) (kM:aR K (.ref fM)=true) (mM:mg "matches"=some (.ref fM))
  (GP:‹1› fP dP zzf (Lr K)) (bP:Binds K dP zzf []) (kP:aR K (.ref fP)=true) (mP:mg "with_put"=some (.ref fP))
  (ms:mg "sorted"=none) (mt:mg "set"=none):‹3› f fd zys (Y0 K):=by
 exists F,Y1
 ·obtain⟨t,a,l,T,rfl,_⟩:=h;rfl
 obtain⟨t,a,l,T,rfl,⟨xs,ht,hd⟩,ha,hok,l1,JY,q⟩:=h;refine⟨_,ai (fh fX rfl (c7 (pv 0)) (bo (i:=2) Y1.nd rfl (cD rfl)) (ak (de (nq (ar GM hr rfl mM kM bM .nil bb (aa (av cq (pv 2) ah (λ_ _=>rfl)) (aa (pv 1) ag)))) (ak (az (Wm rfl (hu8 hr) rfl ms (by kernel_rfl) rfl mt (by kernel_rfl) (dz (ns:=["deed"]) (ys:=zz1) (sc:=Ug) cTB rfl (Aa (av cq (pv 2) ah (λ_ _=>rfl))) (λC s H fp=>bo (i:=0) (by show(["deed","letter"]:List Str).Nodup;decide +kernel) rfl (cD rfl)) (λC s H fp=>cz) (λC s H fp=>ar GP (hr.mono (by decide)) rfl mP kP bP .nil bb (aa (pv 1) (aa (pv 0) ag))))))) cf))) (ak (az (bc ag))),?_⟩;dsimp only[bh,Cx.nox];have lx:xs.length=T.length:=(by rw[hd.length,aJ]);refine⟨_,rfl,t,rfl,⟨_,ht⟩,i7 (K:=K) (a:=t) (xs:=xs) (λi σ G=>∃v:Option V,σ=[some (.ref t),some (.ref a),v]/\Same H G/\due l (T.drop i)=due l T) ⟨none,rfl,Same.refl _,rfl⟩ (λi σ G _ AD=>by obtain⟨_,_,sG,_⟩:=AD;exact sG.seq ht) ?_ ?_⟩
 ·intro i x σ G hx AC;obtain⟨v,rfl,sG,eD⟩:=AC;generalize AJ:gg.mk _ _ _ _=BG;revert AJ BG;refine id ?_;intro BG AJ;obtain⟨r,er,CF⟩:=hd.getm hx;have rk:=hok r (bV er);have hi:i < T.length:=(aM.mp er).1;obtain⟨b,ys,rfl,hb,BO⟩:=Hold.tupI (Hold.mono sG CF);cases BO with
  |cons h1 r1=>
   cases r1 with
   |cons h2 r2=>
    cases r2;obtain⟨m,rfl,hm⟩:=m7 h1;obtain⟨dd,zs,rfl,SE,CV⟩:=Hold.tupI h2;have eT:T.drop i=r::T.drop (i+1):=by
     rw[iY hi];rw[aK hi]at er;rw[cZ er]
    rw[eT,due]at eD;refine⟨_,rfl,b,_,_,_,rfl,rfl,hb,rfl,_,rfl,a,m,l,r.m,rfl,ha.same sG,hm,rk.ml.symm,JY,λG1 s1=>⟨_,rfl,?_⟩⟩;have SG:=Same.trans sG s1;refine fb (λc=>?_) (λc=>?_)
    ·have c':put l r.m=l:=of_decide_eq_true c;rw[if_pos c']at eD;refine⟨_,rfl,b,_,_,_,rfl,rfl,hb.same s1,rfl,dd,rfl,⟨_,SE.same s1⟩,λD hD=>?_⟩;have lz:zs.length=r.ds.length:=(by rw[CV.length,aJ]);refine Ed (K:=K) (a:=dd) (xs:=zs) (λj us G2=>Same G1 G2/\G2 D=some (.lst us)/\Holds K G2 us (((r.ds.take j).map (put l)).map jq)) ⟨ae hD _,af,.nil⟩ (λj us G2 z=>z.2.1) (λj us G2 _ z=>(SE.same s1).same z.1) ?_ ?_
     ·intro j y us G2 hy AC;obtain⟨s2,d2,k2⟩:=AC;obtain⟨p,ep,hp⟩:=CV.getm hy;have pk:=rk.dm p (bV ep);obtain⟨pa,rfl,hpa⟩:=m7 (Hold.mono (Same.trans s1 s2) hp);have jl:j < r.ds.length:=(aM.mp ep).1;have ul:us.length<=36:=by
       rw[k2.length,aJ,aJ,cK];have:=rk.dl;lia
      refine⟨bj (by lia),⟨[some _],rfl,rfl⟩,?_⟩;refine⟨_,rfl,_,rfl,a,pa,l,p,rfl,ha.same (Same.trans SG s2),hpa,pk.symm,JY,λu G3 s3 hu g3=>?_⟩;have d3:G3 D=some (.lst us):=s3 _ _ d2;refine⟨d3,Same.put (Same.trans s2 s3) hD _,af,?_⟩;rw[eX,ep,cU,cU];refine Holds.append (Holds.stay ((Tups.of s3).trans (Tups.put d3 _)) (d8 jz _) k2) (.one (O7 (SqT.of ?_)));rw[ao (ou g3 d3 (by intro z;cases z))];exact g3
     ·intro us G2 AC;obtain⟨s2,d2,k2⟩:=AC;rw[lz,gN]at k2;refine⟨D,us,r.ds.map (put l),rfl,SqL.of d2,Cd k2,(by rw[aJ];have:=rk.dl;lia),λx hx=>?_,λd RQ CD EH=>?_⟩
      ·obtain⟨p,hp,rfl⟩:=jN.mp hx;have z:=Ji (l:=l) (p:=p) (rk.dm p hp).symm;intro e;rw[e]at z;simp at z;lia
      ·have sA:=Same.trans SG s2;subst AJ;refine q d _ (Same.trans sA (ae CD _)) (Same.free sA CD) ⟨RQ,af,?_⟩;rw[<-eD];exact(Gr EH).mono (ae CD _)
    ·have c':put l r.m≠l:=of_decide_eq_false (by simpa using c);rw[if_neg c']at eD;subst AJ;exact⟨_,rfl,SG,eD⟩
 ·intro σ G AC;obtain⟨v,rfl,sG,eD⟩:=AC;rw[lx,pW]at eD;refine⟨sz0,λr CT=>q r _ (Same.trans sG (ae CT _)) (Same.free sG CT) ⟨[],af,?_⟩⟩;rw[<-eD];exact .nil
end
def jc (l m:List Int):List (Option Int):=(m.zip l).map λx=>if x.1=x.2 then none else some x.1
theorem Gs {l m:List Int}(h:m.length=l.length):(jc l m).length=l.length:=by
 unfold jc;rw[aJ,List.length_zip,h,yY]
theorem Wn {l m:List Int}{i:Nat}{o c:Int}(h1:m[i]?=some c)(h2:l[i]?=some o):(jc l m)[i]?=some (if c=o then none else some c):=by
 unfold jc;rw[cQ,(qS (z:=(c,o))).mpr ⟨h1,h2⟩];rfl
def O8 (K:aB):Sp:=λvs H Q _=>∃(a b:Addr)(l m:List Int),vs=[.ref a,.ref b]/\SqT K H a (l.map V.int)/\SqT K H b (m.map V.int)/\m.length=l.length/\l.length<=100/\
 ∀(r:Addr)(H':Hp),Same H H'->H' r=some (.tup ((jc l m).map cel))->Q (.ref r) H'
def Dx (l:List Int)(ls:List (List Int)):Row:=⟨l.map some,ls.map (jc l)⟩
def O9 (K:aB):Sp:=λvs H Q _=>∃(a e:Addr)(l:List Int) (ls:List (List Int)),vs=[.ref a,.ref e]/\SqT K H a (l.map V.int)/\LetAt K H e ls/\(∀m∈ls,m.length=l.length)/\l.length<=100/\ls.length<=36/\
 ∀(r:Addr)(H':Hp),Same H H'->Hold K H' (.ref r) (u7 (Dx l ls))->Q (.ref r) H'
def wid (r:Row)(i:Nat):Row:=⟨r.m.set i none,r.ds⟩
def Jk (K:aB):Sp:=λvs H Q _=>∃(a:Addr)(i:Nat) (r:Row),vs=[.ref a,.int (i:Int)]/\Hold K H (.ref a) (u7 r)/\i < r.m.length/\r.m.length<=100/\
 ∀(p:Addr)(H':Hp),Same H H'->Hold K H' (.ref p) (u7 (wid r i))->Q (.ref p) H'
theorem Gu (xs:List V)(i:Nat)(h:i<=xs.length):d7 xs none (some (i:Int))=xs.take i:=by
 unfold d7;rw[HT.sIx_nat,HT.sIx_none,Nat.min_eq_left h,rO,wF]
theorem Gv (xs:List V)(i:Nat)(h:i < xs.length):d7 xs (some ((i:Int)+1)) none=xs.drop (i+1):=by
 unfold d7;rw[show((i:Int)+1)=((i+1:Nat):Int)from by lia,HT.sIx_nat,HT.sIx_none,Nat.min_eq_left (show i+1<=xs.length from h),lH (by rw[gZ];exact aN _)]
theorem Jl (xs:List V)(i:Nat)(v:V)(h:i < xs.length):xs.set i v=xs.take i++v::xs.drop (i+1):=nY .. |>.trans (if_pos h)
theorem Wo {K:aB}{σ:L2.St}{G:Hp}{Q:VK}{a:Addr}{xs:List V}{i:Nat}{v:V}{t1 t2 ti SH tn:TE}(hi:i < xs.length)(hl:xs.length<=100)(ha:SqT K G a xs)
  (h1:∀(G':Hp)(Q':VK),Same G G'->Q' (.ref a) G'->t1 σ G' Q') (h2:∀(G':Hp)(Q':VK),Same G G'->Q' (.ref a) G'->t2 σ G' Q') (h3:∀(G':Hp)(Q':VK),Q' (.int (i:Int)) G'->ti σ G' Q') (h4:∀(G':Hp)(Q':VK),Q' (.int ((i:Int)+1)) G'->SH σ G' Q') (h5:∀(G':Hp)(Q':VK),Q' v G'->tn σ G' Q')
  (q:∀p G',Same G G'->G' p=some (.tup (xs.set i v))->Q (.ref p) G') :
  tOp (λx y H Q=>jf K x y H Q\/g0 K x y H Q) (tOp (λx y H Q=>jf K x y H Q\/g0 K x y H Q) (tSl (pq K) t1 lq (ub ti)) (Py (xn tn Px))) (tSl (pq K) t2 (ub SH) lq) σ G Q:=by
 have e1:=Gu xs i (lF hi);have e2:=Gv xs i hi;have AK:∀p G',Same G G'->G' p=some (.tup (xs.take i++[v]))->tSl (pq K) t2 (ub SH) lq σ G' λy H2=>jf K (.ref p) y H2 Q\/g0 K (.ref p) y H2 Q:=by
  intro p G' sG hp;refine h2 _ _ sG (h4 _ _ ⟨_,rfl,a,_,rfl,ha.same sG,?_,λp2 f2=>?_⟩)
  ·rw[show((i:Int)+1)=((i+1:Nat):Int)from by lia,HT.sIx_nat];lia
  ·rw[e2];have pp:p≠p2:=aq hp f2;have BC:upd G' p2 (.tup (xs.drop (i+1))) p=some (.tup (xs.take i++[v])):=(by rw[ao pp];exact hp);have FJ:Same G (upd G' p2 (.tup (xs.drop (i+1)))):=Same.trans sG (ae f2 _);refine .inl ⟨p,p2,_,_,rfl,rfl,SqT.of BC,SqT.of af,by simp,small (by simp;lia),λe=>?_,λ_ p3 f3=>?_⟩
   ·refine q p _ FJ ?_;rw[BC,Jl xs i v hi,e]
   ·refine q p3 _ (Same.trans FJ (ae f3 _)) ?_;rw[af,Jl xs i v hi];simp
 refine h1 _ _ (Same.refl _) (h3 _ _ ⟨_,rfl,a,_,rfl,ha,?_,λp1 f1=>?_⟩)
 ·rw[HT.sIx_nat];lia
 rw[e1];refine h5 _ _ ⟨sz1,λp2 f2=>?_⟩;have RC:p1≠p2:=λe=>(by rw[e,af]at f2;cases f2);have DM:upd (upd G p1 (.tup (xs.take i))) p2 (.tup [v]) p1=some (.tup (xs.take i)):=(by rw[ao RC,af]);have FJ:Same G (upd (upd G p1 (.tup (xs.take i))) p2 (.tup [v])):=Same.trans (ae f1 _) (ae f2 _);by_cases i0:i=0
 ·refine .inr ⟨p1,p2,[v],rfl,rfl,SqT.of (by rw[DM,i0];rfl),SqT.of af,AK p2 _ FJ ?_⟩;rw[af,i0];rfl
 ·refine .inl ⟨p1,p2,_,_,rfl,rfl,SqT.of DM,SqT.of af,?_,small (by simp;lia),(λe=>by cases e),λ_ p3 f3=>AK p3 _ (Same.trans FJ (ae f3 _)) ?_⟩
  ·intro z;have:=congrArg zB z;rw[cK,oX]at this;lia
  ·rw[af]
def Uh:gQ:={ kind:=.function,names:=[(".0",.local),("value",.local),("own",.local)],isGenerator:=false,isCoroutine:=false,more:=[] }
def Ui:gQ:={ kind:=.function,names:=[(".0",.local),("end",.local),("deed_for",.globalImplicit),("letter",.free)],isGenerator:=false,isCoroutine:=false,more:=[] }
section
variable {P:aU}{w:aZ}{K:aB}{mg:Str->Option aC}{base:Heap}
theorem cTd_ {X:Cx}:cp X ["value","own"] [] [] Uh []:=ip rfl (by decide +kernel) (by decide +kernel) (by decide +kernel)
theorem scTd:aw zyv zyv (aj E4):=fsN
theorem Wp {f:Addr}{fd:bQ}(F:Fun K "deed_for" "deed_for" E4 f fd)(mt:mg "tuple"=none)(mz:mg "zip"=none):‹1› f fd zyv (O8 K):=by
 exists F,scTd
 ·obtain⟨a,b,l,m,rfl,_⟩:=h;rfl
 obtain⟨a,b,l,m,rfl,ha,hb,AG,DX,q⟩:=h;refine⟨_,ak (az (n9 jx rfl mt (by kernel_rfl) (aa (dz (ns:=["value","own"]) (ys:=[]) (sc:=Uh) cTd_ rfl (M4 rfl mz (aa (pv 1) (aa (pv 0) ag))) (λC s H fp=>pg2 rfl) (λC s H fp=>cz) (λC s H fp=>pf (bx e9 (pv 0) (pv 1) (bw _)) vg (pv 0))) ag))),?_⟩;dsimp only[bh,Cx.nox];refine⟨_,rfl,_,rfl,b,a,_,_,rfl,hb,ha,λD hD=>?_⟩;have dl:=Gs AG;refine F0 (K:=K) (a:=b) (b:=a) (xs:=m.map V.int) (ws:=l.map V.int) (by simpa using AG) (λi ys G=>Same H G/\G D=some (.lst ys)/\ys=((jc l m).take i).map cel) ⟨ae hD _,af,rfl⟩ (λi ys G z=>z.2.1) (λi ys G _ z=>⟨hb.same z.1,ha.same z.1⟩) ?_ ?_ ?_
 ·intro i x y t ys G hx hy AC ht;obtain⟨sG,gD,rfl⟩:=AC;rw[cQ]at hx hy;obtain⟨c,ec,rfl⟩:=gY.mp hx;obtain⟨o,eo,rfl⟩:=gY.mp hy;have ep:=Wn ec eo;have Dt:D≠t:=aq gD ht;have JS:H t=none:=Same.free sG ht;refine⟨bj (by rw[aJ,cK];lia),t,_,rfl,SqT.of af,rfl,_,_,rfl,_,_,rfl,rfl,⟨[some _,some _],rfl,rfl⟩,?_⟩;have AK:∀v:V,v=cel (if c=o then none else some c)->upd G t (.tup [.int c,.int o]) D=some (.lst (((jc l m).take i).map cel))/\Same H (upd (upd G t (.tup [.int c,.int o])) D (.lst (((jc l m).take i).map cel++[v])))/\
    upd (upd G t (.tup [.int c,.int o])) D (.lst (((jc l m).take i).map cel++[v])) D=some (.lst (((jc l m).take i).map cel++[v]))/\((jc l m).take i).map cel++[v]=((jc l m).take (i+1)).map cel:=λv ev=>by
   refine⟨by rw[ao Dt];exact gD,Same.put (Same.put sG JS _) hD _,af,?_⟩;rw[eX,ep,ev];simp
  refine⟨_,rfl,_,rfl,rfl,_,rfl,?_⟩;refine fb (λcc=>?_) (λcc=>?_)
  ·have e:c=o:=(by have z:=of_decide_eq_true cc;injection z);exact AK .non (by rw[if_pos e];rfl)
  ·have e:c≠o:=λz=>cc (decide_eq_true (by rw[z]));exact⟨_,rfl,AK (.int c) (by rw[if_neg e];rfl)⟩
 ·intro i ys G hi AC;obtain⟨sG,gD,rfl⟩:=AC;exact bj (by rw[aJ,cK];lia)
 ·intro ys G AC;obtain⟨sG,gD,rfl⟩:=AC;refine⟨D,_,rfl,.inl ⟨SqL.of gD,λr CT=>q r _ (Same.trans sG (ae CT _)) ?_⟩⟩;rw[af,aJ,AG,<-dl,gN]
theorem scTr:aw zzg zzg (aj Dl):=fsN
theorem cTr_ {CX:CXT}{f:Addr}{AF:aC}{A:cC}{outer:List Env}{s:aG}{H:Hp}{E:XK} :
  cp (bh CX P w K mg base zzg "row_for" (aj Dl) f AF A outer s H E).nox ["end"] zz1 [0] Ui [("letter",s.heap.objs.size+1)]:=csN [(".0",.local),("end",.local),("deed_for",.globalImplicit),("letter",.cell)]
theorem Wq {f fD:Addr}{fd dD:bQ}(F:Fun K "row_for" "row_for" Dl f fd)(GD:‹1› fD dD zyv (O8 K))(bD:Binds K dD zyv [])(kD:aR K (.ref fD)=true)(mD:mg "deed_for"=some (.ref fD))(mt:mg "tuple"=none) :
  ‹2› f fd zzg (O9 K):=by
 exists F,scTr
 ·obtain⟨a,e,l,ls,rfl,_⟩:=h;rfl
 obtain⟨a,e,l,ls,rfl,ha,⟨xs,ge,GK⟩,hw,DX,MS,q⟩:=h;refine⟨_,ak (az (cb (aa (pv 0) (aa (n9 jx rfl mt (by kernel_rfl) (aa (dz (ns:=["end"]) (ys:=zz1) (sc:=Ui) cTr_ rfl (c7 (pv 1)) (λC s H fp=>bo (i:=0) (by show(["end","letter"]:List Str).Nodup;decide +kernel) rfl (cD rfl)) (λC s H fp=>cz) (λC s H fp=>ar GD hr rfl mD kD bD .nil bb (aa (pv 1) (aa (pv 0) ag)))) ag)) ag)))),?_⟩;dsimp only[bh,Cx.nox];have xl:xs.length=ls.length:=(by rw[GK.length,aJ]);refine⟨_,rfl,_,rfl,e,rfl,⟨_,SqL.of ge⟩,λD hD=>?_⟩;refine dy (K:=K) (a:=e) (xs:=xs) (λi ys G=>Same H G/\G D=some (.lst ys)/\Holds K G ys ((ls.take i).map λm=>xf (jc l m))) ⟨ae hD _,af,.nil⟩ (λi ys G z=>z.2.1) (λi ys G _ z=>SqL.of (z.1 _ _ ge)) ?_ ?_
 ·intro i x ys G hx AC;obtain⟨sG,gD,BO⟩:=AC;obtain⟨m,em,hm⟩:=GK.getm hx;obtain⟨ma,rfl,SI⟩:=zu (hm.mono sG);have yl:ys.length<=36:=(by rw[BO.length,aJ,cK];lia);refine⟨bj (by lia),⟨[some _],rfl,rfl⟩,?_⟩;refine⟨_,rfl,_,rfl,a,ma,l,m,rfl,ha.same sG,SI,hw m (bV em),DX,λu G3 s3 g3=>?_⟩;have d3:G3 D=some (.lst ys):=s3 _ _ gD;refine⟨d3,Same.put (Same.trans sG s3) hD _,af,?_⟩;rw[eX,em,cU];refine Holds.append (Holds.stay ((Tups.of s3).trans (Tups.put d3 _)) (d8 (λm=>zt (jc l m)) _) BO) (.one (Gq (SqT.of ?_)));rw[ao (ou g3 d3 (by intro z;cases z))];exact g3
 ·intro ys G AC;obtain⟨sG,gD,BO⟩:=AC;rw[xl,gN]at BO;have yl:ys.length=ls.length:=(by rw[BO.length,aJ]);refine⟨D,ys,rfl,.inl ⟨SqL.of gD,λt ht=>⟨sz2,λp hp=>?_⟩⟩⟩;have s1:=ae ht (.tup ys);have s2:=ae hp (.tup [.ref a,.ref t]);have sA:=Same.trans sG (Same.trans s1 s2);refine q p _ sA (.tup (xs:=[.ref a,.ref t]) (SqT.of af) (.cons ?_ (.cons (.tup (xs:=ys) (SqT.of (s2 _ _ af)) ?_) .nil)))
  ·refine Gq (p:=l.map some) ?_;rw[oF];exact ha.same sA
  ·show Holds K _ ys ((ls.map (jc l)).map xf);rw[oF];exact BO.mono (Same.trans s1 s2)
theorem scTx:aw zyr zyr (aj Bz):=fsN
theorem Sa {f:Addr}{fd:bQ}(F:Fun K "wider_row" "wider_row" Bz f fd):‹1› f fd zyr (Jk K):=by
 exists F,scTx
 ·obtain⟨a,i,r,rfl,_⟩:=h;rfl
 obtain⟨a,i,r,rfl,CF,hi,DX,q⟩:=h;refine⟨_,ak (az (cb (aa (ba (r:=λx y H Q=>jf K x y H Q\/g0 K x y H Q) pw (ba (r:=λx y H Q=>jf K x y H Q\/g0 K x y H Q) pw (cn (r:=pq K) vm (av cq (pv 0) ah (λ_ _=>rfl)) cy (cv (pv 1))) (cb (bq vg ag))) (cn (r:=pq K) vm (av cq (pv 0) ah (λ_ _=>rfl)) (cv (ba gy (pv 1) ah)) cy)) (aa (av cq (pv 0) ah (λ_ _=>rfl)) ag)))),?_⟩;dsimp only[bh,Cx.nox];obtain⟨a',ys,ea,ha,BO⟩:=Hold.tupI CF;cases ea;cases BO with
 |cons h1 r1=>
  cases r1 with
  |cons h2 r2=>
   cases r2;obtain⟨ma,rfl,hm⟩:=m7 h1;obtain⟨dd,_,rfl,_,_⟩:=Hold.tupI (id h2);have ml:(r.m.map cel).length=r.m.length:=aJ ..;have rd:∀(G':Hp)(Q':VK),Same H G'->Q' (.ref ma) G'->tOp (D7 K) (qq 0) (tC (.int 0)) [some (.ref a),some (.int (i:Int))] G' Q':=λG' Q' sG hq=>⟨_,rfl,a,_,_,_,rfl,rfl,ha.same sG,rfl,hq⟩;refine Wo (K:=K) (v:=.non) (by rw[ml];exact hi) (by rw[ml];exact DX) hm rd rd (λG' Q' hq=>⟨_,rfl,hq⟩) (λG' Q' hq=>⟨_,rfl,_,_,rfl,rfl,hq⟩) (λG' Q' hq=>hq) λp G' sG gp=>?_;refine⟨_,rfl,a,_,_,_,rfl,rfl,ha.same sG,rfl,sz2,λp2 BC=>?_⟩;have s2:=ae BC (.tup [.ref p,.ref dd]);refine q p2 _ (Same.trans sG s2) (.tup (SqT.of af) (.cons (Gq (SqT.of ?_)) (.cons (h2.mono (Same.trans sG s2)) .nil)));rw[s2 _ _ gp];show some (HO.tup ((r.m.map cel).set i .non))=some (HO.tup ((r.m.set i none).map cel));rw[List.map_set];rfl
end
open PySem.SeqAt
abbrev ie:=List (List Int×List (List Int))
def WantAt (K:aB)(H:Hp)(w:Addr)(W:ie):Prop:=∃xs,SqL K H w xs/\Paired (λx (p:List Int×List (List Int))=>∃c a e,x=V.ref c/\SqT K H c [.ref a,.ref e]/\SqT K H a (p.1.map V.int)/\LetAt K H e p.2) xs W
theorem LetAt.same1 {K:aB}{H H':Hp}{r:Addr}{ls:List (List Int)}(h:LetAt K H r ls)(e:Same H H'):LetAt K H' r ls:=by
 obtain⟨xs,h1,h2⟩:=h;exact⟨xs,e _ _ h1,h2.mono e⟩
theorem WantAt.mono {K:aB}{H H':Hp}{w:Addr}{W:ie}(h:WantAt K H w W)(s:Same H H'):WantAt K H' w W:=by
 obtain⟨xs,h1,h2⟩:=h;exact⟨xs,s.seq h1,Paired.mapP h2 λx p AD=>by obtain⟨c,a,e,z1,z2,z3,z4⟩:=AD;exact⟨c,a,e,z1,z2.same s,z3.same s,z4.same1 s⟩⟩
def Ls (K:aB)(H:Hp)(x:V)(l:List Int):Prop:=∃c,x=.ref c/\SqT K H c (l.map V.int)
theorem om:∀(l:List Int),Paired (λx k=>x=V.int k) (l.map V.int) l
 | []=>.nil
 |_::l=>.cons rfl (om l)
theorem u9:∀(p:List (Option Int)),Paired (λx k=>x=cel k) (p.map cel) p
 | []=>.nil
 |_::p=>.cons rfl (u9 p)
theorem Ws:∀{c d:Option Int},cel c=cel d->c=d
 |none,none,_=>rfl
 |some _,some _,h=>by injection h with h;rw[h]
 |none,some _,h=>nomatch h
 |some _,none,h=>nomatch h
theorem Jm {A:cC}{s:aG}{c d:Option Int}{x y:V}{u v:aC}(hx:x=cel c)(hy:y=cel d)(rx:RelV x u)(ry:RelV y v):EqAt A s u v (decide (c=d)):=by
 subst hx hy;have z:=Ah (A:=A) (s:=s) rx ry (zq c) (zq d);have e:eqV (cel c) (cel d)=decide (c=d):=by
  cases c with
  |none=>cases d with
   |none=>simp[eqV,cel]
   |some _=>simp[eqV,cel]
  |some i=>cases d with
   |none=>simp[eqV,cel]
   |some j=>
    show(i == j)=_;by_cases h:i=j
    ·subst h;simp
    ·simp[h]
 rw[e]at z;exact z
section
variable {X:Cx}
theorem Y2 (hu:X.A.units+64 < jH)(f':List (Addr×Obj))(s:aG)(σ:L2.St)(H:Hp)(I:Inv X f' σ H s)(k l:List Int)(x y:V)(u v:aC)(hx:Ls X.K H x k)(hy:Ls X.K H y l)(rx:RelV x u)(ry:RelV y v):EqAt X.A.in1 s u v (decide (k=l)):=by
 obtain⟨c,rfl,hc⟩:=hx;obtain⟨d,rfl,hd⟩:=hy;cases(show u=bZ c from rx);cases(show v=bZ d from ry);refine xx (κ:=Int) (A:=X.A.in1) (R:=λx k=>x=V.int k) I (λe=>xc (R:=λx k=>x=V.int k) (λx k l h1 h2=>by rw[h1]at h2;injection h2) (om k) (by rw[e];exact om l)) hc hd (om k) (om l) (by rw[iE];lia) λj k l _ _ x y u v hx hy rx ry=>?_;have z:=Jm (A:=X.A.in1.in1) (s:=s) (c:=some k) (d:=some l) hx hy rx ry;have e:decide (some k=some l)=decide (k=l):=(by rw[decide_eq_decide];exact⟨cZ,λz=>by rw[z]⟩);rw[e]at z;exact z
end
def xg (T:List Row)(W:ie):Bool:=W.all λp=>decide (due p.1 T=p.2)
structure TabOk (n:Nat)(T:List Row):Prop where
 rows:∀r∈T,RowOk n r
 few:T.length<=36
def Lu (K:aB):Sp:=λvs H Q _=>∃(t w:Addr)(T:List Row) (W:ie) (n:Nat),vs=[.ref t,.ref w]/\TabAt K H t T/\WantAt K H w W/\TabOk n T/\(∀p∈W,p.1.length=n)/\1<=n/\n<=100/\∀H',Same H H'->Q (.bl (xg T W)) H'
theorem Bg {K:aB}{H:Hp}{xs:List V}{ls:List (List Int)}(h:Holds K H xs (ls.map jq)):Paired (Ls K H) xs ls:=Cd h
section
variable {P:aU}{w:aZ}{K:aB}{mg:Str->Option aC}{base:Heap}
theorem Sb:aw ["table","wanted","letter","ends"] zzy (aj sAll):=fsN
theorem Y3 {f fB:Addr}{fd dB:bQ}(F:Fun K "does_all" "does_all" sAll f fd)(GB:‹3› fB dB zys (Y0 K))(bB:Binds K dB zys [])(kB:aR K (.ref fB)=true)(mB:mg "by_table"=some (.ref fB)) :
  ‹4› f fd zzy (Lu K):=by
 exists F,Sb
 ·obtain⟨t,w,T,W,n,rfl,_⟩:=h;rfl
 obtain⟨t,w',T,W,n,rfl,ht,⟨xs,hw,hp⟩,tk,hn,n1,DI,q⟩:=h;refine⟨_,ai (fh fX rfl (c7 (pv 1)) (vi rfl (e8 (bo (i:=2) Sb.nd rfl (cD rfl)) (e8 (bo (i:=3) Sb.nd rfl (cD rfl)) lh))) (ak (de (bx (O6 (R:=Ls K) hr.units (Y2 hr.units)) (ar GB hr rfl mB kB bB .nil bb (aa (pv 0) (aa (pv 2) ag))) (pv 3) (bw _)) (ak (az m8)) cf))) (ak (az m8)),?_⟩;dsimp only[bh,Cx.nox];have xl:xs.length=W.length:=Paired.length hp;refine⟨_,rfl,w',rfl,⟨_,hw⟩,i7 (K:=K) (a:=w') (xs:=xs) (λi σ G=>∃v2 v3:Option V,σ=[some (.ref t),some (.ref w'),v2,v3]/\Same H G/\xg T (W.take i)=true) ⟨none,none,rfl,Same.refl _,rfl⟩ (λi σ G _ z=>by obtain⟨_,_,_,sG,_⟩:=z;exact sG.seq hw) ?_ ?_⟩
 ·intro i x σ G hx AC;obtain⟨v2,v3,rfl,sG,ea⟩:=AC;obtain⟨p,ep,c,a,e,rfl,hc,ha,he⟩:=j6 hp hx;have pm:p∈W:=bV ep;have pl:=hn p pm;refine⟨c,_,rfl,hc.same sG,rfl,_,_,rfl,_,_,rfl,rfl,?_⟩;refine⟨_,rfl,_,rfl,t,a,p.1,T,rfl,ht.same sG,ha.same sG,(by rw[pl];exact tk.rows),by lia,by lia,λr G1 s1 _ lt=>?_⟩;obtain⟨us,gr,LX⟩:=lt;obtain⟨zs,ge,CV⟩:=he.same1 (Same.trans sG s1);refine⟨_,rfl,r,e,us,zs,_,_,rfl,rfl,SqL.of gr,SqL.of ge,Bg LX,Bg CV,_,rfl,?_⟩;refine fb (λcc=>?_) (λcc=>?_)
  ·have ne:due p.1 T≠p.2:=λz=>(by rw[if_neg bX,decide_eq_true z]at cc;cases cc);have ef:xg T W=false:=by
    unfold xg;rw[List.all_eq_false];exact⟨p,pm,by simpa using ne⟩
   have z:=q G1 (Same.trans sG s1);rw[ef]at z;exact z
  ·have eq:due p.1 T=p.2:=nX λz=>cc (by rw[if_neg bX,decide_eq_false z];rfl);refine⟨_,_,rfl,Same.trans sG s1,?_⟩;have CS:W.take (i+1)=W.take i++[p]:=(by rw[eX,ep];rfl);unfold xg at ea ⊢;rw[CS,List.all_append,ea];simp[eq]
 ·intro σ G AC;obtain⟨v2,v3,rfl,sG,ea⟩:=AC;rw[xl,gN]at ea;have z:=q G sG;rw[ea]at z;exact z
end
end S63
namespace HT
open PySem PyProof.Rows
section
variable {prog:aU}{w:aZ}{A:cC}{E:aC->aG->Prop}{s:aG}
end
end HT
namespace L2
open PySem PySem.Spec PyProof.Rows
section
variable {X:Cx}
end
theorem Holds.take {K:aB}{H:Hp}:∀{xs:List V}{ds:List Da},Holds K H xs ds->∀n,Holds K H (xs.take n) (ds.take n)
 | [],_,h,n=>by cases h;rw[List.take_nil,List.take_nil];exact .nil
 |_::_,_,h,0=>by cases h;exact .nil
 |_::_,_,h,n+1=>by
  cases h with
  |cons a r=>exact .cons a (Holds.take r n)
theorem Holds.drop {K:aB}{H:Hp}:∀{xs:List V}{ds:List Da},Holds K H xs ds->∀n,Holds K H (xs.drop n) (ds.drop n)
 | [],_,h,n=>by cases h;rw[List.drop_nil,List.drop_nil];exact .nil
 |_::_,_,h,0=>h
 |_::_,_,h,n+1=>by
  cases h with
  |cons a r=>exact Holds.drop r n
section
variable {X:Cx}
end
end L2
namespace PySem
namespace Deep
abbrev I2:=Sum Int (List Int)
section
variable (prog:aU)(w:aZ)
end
section
variable {prog:aU}{w:aZ}{A:cC}{E:aC->aG->Prop}{s:aG}
end
end Deep
namespace Deep
section
variable {prog:aU}{w:aZ}{A:cC}{E:aC->aG->Prop}{s:aG}
end
end Deep
namespace Deep
section
variable {prog:aU}{w:aZ}{A:cC}{E:aC->aG->Prop}{s:aG}
end
end Deep
namespace Deep
section
variable {prog:aU}{w:aZ}{A:cC}{E:aC->aG->Prop}{s:aG}
end
end Deep
end PySem
namespace L2
open PySem PySem.Spec PyProof.Rows PySem.Deep
section
variable {X:Cx}{f':List (Addr×Obj)}{σ:St}{H:Hp}{s:aG}
end
def Gw (hi:Int)(n:Nat):It:=⟨λi _=>i < n,λi H x H'=>H'=H/\x=.int (hi - i),λi _=>n<=i⟩
theorem Pa {P:aU}{w:aZ}{K:aB}{tg:Expr}(it:Addr)(lo:Int)(n:Nat):qr P w K tg (Gw lo n) [it] it (λi h=>wX h it (lo+(i:Nat) * (-1)) ((n:Int) - (i:Nat)) (-1)) where
 mem:=by simp
 obj:=λi h st b hb=>by
  have e:b=it:=(by simpa using hb);subst e;exact⟨_,st,λv z=>by
    have z':sD _=oS v:=z;cases z'⟩
 keep:=λi h h' st k=>k it (by simp) _ st
 item:=by
  intro X hP hw hK hc i f' s σ H E I hf st hg;subst hP hw hK;obtain⟨f0,f1,f2,f3,f4,f5⟩:=hf it (by simp);have W:=Walks.range (prog:=X.prog) (w:=X.w) (I.ok.hd hc) it lo (-1) n;refine W.item i s _ _ hg st λv h' tk hv CI kk=>?_;obtain⟨t,rfl⟩:=hv;have I1:Inv X f' σ H { s with heap:=h',toks:=tk }:=I.turned (λb o hb e=>kk b o (by simpa using hb) e) f0 f1 f3 f4 f5;refine⟨_,rfl,zy (s:={ s with heap:=h',toks:=tk }) (n:="range_iterator") CI rfl rfl (by decide) ⟨.int (lo - i),H,I1,⟨t,?_⟩,⟨rfl,rfl⟩,CI,λb hb=>(hf b hb).1⟩⟩;rw[show lo+(i:Int) * (-1)=lo - i by lia]
 done:=by
  intro X hP hw hK hc i f' s σ H E I hf st hg;subst hP hw hK;obtain⟨f0,f1,f2,f3,f4,f5⟩:=hf it (by simp);exact wpAny_pyNext_range_end (I.ok.hd hc) st (by have:n<=i:=hg;lia) λh' eb=>⟨rfl,I.turned (t':=s.toks) (λb o hb e=>eb b o hb e) f0 f1 f3 f4 f5⟩
 self:=λ_ _ _ _ _ st h=>wpAny_pyIter_rangeiter st h
section
variable {X:Cx}
end
theorem Sd {hi:Int}{n:Nat}{g:TG}{tb:TS}{D:gg}{σ:St}{H:Hp}(Pv:Nat->St->Hp->Prop)(h0:Pv 0 σ H)
  (hs:∀i σ H,i < n->Pv i σ H->g (.int (hi - i)) σ H λσ2 H2=>tb { D with nx:=Pv (i+1),ct:=Pv (i+1),bk:=D.nx } σ2 H2) (hd:∀σ H,Pv n σ H->D.nx σ H) :
  ∃W:Nat->Nat->St->Hp->Prop,(∃m,W 0 m σ H)/\∀i m σ H,W i m σ H->
   ((Gw hi n).stop i H/\D.nx σ H)\/((Gw hi n).go i H/\∃N:St->Hp->Prop,(∀σ' H',N σ' H'->∃m',m' < m/\W (i+1) m' σ' H')/\∀x H',(Gw hi n).yld i H x H'->g x σ H' λσ2 H2=>tb { D with nx:=N,ct:=N,bk:=D.nx } σ2 H2):=by
 refine⟨λi m σ H=>i+m=n/\Pv i σ H,⟨n,by lia,h0⟩,?_⟩;intro i m σ H AC;obtain⟨e,p⟩:=AC;by_cases ED:i < n
 ·refine .inr ⟨ED,Pv (i+1),λσ' H' p'=>⟨m - 1,by lia,by lia,p'⟩,?_⟩;intro x H' AC;obtain⟨rfl,rfl⟩:=AC;exact hs i σ _ ED p
 ·have e':i=n:=(by lia);subst e';exact .inl ⟨aN _,hd σ H p⟩
section
variable {X:Cx}
def Y4 (ta:TA):TI:=λσ H R=>ta σ H λvs H1=>∃n:Nat,vs=[.int ((n:Int) - 1),.int (-1),.int (-1)]/\n < 1000000/\R (Gw ((n:Int) - 1) n) H1
theorem Se {tg a b c:Expr}{ta:TA}{p pos:Pos}(hg:Gl X "range")(hm:X.mg "range"=none)(ha:PA X [a,b,c] ta)(hs:cJ [a,b,c] X.env=[(false,eval a X.env),(false,eval b X.env),(false,eval c X.env)]:=by rfl)(BL:cJ [b,c] X.env=[(false,eval b X.env),(false,eval c X.env)]:=by rfl) :
  PI X tg (.Call (.Name "range" p) [a,b,c] [] pos) (Y4 ta):=by
 intro f' s σ H R I h;refine Call_ (iw I hg hm boot_range (gW (thn (ha pos f' s σ H _ I h) λus s1 ⟨vs,H1,I1,r1,q1⟩=>?_) (by rw[hs,BL]) (by rw[BL];rfl)));obtain⟨n,e,q1,q⟩:=q1;subst e;cases r1 with
 |cons r rr=>
  cases rr with
  |cons r' rr=>
   cases rr with
   |cons r'' rr=>
    cases rr;obtain⟨t,rfl⟩:=r;obtain⟨t',rfl⟩:=r';obtain⟨PK,rfl⟩:=r'';refine call_range_3 (by decide) ?_ (.inl (PyProof.noPylong_small (by lia)));have e3:((n:Int) - 1 - -1 - 1) / (- -1)=(n:Int) - 1:=by
     rw[show - (-1:Int)=1 by decide,yJ];lia
    have e4:oK ((n:Int) - 1) (-1) (-1)=n:=by
     unfold oK;rw[if_neg (by decide),e3];by_cases h0:n=0
     ·subst h0;rfl
     ·rw[if_pos (by lia)];lia
    have NB:Builtin.Range.small ((n:Int) - 1) (-1) (-1)=true:=by
     unfold Builtin.Range.small;simp only[e4,Builtin.Range.rangeFitsLong,iB,qR,decide_eq_true_eq,beq_iff_eq];simp;lia
    refine wpAny_pyIter_range (IsRange.new ..) NB ?_;have I2:Inv X f' σ H1 { s1 with heap:=s1.heap.push { cls:=.type "range",data:=.fields #[.int ((n:Int) - 1) t,.int (-1) t',.int (-1) PK] },toks:=s1.toks }:=I1.kept λb o e=>aI _ e;refine⟨(s1.heap.push { cls:=.type "range",data:=.fields #[.int ((n:Int) - 1) t,.int (-1) t',.int (-1) PK] }).objs.size,[(s1.heap.push { cls:=.type "range",data:=.fields #[.int ((n:Int) - 1) t,.int (-1) t',.int (-1) PK] }).objs.size],_,_,H1,rfl,I2.kept (t':=s1.toks) λb o e=>aI _ e,Pa _ ((n:Int) - 1) n,?_,λb hb=>?_,q⟩
    ·have e1:((n:Int) - 1)+((0:Nat):Int) * (-1)=(n:Int) - 1:=(by lia);have e2:((n:Nat):Int) - ((0:Nat):Int)=oK ((n:Int) - 1) (-1) (-1):=by
      rw[e4];lia
     show wX _ _ (((n:Int) - 1)+((0:Nat):Int) * (-1)) (((n:Nat):Int) - ((0:Nat):Int)) (-1);rw[e1,e2];exact aY _ rfl
    ·have e:b=(s1.heap.push { cls:=.type "range",data:=.fields #[.int ((n:Int) - 1) t,.int (-1) t',.int (-1) PK] }).objs.size:=(by simpa using hb);subst e;exact I2.fpOk (aN _) (I2.hok.fresh (aN _))
end
end L2
namespace S63
open PySem L2 Bits S1 Fly
def qa (W:ie):Nat->List Row->List Row
 |0,T=>T
 |k+1,T=>qa W k (if xg (T.eraseIdx k) W=true then T.eraseIdx k else T)
def Gx (W:ie)(p:Nat)(T:List Row)(i:Nat):List Row:=match T[p]? with
 |none=>T
 |some r=>if xg (T.set p (wid r i)) W=true then T.set p (wid r i)else T
def qb (W:ie)(p:Nat)(T:List Row)(k:Nat):List Row:=(dG k).foldl (Gx W p) T
def j0 (W:ie)(n:Nat)(T:List Row)(k:Nat):List Row:=(dG k).foldl (λT p=>qb W p T n) T
theorem C7 (W:ie)(p:Nat)(T:List Row)(k:Nat):qb W p T (k+1)=Gx W p (qb W p T k) k:=by
 unfold qb;rw[lW,vI];rfl
theorem qo (W:ie)(n:Nat)(T:List Row)(k:Nat):j0 W n T (k+1)=qb W k (j0 W n T k) n:=by
 unfold j0;rw[lW,vI];rfl
theorem TabOk.erase {n:Nat}{T:List Row}(h:TabOk n T)(k:Nat):TabOk n (T.eraseIdx k):=⟨λr hr=>h.rows r (List.mem_of_mem_eraseIdx hr),cH (List.length_eraseIdx_le _ _) h.few⟩
theorem RowOk.wid {n:Nat}{r:Row}(h:RowOk n r)(i:Nat):RowOk n (wid r i):=⟨by show(r.m.set i none).length=n;rw[oU,h.ml],h.dl,h.dm⟩
theorem TabOk.set {n:Nat}{T:List Row}(h:TabOk n T){p:Nat}{r:Row}(hr:RowOk n r):TabOk n (T.set p r):=⟨λx hx=>by
  rcases List.mem_or_eq_of_mem_set hx with z | z
  · exact h.rows x z
  · rw[z];exact hr,by rw[oU];exact h.few⟩
theorem TabAt.new {K:aB}{H:Hp}{t:Addr}{xs:List V}{T:List Row}(g:H t=some (.lst xs))(h:Holds K H xs (T.map u7)):TabAt K H t T:=⟨xs,SqL.of g,h⟩
def xy (K:aB)(F:ie->Nat->List Row->List Row):Sp:=λvs H Q _=>∃(t w:Addr)(T:List Row) (W:ie) (n:Nat),vs=[.ref t,.ref w]/\TabAt K H t T/\WantAt K H w W/\TabOk n T/\(∀p∈W,p.1.length=n)/\1<=n/\n<=100/\
 ∀(t':Addr)(H':Hp),Same H H'->TabAt K H' t' (F W n T)->TabOk n (F W n T)->Q (.ref t') H'
section
variable {P:aU}{w:aZ}{K:aB}{mg:Str->Option aC}{base:Heap}
theorem Lv:aw ["table","wanted","place","fewer"] zzy (aj E6):=fsN
theorem Sf {f fA:Addr}{fd dA:bQ}(F:Fun K "with_fewer_rows" "with_fewer_rows" E6 f fd)(GA:‹4› fA dA zzy (Lu K))(bA:Binds K dA zzy [])(kA:aR K (.ref fA)=true)(mA:mg "does_all"=some (.ref fA))
  (ml:mg "len"=none) (mr:mg "range"=none):‹5› f fd zzy (xy K λW _ T=>qa W T.length T):=by
 exists F,Lv
 ·obtain⟨t,w,T,W,n,rfl,_⟩:=h;rfl
 obtain⟨t,w',T,W,n,rfl,ht,hw,tk,hn,n1,DI,q⟩:=h;refine⟨_,ai (fh fX rfl (Se rfl mr (aa (ba D3 (bz cg rfl ml gT (aa (pv 0) ag)) ah) (aa (m9 jt ah) (aa (m9 jt ah) ag)))) (bo (i:=2) Lv.nd rfl (cD rfl)) (ai (bf (i:=3) Lv.nd rfl (cD rfl) (ba d9 (cn dq (pv 0) cy (cv (pv 2))) (cn dq (pv 0) (cv (ba gy (pv 2) ah)) cy))) (ak (de (nq (ar GA hr rfl mA kA bA .nil bb (aa (pv 3) (aa (pv 1) ag)))) (ak (bf (i:=0) Lv.nd rfl (cD rfl) (pv 3))) cf)))) (ak (az (pv 0))),?_⟩;dsimp only[bh,Cx.nox];obtain⟨xs,hx,hd⟩:=id ht;have xl:xs.length=T.length:=(by rw[hd.length,aJ]);have t36:=tk.few;refine⟨_,rfl,t,_,rfl,.inl hx,_,_,rfl,rfl,_,rfl,_,rfl,T.length,(by rw[xl]),by lia,Sd (hi:=(T.length:Int) - 1) (n:=T.length) (λi σ G=>∃(t':Addr)(T':List Row) (v2 v3:Option V),σ=[some (.ref t'),some (.ref w'),v2,v3]/\Same H G/\TabAt K G t' T'/\TabOk n T'/\T.length - i<=T'.length/\qa W (T.length - i) T'=qa W T.length T) ⟨t,T,none,none,rfl,Same.refl _,ht,tk,Nat.sub_le _ _,rfl⟩ ?_ ?_⟩
 ·intro i σ G hi AC;obtain⟨t',T',v2,v3,rfl,sG,⟨ys,hy,HR⟩,DO,le,ef⟩:=AC;obtain⟨k,ek⟩:∃k,T.length - i=k+1:=⟨T.length - i - 1,by lia⟩;have ei:(T.length:Int) - 1 - (i:Int)=(k:Int):=(by lia);rw[ei];have yl:ys.length=T'.length:=(by rw[HR.length,aJ]);have kl:k < ys.length:=(by lia);have y36:=DO.few;refine⟨_,rfl,_,rfl,_,rfl,t',ys,rfl,hy,λp1 h1=>?_⟩;rw[Gu ys k (by lia)];have s1:=ae h1 (.lst (ys.take k));refine⟨_,rfl,_,rfl,_,_,rfl,rfl,_,rfl,t',ys,rfl,s1.seq hy,λp2 h2=>?_⟩;rw[Gv ys k kl];have s2:=ae h2 (.lst (ys.drop (k+1)));refine⟨p1,p2,_,_,rfl,rfl,s2 _ _ af,af,small (by rw[cK,gZ];lia),λp3 h3=>?_⟩;have s3:=ae h3 (.lst (ys.take k++ys.drop (k+1)));have CU:=Same.trans s1 (Same.trans s2 s3);have ee:T'.eraseIdx k=T'.take k++T'.drop (k+1):=List.eraseIdx_eq_take_drop_succ ..;have KL:TabAt K (upd (upd (upd G p1 (.lst (ys.take k))) p2 (.lst (ys.drop (k+1)))) p3 (.lst (ys.take k++ys.drop (k+1)))) p3 (T'.eraseIdx k):=TabAt.new af (by
    rw[ee,cU,xY,uW];exact((HR.mono CU).take k).append ((HR.mono CU).drop (k+1)))
  generalize upd (upd (upd G p1 (.lst (ys.take k))) p2 (.lst (ys.drop (k+1)))) p3 (.lst (ys.take k++ys.drop (k+1)))=G3 at CU KL ⊢;have WL:=Same.trans sG CU;refine⟨_,rfl,_,rfl,p3,w',T'.eraseIdx k,W,n,rfl,KL,hw.mono WL,DO.erase k,hn,n1,DI,λG4 s4=>⟨_,rfl,?_⟩⟩;have WM:=Same.trans WL s4;have e1:T.length - (i+1)=k:=(by lia);rw[ek,qa]at ef;refine fb (λc=>?_) (λc=>?_)
  ·rw[if_pos c]at ef;refine⟨_,rfl,p3,T'.eraseIdx k,_,_,rfl,WM,KL.same s4,DO.erase k,?_,by rw[e1];exact ef⟩;rw[e1,List.length_eraseIdx_of_lt (by lia)];lia
  ·rw[if_neg c]at ef;exact⟨t',T',_,_,rfl,WM,⟨ys,(Same.trans CU s4).seq hy,HR.mono (Same.trans CU s4)⟩,DO,by lia,by rw[e1];exact ef⟩
 ·intro σ G AC;obtain⟨t',T',v2,v3,rfl,sG,EH,DO,_,ef⟩:=AC;rw[yR,qa]at ef;subst ef;exact⟨_,rfl,q t' G sG EH DO⟩
theorem Gy:aw ["table","wanted","place","field","wider"] zzy (aj E7):=fsN
theorem Pb {f fA fR:Addr}{fd dA dR:bQ}(F:Fun K "with_wider_matches" "with_wider_matches" E7 f fd)(GA:‹4› fA dA zzy (Lu K))(bA:Binds K dA zzy [])(kA:aR K (.ref fA)=true)(mA:mg "does_all"=some (.ref fA))
  (GR:‹1› fR dR zyr (Jk K)) (bR:Binds K dR zyr []) (kR:aR K (.ref fR)=true) (mR:mg "wider_row"=some (.ref fR)) (ml:mg "len"=none) (mr:mg "range"=none) :
  ‹5› f fd zzy (xy K λW n T=>j0 W n T T.length):=by
 exists F,Gy
 ·obtain⟨t,w,T,W,n,rfl,_⟩:=h;rfl
 obtain⟨t,w',T,W,n,rfl,ht,hw,tk,hn,n1,DI,q⟩:=h;refine⟨_,ai (fh fX rfl (i6 rfl mr (aa (bz cg rfl ml gT (aa (pv 0) ag)) ag)) (bo (i:=2) Gy.nd rfl (cD rfl)) (ak (fh fX rfl (i6 rfl mr (aa (bz cg rfl ml gT (aa (av cq (av ax (pv 0) (pv 2) (λ_ _=>rfl)) ah (λ_ _=>rfl)) ag)) ag)) (bo (i:=3) Gy.nd rfl (cD rfl)) (ai (bf (i:=4) Gy.nd rfl (cD rfl) (ba d9 (ba d9 (cn dq (pv 0) cy (cv (pv 2))) (bc (aa (ar GR (hr.mono (by decide)) rfl mR kR bR .nil bb (aa (av ax (pv 0) (pv 2) (λ_ _=>rfl)) (aa (pv 3) ag))) ag))) (cn dq (pv 0) (cv (ba gy (pv 2) ah)) cy))) (ak (de (nq (ar GA hr rfl mA kA bA .nil bb (aa (pv 4) (aa (pv 1) ag)))) (ak (bf (i:=0) Gy.nd rfl (cD rfl) (pv 4))) cf)))))) (ak (az (pv 0))),?_⟩;dsimp only[bh,Cx.nox];obtain⟨xs,hx,hd⟩:=id ht;have xl:xs.length=T.length:=(by rw[hd.length,aJ]);have t36:=tk.few;refine⟨_,rfl,t,_,rfl,.inl hx,(xs.length:Int),rfl,by lia,by lia,ny (n:=((xs.length:Nat):Int).toNat) (λi σ G=>∃(t':Addr)(v2 v3 v4:Option V),σ=[some (.ref t'),some (.ref w'),v2,v3,v4]/\Same H G/\TabAt K G t' (j0 W n T i)/\TabOk n (j0 W n T i)/\(j0 W n T i).length=T.length) ⟨t,none,none,none,rfl,Same.refl _,ht,tk,rfl⟩ ?_ ?_⟩
 ·intro p σ G hp AC;obtain⟨t',v2,v3,v4,rfl,sG,EH,DO,ll⟩:=AC;have pl:p < T.length:=(by lia);obtain⟨ys,hy,HR⟩:=id EH;have yl:ys.length=T.length:=(by rw[HR.length,aJ,ll]);obtain⟨r0,er0,CF⟩:=HR.getm (aK (show p < ys.length by lia));have SJ:=DO.rows r0 (bV er0);have ay:atI ys (0+(p:Int))=some (ys[p]'(by lia)):=(by rw[rB];exact bp (aK (by lia)));obtain⟨ra,zs,era,hra,CV⟩:=Hold.tupI CF;cases CV with
  |cons h1 r1=>
   cases r1 with
   |cons h2 r2=>
    cases r2;obtain⟨ma,rfl,SI⟩:=m7 h1;refine⟨_,rfl,_,rfl,t',ys,_,_,rfl,rfl,hy,ay,?_⟩;rw[era];refine⟨ra,_,_,_,rfl,rfl,hra,rfl,ma,_,rfl,.inr SI,((r0.m.map cel).length:Int),rfl,by rw[aJ,SJ.ml];lia,by rw[aJ,SJ.ml];lia,?_⟩;have em:(((r0.m.map cel).length:Nat):Int).toNat=n:=(by rw[aJ,SJ.ml];lia);rw[em];refine ny (n:=n) (λi σ G1=>∃(t1:Addr)(v3 v4:Option V),σ=[some (.ref t1),some (.ref w'),some (.int (0+(p:Int))),v3,v4]/\Same H G1/\TabAt K G1 t1 (qb W p (j0 W n T p) i)/\TabOk n (qb W p (j0 W n T p) i)/\(qb W p (j0 W n T p) i).length=T.length)
     ⟨t',v3,v4,rfl,sG,EH,DO,ll⟩ ?_ ?_
    ·intro i σ G1 hi AC;obtain⟨t1,v3,v4,rfl,s1,⟨us,hu,LI⟩,CS,l1⟩:=AC;generalize hT1:qb W p (j0 W n T p) i=T1 at LI CS l1;have ul:us.length=T.length:=(by rw[LI.length,aJ,l1]);have pu:p < us.length:=(by lia);obtain⟨r,er,BE⟩:=LI.getm (aK pu);have rk:=CS.rows r (bV er);have au:atI us (0+(p:Int))=some us[p]:=(by rw[rB];exact bp (aK pu));obtain⟨ra1,_,era1,_,_⟩:=Hold.tupI (id BE);rw[era1]at au BE;have ep:(0:Int)+(p:Int)=(p:Int):=rB _;have eq0:(0:Int)+(i:Int)=(i:Int):=rB _;refine⟨_,rfl,_,rfl,_,rfl,t1,us,rfl,hu,λp1 h1=>?_⟩;rw[ep,Gu us p (by lia)];have q1:=ae h1 (.lst (us.take p));rw[ep]at au;refine⟨_,rfl,_,rfl,t1,us,_,_,rfl,rfl,q1.seq hu,au,_,rfl,ra1,i,r,(by rw[eq0];rfl),BE.mono q1,by rw[rk.ml];exact hi,by rw[rk.ml];exact DI,λpr G2 q2 OV=>?_⟩;have q12:=Same.trans q1 q2;refine⟨sz1,λp2 h2=>?_⟩;have q3:=ae h2 (.lst [.ref pr]);refine⟨p1,p2,_,_,rfl,rfl,q3 _ _ (q2 _ _ af),af,small (by rw[cK];show min p us.length+1<=1000;lia),λp3 h3=>?_⟩;have q4:=ae h3 (.lst (us.take p++[.ref pr]));have SK:=Same.trans q12 (Same.trans q3 q4);have g3:upd (upd G2 p2 (.lst [.ref pr])) p3 (.lst (us.take p++[.ref pr])) p3=some (.lst (us.take p++[.ref pr])):=af;have NJ:=OV.mono (Same.trans q3 q4);generalize upd (upd G2 p2 (.lst [.ref pr])) p3 (.lst (us.take p++[.ref pr]))=G4 at SK g3 NJ ⊢;refine⟨_,rfl,_,rfl,_,_,rfl,rfl,_,rfl,t1,us,rfl,SK.seq hu,λp5 h5=>?_⟩;rw[Gv us p pu];have q5:=ae h5 (.lst (us.drop (p+1)));refine⟨p3,p5,_,_,rfl,rfl,q5 _ _ g3,af,small (by rw[aQ,cK,gZ];show min p us.length+1+_<=1000;lia),λp6 h6=>?_⟩;have q6:=ae h6 (.lst (us.take p++[.ref pr]++us.drop (p+1)));have LJ:=Same.trans SK (Same.trans q5 q6);have es:T1.set p (wid r i)=T1.take p++[wid r i]++T1.drop (p+1):=(by rw[nU];exact nY .. |>.trans (if_pos (by lia)));have SL:TabAt K (upd (upd G4 p5 (.lst (us.drop (p+1)))) p6 (.lst (us.take p++[.ref pr]++us.drop (p+1)))) p6 (T1.set p (wid r i)):=TabAt.new af (by
       rw[es,cU,cU,xY,uW];exact(((LI.mono LJ).take p).append (.one (NJ.mono (Same.trans q5 q6)))).append ((LI.mono LJ).drop (p+1)))
     generalize upd (upd G4 p5 (.lst (us.drop (p+1)))) p6 (.lst (us.take p++[.ref pr]++us.drop (p+1)))=G6 at LJ SL ⊢;have WN:=Same.trans s1 LJ;have PL:TabOk n (T1.set p (wid r i)):=CS.set (rk.wid i);refine⟨_,rfl,_,rfl,p6,w',T1.set p (wid r i),W,n,rfl,SL,hw.mono WN,PL,hn,n1,DI,λG7 s7=>⟨_,rfl,?_⟩⟩;have WO:=Same.trans WN s7;have e1:qb W p (j0 W n T p) (i+1)=if xg (T1.set p (wid r i)) W=true then T1.set p (wid r i)else T1:=by
      rw[C7,hT1];unfold Gx;rw[er]
     refine fb (λc=>?_) (λc=>?_)
     ·rw[if_pos c]at e1;refine⟨_,rfl,p6,_,_,rfl,WO,?_,?_,?_⟩
      ·rw[e1];exact SL.same s7
      ·rw[e1];exact PL
      ·rw[e1,oU];exact l1
     ·rw[if_neg c]at e1;refine⟨t1,_,_,rfl,WO,?_,?_,?_⟩
      ·rw[e1];exact⟨us,(Same.trans LJ s7).seq hu,LI.mono (Same.trans LJ s7)⟩
      ·rw[e1];exact CS
      ·rw[e1];exact l1
    ·intro σ G1 AC;obtain⟨t1,v3,v4,rfl,s1,LK,CS,l1⟩:=AC;refine⟨t1,_,_,_,rfl,s1,?_,?_,?_⟩
     ·rw[qo];exact LK
     ·rw[qo];exact CS
     ·rw[qo];exact l1
 ·intro σ G AC;obtain⟨t',v2,v3,v4,rfl,sG,EH,DO,ll⟩:=AC;have e:((xs.length:Nat):Int).toNat=T.length:=(by lia);rw[e]at EH DO;exact⟨_,rfl,q t' G sG EH DO⟩
end
open PySem.SeqAt
def cnt:List (Option Int)->Nat
 | []=>0
 |none::p=>cnt p
 |some _::p=>cnt p+1
def mu:List Row->Nat
 | []=>0
 |r::T=>1+cnt r.m+mu T
def Le (T' T:List Row):Prop:=T'=T\/mu T' < mu T
theorem Le.trans {A B C:List Row}(h1:Le A B)(h2:Le B C):Le A C:=by
 rcases h1 with rfl | h1
 ·exact h2
 ·rcases h2 with rfl | h2
  ·exact .inr h1
  ·exact .inr (jE h1 h2)
theorem Jn:∀(p:List (Option Int))(i:Nat),p.set i none=p\/cnt (p.set i none) < cnt p
 | [],_=>.inl rfl
 |none::p,0=>.inl rfl
 |some v::p,0=>.inr (mX _)
 |c::p,i+1=>by
  rcases Jn p i with h | h
  ·exact .inl (by rw[pC,h])
  ·refine .inr ?_;rw[pC];cases c with
   |none=>exact h
   |some v=>exact Nat.succ_lt_succ h
theorem Gz:∀(T:List Row)(k:Nat),Le (T.eraseIdx k) T
 | [],_=>.inl rfl
 |r::T,0=>.inr (by show mu T < 1+cnt r.m+mu T;lia)
 |r::T,k+1=>by
  rcases Gz T k with h | h
  ·exact .inl (by rw[rT,h])
  ·exact .inr (by rw[rT];show 1+cnt r.m+mu (T.eraseIdx k) < 1+cnt r.m+mu T;lia)
theorem Pc:∀(T:List Row)(p i:Nat) (r:Row),T[p]?=some r->Le (T.set p (wid r i)) T
 | [],_,_,_,h=>by cases h
 |s::T,0,i,r,h=>by
  have e:s=r:=cZ h;subst e;rcases Jn s.m i with z | z
  ·exact .inl (by show wid s i::T=s::T;unfold wid;rw[z])
  ·exact .inr (by show 1+cnt (s.m.set i none)+mu T < 1+cnt s.m+mu T;lia)
 |s::T,p+1,i,r,h=>by
  rcases Pc T p i r h with z | z
  ·exact .inl (by rw[pC,z])
  ·exact .inr (by rw[pC];show 1+cnt s.m+mu (T.set p (wid r i)) < 1+cnt s.m+mu T;lia)
theorem Pd (W:ie):∀(k:Nat)(T:List Row),Le (qa W k T) T
 |0,T=>.inl rfl
 |k+1,T=>by
  rw[qa];refine Le.trans (Pd W k _) ?_
  split
  ·exact Gz T k
  ·exact .inl rfl
theorem Wt (W:ie)(p:Nat)(T:List Row)(i:Nat):Le (Gx W p T i) T:=by
 unfold Gx;cases h:T[p]? with
 |none=>exact .inl rfl
 |some r=>
  dsimp only
  split
  ·exact Pc T p i r h
  ·exact .inl rfl
theorem Jo (W:ie)(p:Nat)(T:List Row):∀k,Le (qb W p T k) T
 |0=>.inl rfl
 |k+1=>by rw[C7];exact Le.trans (Wt W p _ k) (Jo W p T k)
theorem Jp (W:ie)(n:Nat)(T:List Row):∀k,Le (j0 W n T k) T
 |0=>.inl rfl
 |k+1=>by rw[qo];exact Le.trans (Jo W k _ n) (Jp W n T k)
def qp (W:ie)(n:Nat)(T:List Row):List Row:=j0 W n (qa W T.length T) (qa W T.length T).length
theorem Wu (W:ie)(n:Nat)(T:List Row):Le (qp W n T) T:=Le.trans (Jp W n _ _) (Pd W _ T)
noncomputable instance:DecidableEq Row:=λ_ _=>Classical.propDecidable _
def nj (K:aB)(H:Hp)(x:V)(p:List (Option Int)):Prop:=∃c,x=.ref c/\SqT K H c (p.map cel)
def Lw (K:aB)(H:Hp)(x:V)(r:Row):Prop:=Hold K H x (u7 r)
theorem o9 {K:aB}{H:Hp}{α:Type}{f:α->Da}:∀{xs:List V}{ks:List α},Holds K H xs (ks.map f)->Paired (λx k=>Hold K H x (f k)) xs ks
 |_,[],h=>by cases h;exact .nil
 |_,k::ks,h=>by
  cases h with
  |cons h1 h2=>exact .cons h1 (o9 h2)
theorem nk:∀{p q:List (Option Int)},p.map cel=q.map cel->p=q
 | [],[],_=>rfl
 | [],_::_,h=>by cases h
 |_::_,[],h=>by cases h
 |c::p,d::q,h=>by
  rw[gU,gU]at h;injection h with h1 h2;rw[Ws h1,nk h2]
theorem G8 {K:aB}{H:Hp}{x:V}{r:Row}(h:Lw K H x r):∃c m d zs,x=.ref c/\SqT K H c [.ref m,.ref d]/\SqT K H m (r.m.map cel)/\SqT K H d zs/\Paired (nj K H) zs r.ds:=by
 obtain⟨c,ys,rfl,hc,BO⟩:=Hold.tupI h;cases BO with
 |cons h1 r1=>
  cases r1 with
  |cons h2 r2=>
   cases r2;obtain⟨m,rfl,hm⟩:=m7 h1;obtain⟨d,zs,rfl,hd,hz⟩:=Hold.tupI h2;exact⟨c,m,d,zs,rfl,hc,hm,hd,Paired.mapP (o9 hz) λz p k=>m7 k⟩
abbrev RK:=Sum (List (Option Int)) (List (List (Option Int)))
def KeyR (K:aB)(H:Hp)(x:V):RK->Prop
 | .inl p=>nj K H x p
 | .inr ds=>∃c zs,x=.ref c/\SqT K H c zs/\Paired (nj K H) zs ds
section
variable {X:Cx}
theorem Wv {f':List (Addr×Obj)}{s:aG}{σ:L2.St}{H:Hp}(I:Inv X f' σ H s)(x:V)(p q:List (Option Int))(h1:nj X.K H x p)(h2:nj X.K H x q):p=q:=by
 obtain⟨c,rfl,hc⟩:=h1;obtain⟨d,e,hd⟩:=h2;cases e;exact nk (I.tuple_inj hc hd)
theorem Jq {A:cC}{f':List (Addr×Obj)}{s:aG}{σ:L2.St}{H:Hp}(I:Inv X f' σ H s)(hu:A.units < jH){k l:List (Option Int)}{x y:V}{u v:aC}(hx:nj X.K H x k)(hy:nj X.K H y l)(rx:RelV x u)(ry:RelV y v):EqAt A s u v (decide (k=l)):=by
 obtain⟨c,rfl,hc⟩:=hx;obtain⟨d,rfl,hd⟩:=hy;cases(show u=bZ c from rx);cases(show v=bZ d from ry);exact xx (κ:=Option Int) (A:=A) (R:=λx k=>x=cel k) I (λe=>nk e) hc hd (u9 k) (u9 l) hu λj k l _ _ x y u v hx hy rx ry=>Jm hx hy rx ry
theorem Y5 (hu:X.A.units+64 < jH)(f':List (Addr×Obj))(s:aG)(σ:L2.St)(H:Hp)(I:Inv X f' σ H s)(k l:Row)(x y:V)(u v:aC)(hx:Lw X.K H x k)(hy:Lw X.K H y l)(rx:RelV x u)(ry:RelV y v):EqAt X.A.in1 s u v (decide (k=l)):=by
 obtain⟨c,m,d,zs,rfl,hc,hm,hd,hz⟩:=G8 hx;obtain⟨c',m',d',ER,rfl,JG,MW,CD,OQ⟩:=G8 hy;cases(show u=bZ c from rx);cases(show v=bZ c' from ry);have u1:X.A.in1.units=X.A.units+1:=iE ..;have u2:X.A.in1.in1.units=X.A.units+2:=(by rw[iE,u1]);have u3:X.A.in1.in1.in1.units=X.A.units+3:=(by rw[iE,u2]);have WQ:∀{d d':Addr}{zs ER:List V},SqT X.K H d zs->SqT X.K H d' ER->Paired (nj X.K H) zs k.ds->Paired (nj X.K H) ER l.ds->zs=ER->k.ds=l.ds:=λ_ _ h1 h2 e=>by
  subst e;exact xc (Wv I) h1 h2
 have z:=xx (κ:=RK) (A:=X.A.in1) (R:=KeyR X.K H) (ks:=[.inl k.m,.inr k.ds]) (ls:=[.inl l.m,.inr l.ds]) I (λe=>by
     injection e with e1 e2;injection e2 with e2 _;cases e1;cases e2;have em:=nk (I.tuple_inj hm MW);have ez:=I.tuple_inj hd CD;rw[em,WQ hd CD hz OQ ez]) hc JG (.cons ⟨m,rfl,hm⟩ (.cons ⟨d,zs,rfl,hd,hz⟩ .nil)) (.cons ⟨m',rfl,MW⟩ (.cons ⟨d',ER,rfl,CD,OQ⟩ .nil)) (by lia) λj a b ea eb x y u v hx hy rx ry=>by
  match j,ea,eb with
  |0,ea,eb=>
   cases ea;cases eb;have z:=Jq (A:=X.A.in1.in1) I (by lia) hx hy rx ry;have e:decide (k.m=l.m)=decide ((lD k.m:RK)=lD l.m):=(by rw[decide_eq_decide];exact⟨λz=>by rw[z],λz=>by injection z⟩);rw[e]at z;exact z
  |1,ea,eb=>
   cases ea;cases eb;obtain⟨c1,z1,rfl,h1,p1⟩:=hx;obtain⟨c2,z2,rfl,h2,p2⟩:=hy;cases(show u=bZ c1 from rx);cases(show v=bZ c2 from ry);have z:=xx (κ:=List (Option Int)) (A:=X.A.in1.in1) (R:=nj X.K H) I (λe=>WQ h1 h2 p1 p2 e) h1 h2 p1 p2 (by lia) λj k l _ _ x y u v hx hy rx ry=>Jq (A:=X.A.in1.in1.in1) I (by lia) hx hy rx ry;have e:decide (k.ds=l.ds)=decide ((sV k.ds:RK)=sV l.ds):=(by rw[decide_eq_decide];exact⟨λz=>by rw[z],λz=>by injection z⟩);rw[e]at z;exact z
 have e:decide ([(lD k.m:RK),.inr k.ds]=[.inl l.m,.inr l.ds])=decide (k=l):=by
  rw[decide_eq_decide];constructor
  ·intro z;injection z with z1 z2;injection z2 with z2 _;injection z1 with z1;injection z2 with z2;cases k;cases l;cases z1;cases z2;rfl
  ·intro z;rw[z]
 rw[e]at z;exact z
end
def Jr (K:aB):Sp:=λvs H Q _=>∃(t w:Addr)(T:List Row) (W:ie) (n:Nat),vs=[.ref t,.ref w]/\TabAt K H t T/\WantAt K H w W/\TabOk n T/\(∀p∈W,p.1.length=n)/\1<=n/\n<=100/\
 ∀(t':Addr)(T':List Row) (H':Hp),Same H H'->TabAt K H' t' T'->TabOk n T'->(T'=[]\/qp W n T'=T')->Q (.ref t') H'
section
variable {P:aU}{w:aZ}{K:aB}{mg:Str->Option aC}{base:Heap}
theorem Lx:aw ["table","wanted","before"] zzy (aj E5):=fsN
theorem Sg {f fF fM:Addr}{fd dF dM:bQ}(F:Fun K "made_small" "made_small" E5 f fd)(GF:‹5› fF dF zzy (xy K λW _ T=>qa W T.length T))(bF:Binds K dF zzy [])(kF:aR K (.ref fF)=true)(mF:mg "with_fewer_rows"=some (.ref fF))
  (GM:‹5› fM dM zzy (xy K λW n T=>j0 W n T T.length)) (bM:Binds K dM zzy []) (kM:aR K (.ref fM)=true) (mM:mg "with_wider_matches"=some (.ref fM)):‹6› f fd zzy (Jr K):=by
 exists F,Lx
 ·obtain⟨t,w,T,W,n,rfl,_⟩:=h;rfl
 obtain⟨t,w',T,W,n,rfl,ht,hw,tk,hn,n1,DI,q⟩:=h;refine⟨_,ai (bf (i:=2) Lx.nd rfl (cD rfl) (bc ag)) (ai (tq fX (bx (O6 (R:=Lw K) hr.units (Y5 hr.units)) (pv 0) (pv 2) (bw _)) (ai (bf (i:=2) Lx.nd rfl (cD rfl) (pv 0)) (ak (bf (i:=0) Lx.nd rfl (cD rfl) (ar GM hr rfl mM kM bM .nil bb (aa (ar GF hr rfl mF kF bF .nil bb (aa (pv 0) (aa (pv 1) ag))) (aa (pv 1) ag))))))) (ak (az (pv 0)))),?_⟩;dsimp only[bh,Cx.nox];refine⟨sz0,λb0 hb0=>?_⟩;have s0:=ae hb0 (.lst []);refine⟨λm σ G=>∃(t b:Addr)(T B:List Row),σ=[some (.ref t),some (.ref w'),some (.ref b)]/\Same H G/\TabAt K G t T/\TabAt K G b B/\TabOk n T/\(B=[]\/T=qp W n B)/\m=if T=B then 0 else mu T+1,⟨_,t,b0,T,[],rfl,s0,ht.same s0,⟨[],SqL.of af,.nil⟩,tk,.inl rfl,rfl⟩,?_⟩
 intro m σ G AC;obtain⟨t,b,T,B,rfl,sG,⟨xs,hx,FY⟩,⟨ys,hy,HR⟩,tk,hB,em⟩:=AC;refine⟨_,rfl,_,rfl,t,b,xs,ys,T,B,rfl,rfl,hx,hy,o9 FY,o9 HR,_,rfl,?_⟩;refine fb (λc=>?_) (λc=>?_)
 ·have ne:T≠B:=λz=>(by rw[if_neg bX,decide_eq_true z]at c;cases c);rw[if_neg ne]at em;refine⟨λσ' H'=>∃(t':Addr),σ'=[some (.ref t'),some (.ref w'),some (.ref t)]/\Same G H'/\TabAt K H' t' (qp W n T)/\TabOk n (qp W n T),?_,?_⟩
  ·intro σ' H' AC;obtain⟨t',rfl,s1,EH,DO⟩:=AC;refine⟨if qp W n T=T then 0 else mu (qp W n T)+1,?_,t',t,qp W n T,T,rfl,Same.trans sG s1,EH,⟨xs,s1.seq hx,FY.mono s1⟩,DO,.inr rfl,rfl⟩
   rw[em]
   split
   ·exact Nat.succ_pos _
   ·rename_i h
    rcases Wu W n T with z | z
    ·exact absurd z h
    ·exact Nat.succ_lt_succ z
  ·refine⟨_,rfl,_,rfl,_,rfl,t,w',T,W,n,rfl,⟨xs,hx,FY⟩,hw.mono sG,tk,hn,n1,DI,λt1 G1 s1 LK CS=>?_⟩;refine⟨_,rfl,t1,w',_,W,n,rfl,LK,hw.mono (Same.trans sG s1),CS,hn,n1,DI,λt2 G2 s2 PM NI=>?_⟩;exact⟨t2,rfl,Same.trans s1 s2,PM,NI⟩
 ·have eq:T=B:=nX λz=>c (by rw[if_neg bX,decide_eq_false z];rfl);subst eq;refine⟨_,rfl,q t T G sG ⟨xs,hx,FY⟩ tk ?_⟩;rcases hB with z | z
  ·exact .inl z
  ·exact .inr z.symm
end
open PyProof.Rows
def WantE (K:aB)(H:Hp)(D:Addr)(x:V)(p:List Int×List (List Int)):Prop:=∃c a e,x=V.ref c/\e≠D/\SqT K H c [.ref a,.ref e]/\SqT K H a (p.1.map V.int)/\LetAt K H e p.2
theorem WantE.but {K:aB}{H H':Hp}{D:Addr}{x:V}{p:List Int×List (List Int)}(h:WantE K H D x p)(tp:Tups H H')(k:∀b o,b≠D->H b=some o->H' b=some o):WantE K H' D x p:=by
 obtain⟨c,a,e,h1,h2,h3,h4,xs,h5,h6⟩:=h;exact⟨c,a,e,h1,h2,h3.tups tp,h4.tups tp,xs,k _ _ h2 h5,h6.stay tp (d8 jz _)⟩
theorem xh {α β:Type}{F:α->β->Prop}:∀{xs:List α}{ys:List β}{x:α}{y:β},Paired F xs ys->F x y->Paired F (xs++[x]) (ys++[y])
 |_,_,_,_,.nil,h=>.cons h .nil
 |_,_,_,_,.cons a t,h=>.cons a (xh t h)
def Js (K:aB)(cF cV cT cP:Addr):Sp:=λvs H Q E=>∃(sp:Addr)(x:V) (ws:List (Str×Nat)) (s:Say),vs=[.ref sp,x]/\Hold K H (.ref sp) (fw ws)/\fo ws/\(LL ws).length<=24/\Hold K H x s.da/\s.size<=500/\s.nts<=5/\
 (∀f,s.due ws=some f->FOut K H E cF cV cT f)/\
 (s.due ws=none->s.nts≠0->∀dx y H',Same H H'->H' dx=some (.xd [("saying",y)])->Hold K H' y s.da->E (.ref cP) (some dx) H')/\
 (s.due ws=none->s.nts=0->∀(t:Addr)(T:List Row) (H':Hp),Same H H'->TabAt K H' t T->Q (.ref t) H')
def Pe:gQ:={ kind:=.function,names:=[(".0",.local),("letter",.local),("machine",.free)],isGenerator:=false,isCoroutine:=false,more:=[] }
def Pf:gQ:={ kind:=.function,names:=[(".0",.local),("letter",.local),("ends",.local),("row_for",.globalImplicit)],isGenerator:=false,isCoroutine:=false,more:=[] }
abbrev nTo:List Str:=["speech","saying","machine","wanted"]
section
variable {P:aU}{w:aZ}{K:aB}{mg:Str->Option aC}{base:Heap}{C cF cV cT cP:Addr}
theorem Sh:aw nTo zzr (aj Au):=fsN
theorem cTo1_ {CX:CXT}{f:Addr}{AF:aC}{A:cC}{outer:List Env}{s:aG}{H:Hp}{E:XK} :
  cp (bh CX P w K mg base nTo "table_of" (aj Au) f AF A outer s H E).nox zz1 ["machine"] [2] Pe [("machine",s.heap.objs.size+1)]:=csN [(".0",.local),("letter",.local),("machine",.cell)]
theorem cTo2_ {X:Cx}:cp X zzg [] [] Pf []:=ip rfl (by decide +kernel) (by decide +kernel) (by decide +kernel)
theorem Si {f fI fS fP fL fR fM:Addr}{fd dI dS dP dL dR dM:bQ}(F:Fun K "table_of" "table_of" Au f fd)(M:MkM P w K mg base C cF cV cT fI dI)(MM:MC K C)
  (GS:FnOk P w K mg base (CXx P w) 6 fS dS zzr (Qr K cF cV cT)) (bS:Binds K dS zzr []) (kS:aR K (.ref fS)=true) (mS:mg "must_saying"=some (.ref fS))
  (GP:FnOk P w K mg base (CXx P w) 4 fP dP zzz (T9 K cP)) (bP:Binds K dP zzz []) (kP:aR K (.ref fP)=true) (mP:mg "must_plain"=some (.ref fP))
  (GL:‹2› fL dL zyi (v7 K)) (bL:Binds K dL zyi []) (kL:aR K (.ref fL)=true) (mL:mg "letters_of"=some (.ref fL))
  (GR:‹2› fR dR zzg (O9 K)) (bR:Binds K dR zzg []) (kR:aR K (.ref fR)=true) (mR:mg "row_for"=some (.ref fR))
  (GM:‹6› fM dM zzy (Jr K)) (bM:Binds K dM zzy []) (kM:aR K (.ref fM)=true) (mM:mg "made_small"=some (.ref fM))
  (hE:Rp P w K mg base C 3 "ends" zz2 (On K C)) :
  FnOk P w K mg base (CXx P w) 10 f fd zzr (Js K cF cV cT cP):=by
 obtain⟨fE,dE,GE,bE,mE⟩:=hE;refine F.okX Sh (λvs H Q E h=>?_) (λAF A outer s H vs Q E hr h=>?_)
 ·obtain⟨sp,x,ws,sy,rfl,_⟩:=h;rfl
 obtain⟨sp,x,ws,sy,rfl,AY,sk,LM,hx,AQ,n5,q0,q1,q2⟩:=h;refine⟨_,ai (df (ar GS (hr.mono (by decide)) rfl mS kS bS .nil qe (aa (pv 0) (aa (pv 1) ag)))) (ai (df (ar GP (hr.mono (by decide)) rfl mP kP bP .nil qe (aa (pv 1) ag))) (ai (bf (i:=2) Sh.nd rfl (oV rfl) (Us M.c M.ok hr rfl M.m M.b .nil qe (aa (pv 0) (aa (pv 1) ag)))) (PSs.nox (ai (j5 (i0:=3) (ns:=zz1) (ys:=["machine"]) (sc:=Pe) Sh.nd rfl rfl cTo1_ rfl (c7 (ar GL (hr.mono (by decide)) rfl mL kL bL .nil bb (aa (pv 0) ag))) (λC s H fp=>bo (i:=0) (by show(["letter","machine"]:List Str).Nodup;decide +kernel) rfl (cD rfl)) (λC s H fp=>cz) (λC s H fp=>cb (aa (pv 0) (aa (Bl (pv 1) MM.cl mE GE (hr.mono (by decide)) bE .nil bb (aa ah (aa (pv 0) ag))) ag)))) (ak (az (ar GM (hr.mono (by decide)) rfl mM kM bM .nil bb (aa (dz (ns:=zzg) (ys:=[]) (sc:=Pf) cTo2_ rfl (c7 (pv 3)) (λC s H fp=>pg2 rfl) (λC s H fp=>cz) (λC s H fp=>ar GR (hr.mono (by decide)) rfl mR kR bR .nil bb (aa (pv 0) (aa (pv 1) ag)))) (aa (pv 3) ag))))))))),?_⟩;dsimp only[bh,Cx.nox];have rl:=Tw sy;have n3:=(LL_ok sk).few;refine⟨_,rfl,_,rfl,sp,x,ws,sy,rfl,AY,hx,AQ,λdu G1 s1=>?_,q0⟩;refine⟨_,rfl,x,sy,rfl,hx.mono s1,AQ,λnz G2 s2=>?_,λnz dx y G2 s2=>q1 du nz dx y G2 (Same.trans s1 s2)⟩;have DG:=Same.trans s1 s2;refine⟨_,rfl,_,rfl,λm dx hm hd ne=>?_⟩;have sN:Same G2 (upd (upd G2 dx (.own m)) m (.ins C dx [])):=λb o e=>(by rw[ao (aq e hm),ao (aq e hd)];exact e);refine⟨m,dx,sp,ws,x,sy,rfl,af,(AY.mono DG).mono sN,sk,(hx.mono DG).mono sN,AQ,by lia,λ_ G3 s3 ma=>⟨rfl,?_⟩,λf z=>by rw[du]at z;cases z⟩;have CU:=Same.trans DG (Same.trans (Rv hm hd) s3);refine⟨_,rfl,sp,ws,rfl,AY.mono CU,sk,λlr G4 s4 _ la=>?_⟩;obtain⟨WR,WS,WT⟩:=la;have lxl:WR.length=(LL ws).length:=(by rw[WT.length,aJ]);refine⟨lr,rfl,⟨_,SqL.of WS⟩,λD hD=>?_⟩;refine dy (K:=K) (a:=lr) (xs:=WR) (λi ys G=>Same G4 G/\G D=some (.lst ys)/\∃W:ie,Paired (WantE K G D) ys W/\W.map (·.1)=(LL ws).take i/\∀p∈W,p.2.length<=36/\∀z∈p.2,z∈LL ws) ⟨ae hD _,af,[],.nil,rfl,(λp hp=>nomatch hp)⟩ (λi ys G z=>z.2.1) (λi ys G _ z=>SqL.of (z.1 _ _ WS)) ?_ ?_
 ·intro i y ys G hy AC;obtain⟨sG,gD,W,hW,eW,wW⟩:=AC;obtain⟨l,el,hl⟩:=WT.getm hy;obtain⟨lt,rfl,AZ⟩:=zu (hl.mono sG);have lm:l∈LL ws:=bV el;have wl:W.length=((LL ws).take i).length:=(by rw[<-eW,aJ]);have yl:ys.length<=24:=(by rw[Paired.length hW,wl,cK];lia);have WU:=ma.mono (Same.trans s4 sG);obtain⟨dx1,r1,xw,gm,_⟩:=id WU;refine⟨bj (by lia),⟨[some _],rfl,rfl⟩,?_⟩;refine⟨_,rfl,_,rfl,m,dx1,_,rfl,gm,rfl,_,rfl,m,lt,LL ws,sy.rm,sy.W ws,0,l,rfl,WU,Nat.succ_pos _,AZ,lm,n3,by lia,λe mk G5 s5 he mp le=>⟨sz2,λc hc=>?_⟩⟩;have s6:=ae hc (.tup [.ref lt,.ref e]);have SM:=s6 _ _ (s5 _ _ gD);have eD:e≠D:=λz=>(by subst z;rw[gD]at he;cases he);have NK:=Same.trans s5 s6;have gc:upd G5 c (.tup [.ref lt,.ref e]) c=some (.tup [.ref lt,.ref e]):=af;have NL:=AZ.same NK;have WV:=le.same1 s6;generalize upd G5 c (.tup [.ref lt,.ref e])=G6 at s6 NK SM gc NL WV ⊢;refine⟨SM,Same.put (Same.trans sG NK) hD _,af,W++[(l,pick mk (LL ws) (LL ws).length)],?_,?_,?_⟩
  ·have tp:Tups G6 (upd G6 D (.lst (ys++[.ref c]))):=Tups.put SM _;have kp:∀b o,b≠D->G6 b=some o->upd G6 D (.lst (ys++[.ref c])) b=some o:=λb o n e=>(by rw[ao n];exact e);refine xh (Paired.mapP hW λx p h=>(h.but (Tups.of NK) λb o _ e=>NK _ _ e).but tp kp) (WantE.but ⟨c,lt,e,rfl,eD,SqT.of gc,NL,WV⟩ tp kp)
  ·rw[cU,eW,eX,el];rfl
  ·intro p hp;rcases fK.mp hp with z | z
   ·exact wW p z
   ·rw[eG.mp z];refine⟨cH (Iq _ _ _) (by lia),λy hy=>?_⟩;obtain⟨j,_,_,ej⟩:=Q3.mp hy;exact bV ej
 ·intro ys G AC;obtain⟨sG,gD,W,hW,eW,wW⟩:=AC;rw[lxl,gN]at eW;have wl:W.length=(LL ws).length:=(by rw[<-eW,aJ]);have yl:ys.length=W.length:=Paired.length hW;have wide:∀l∈LL ws,l.length=ws.length:=λl hl=>(by rw[(ja _).wide l hl,aJ]);have w1:∀p∈W,p.1.length=ws.length:=λp hp=>wide _ (by rw[<-eW];exact List.mem_map_of_mem hp);have w3:=sk.hi;have w0:=sk.lo;refine⟨_,rfl,D,rfl,⟨_,SqL.of gD⟩,λD2 FZ=>?_⟩;refine dy (K:=K) (a:=D) (xs:=ys) (λi zs G'=>Same G G'/\G' D2=some (.lst zs)/\Holds K G' zs ((W.take i).map λp=>u7 (Dx p.1 p.2))) ⟨ae FZ _,af,.nil⟩ (λi zs G' z=>z.2.1) (λi zs G' _ z=>SqL.of (z.1 _ _ gD)) ?_ ?_
  ·intro i y zs G' hy AC;obtain⟨EG,CO,CV⟩:=AC;obtain⟨p,ep,c,a,e,rfl,_,hc,ha,he⟩:=j6 hW hy;have pm:=bV ep;have zl:zs.length<=24:=(by rw[CV.length,aJ,cK];lia);refine⟨bj (by lia),c,_,rfl,hc.same EG,rfl,_,_,rfl,_,_,rfl,rfl,⟨[some _,some _],rfl,rfl⟩,?_⟩;refine⟨_,rfl,_,rfl,a,e,p.1,p.2,rfl,ha.same EG,he.same1 EG,λz hz=>by rw[w1 p pm];exact wide z ((wW p pm).2 z hz),by rw[w1 p pm];lia,(wW p pm).1,λr G5 s5 hr5=>?_⟩;have d5:=s5 _ _ CO;refine⟨d5,Same.put (Same.trans EG s5) FZ _,af,?_⟩;rw[eX,ep,cU];exact Holds.append (Holds.stay ((Tups.of s5).trans (Tups.put d5 _)) (d8 (λ(p:List Int×List (List Int))=>Gn (Dx p.1 p.2)) _) CV) (.one (hr5.stay (Tups.put d5 _) (Gn _)))
  ·intro zs G' AC;obtain⟨EG,CO,CV⟩:=AC;rw[yl,gN]at CV;refine⟨_,rfl,D2,D,W.map (λp=>Dx p.1 p.2),W,ws.length,rfl,TabAt.new CO (by rw[oF];exact CV),WantAt.mono ⟨ys,SqL.of gD,Paired.mapP hW λx p AD=>by obtain⟨c,a,e,z1,_,z3,z4,z5⟩:=AD;exact⟨c,a,e,z1,z3,z4,z5⟩⟩ EG,⟨λr hr=>?_,by rw[aJ];lia⟩,w1,w0,by lia,λt T G6 s6 ht _ _=>?_⟩
   ·obtain⟨p,hp,rfl⟩:=jN.mp hr;have e1:=w1 p hp;refine⟨by show(p.1.map some).length=_;rw[aJ,e1],by show(p.2.map (jc p.1)).length<=36;rw[aJ];exact(wW p hp).1,λd hd=>?_⟩;obtain⟨z,hz,rfl⟩:=jN.mp hd;rw[Gs (by rw[e1];exact wide z ((wW p hp).2 z hz)),e1]
   ·exact q2 du nz t T G6 (Same.trans CU (Same.trans s4 (Same.trans sG (Same.trans EG s6)))) ht
end
structure Wds (ws:List (Str×Nat)):Prop where
 nd:(ws.map (·.1)).Nodup
 len:∀w∈ws,∀v∈ws,w.1.length=v.1.length
def Tail (fi:Int)(tl:Str)(ws:List (Str×Nat)):Prop:=∀(i:Nat)(w:Str×Nat),ws[i]?=some w->∃c,atI abc.cps.toList ((fi+9 * (0+(i:Int))) % 26)=some c/\w.1=⟨#[c]⟩++tl
theorem Sj {fi:Int}{tl:Str}:Tail fi tl []:=λi w h=>by cases h
theorem Pg {fi:Int}{tl:Str}{ws:List (Str×Nat)}{i k c:Nat}(h:Tail fi tl ws)(wl:ws.length=i)(e:atI abc.cps.toList ((fi+9 * (0+(i:Int))) % 26)=some c):Tail fi tl (ws++[(⟨#[c]⟩++tl,k)]):=λj w hj=>by
 rcases Nat.lt_or_ge j ws.length with z | z
 ·rw[eK z]at hj;exact h j w hj
 ·have FV:j=ws.length:=by
   have:=(aM.mp hj).1;rw[aQ]at this;simp at this;lia
  subst FV;rw[gF (aN _),yR]at hj;cases hj;rw[wl];exact⟨c,e,rfl⟩
theorem Ww {v u:Int}{c:Nat}(v0:0<=v)(v1:v < 26)(u0:0<=u)(u1:u < 26)(h:atI abc.cps.toList v=some c)(g:atI abc.cps.toList u=some c):v=u:=by
 have key:∀n:Nat,n < 26->abc.cps.toList[n]?=some (97+n):=(by decide +kernel);have hv:=key v.toNat (by lia);have hu:=key u.toNat (by lia);have a1:atI abc.cps.toList ((v.toNat:Nat):Int)=some (97+v.toNat):=bp hv;have a2:atI abc.cps.toList ((u.toNat:Nat):Int)=some (97+u.toNat):=bp hu;rw[show((v.toNat:Nat):Int)=v by lia,h]at a1;rw[show((u.toNat:Nat):Int)=u by lia,g]at a2;have e1:=cZ a1;have e2:=cZ a2;lia
theorem Sk {c d:Nat}{x:Str}(h:(⟨#[c]⟩++x:Str)=⟨#[d]⟩++x):c=d:=by
 have e:∀c:Nat,((⟨#[c]⟩:Str)++x).cps.toList=c::x.cps.toList:=λc=>by
  show(#[c]++x.cps).toList=_;simp
 have z:=congrArg (λs:Str=>s.cps.toList) h;simp only[e]at z;exact(uY z).1
theorem Tail.ok {fi:Int}{tl:Str}{ws:List (Str×Nat)}(h:Tail fi tl ws)(l3:ws.length<=3)(f0:0<=fi)(f1:fi < 26):Wds ws where
 nd:=by
  unfold List.Nodup;rw[List.pairwise_iff_getElem];intro i j hi hj WH;rw[aJ]at hi hj;rw[List.getElem_map,List.getElem_map];obtain⟨c,ec,wc⟩:=h i _ (aK (show i < ws.length by lia));obtain⟨d,ed,wd⟩:=h j _ (aK hj);intro z;rw[wc,wd]at z;have:=Sk z;subst this;have m1:=gh (fi+9 * (0+(i:Int))) (m:=26) (by decide);have m2:=gh (fi+9 * (0+(j:Int))) (m:=26) (by decide);have:=Ww m1.1 m1.2 m2.1 m2.2 ec ed;lia
 len:=λw hw v hv=>by
  obtain⟨i,hi⟩:=jJ hw;obtain⟨j,hj⟩:=jJ hv;obtain⟨c,_,e⟩:=h i w hi;obtain⟨d,_,g⟩:=h j v hj;rw[e,g,oQ,oQ];rfl
def prd:List Nat->Nat
 | []=>1
 |c::cs=>c * prd cs
theorem Ha:∀(cs:List Nat)(k:Nat),prd (cs++[k])=prd cs * k
 | [],k=>by show k * 1=1 * k;lia
 |c::cs,k=>by show c * prd (cs++[k])=c * prd cs * k;rw[Ha cs k,xW]
theorem Sl {cs:List Nat}{k:Nat}{lf:Int}(h:(prd cs:Int) * lf<=24)(k1:1<=k)(l0:0<=lf):(prd (cs++[k]):Int) * (lf / (k:Int))<=24:=by
 rw[Ha,Int.natCast_mul,Int.mul_assoc];have h1:(k:Int) * (lf / (k:Int))<=lf:=Int.mul_ediv_self_le (by lia);exact Int.le_trans (Int.mul_le_mul_of_nonneg_left h1 (uP _)) h
def Dc (K:aB):Sp:=λvs H Q _=>∃(n l:Int),vs=[.int n,.int l]/\1<=l/\l<=3/\
 ∀(sp:Addr)(ws:List (Str×Nat)) (H':Hp),Same H H'->Hold K H' (.ref sp) (fw ws)->fo ws->Wds ws->prd (ws.map (·.2))<=24->l<=(ws.length:Int)->Q (.ref sp) H'
theorem di:∀{ws:List (Str×Nat)}{w:Str×Nat},(ws.map (·.1)).Nodup->w∈ws->∃i,look ws w.1=some (i,w.2)
 |v::r,w,nd,h=>by
  rw[gU,List.nodup_cons]at nd;rcases aX.mp h with e | e
  ·subst e;exact⟨0,if_pos rfl⟩
  ·obtain⟨i,hi⟩:=di nd.2 e;have ne:v.1≠w.1:=λz=>nd.1 (by rw[z];exact List.mem_map_of_mem e);refine⟨i+1,?_⟩;rw[look,if_neg ne,hi];rfl
theorem Dd:∀{ws:List (Str×Nat)}{x:Str},(∀w∈ws,w.1≠x)->look ws x=none
 | [],_,_=>rfl
 |v::r,x,h=>by
  rw[look,if_neg (h v eF),Dd λw hw=>h w (cX _ hw)];rfl
theorem Hb {ws:List (Str×Nat)}(h:Wds ws){w:Str×Nat}(hw:w∈ws){v:Int}(v0:0<=v)(v1:v < (w.2:Int)):dj ws w.1 v=none:=by
 obtain⟨i,hi⟩:=di h.nd hw;unfold dj;rw[hi];exact if_pos ⟨v0,v1⟩
theorem Ph {ws:List (Str×Nat)}(h:Wds ws){w:Str×Nat}(hw:w∈ws){v:Int}(n:¬(0<=v/\v < (w.2:Int))):dj ws w.1 v=some (.value v):=by
 obtain⟨i,hi⟩:=di h.nd hw;unfold dj;rw[hi];exact if_neg n
theorem Pi {ws:List (Str×Nat)}(h:Wds ws){w:Str×Nat}(hw:w∈ws)(v:Int):dj ws (w.1++"x") v=some (.field (w.1++"x")):=by
 have z:look ws (w.1++"x")=none:=Dd λu hu e=>by
  have l1:=h.len u hu w hw;rw[e,oQ]at l1;have:("x":Str).length=1:=(by decide +kernel);lia
 unfold dj;rw[z]
section
variable {P:aU}{w:aZ}{K:aB}{mg:Str->Option aC}{base:Heap}
theorem Ly {f fP fT:Addr}{fd FK EF:bQ}(F:Fun K "_law_speech" "_law_speech" Bv f fd)
  (GP:‹1› fP FK zz0 B0) (bP:Binds K FK zz0 []) (kP:aR K (.ref fP)=true) (mP:mg "_law_purse"=some (.ref fP))
  (GT:‹1› fT EF zzv Av) (bT:Binds K EF zzv []) (kT:aR K (.ref fT)=true) (mT:mg "_law_take"=some (.ref fT))
  (mr:mg "range"=none) (mx:mg "max"=none) (mn:mg "min"=none) (mt:mg "tuple"=none):‹2› f fd zzh (Dc K):=by
 exists F,p9
 ·obtain⟨n,l,rfl,_⟩:=h;rfl
 obtain⟨n,l,rfl,l1,l3,q⟩:=h;refine⟨_,ai (bf (i:=2) p9.nd rfl (cD rfl) (ar GP hr rfl mP kP bP .nil bb (aa (pv 0) ag))) (ai (bf (i:=3) p9.nd rfl (cD rfl) (ar GT hr rfl mT kT bT .nil bb (aa (pv 2) (aa ah ag)))) (ai (bf (i:=4) p9.nd rfl (cD rfl) bg) (ai (bf (i:=5) p9.nd rfl (cD rfl) (av ax (bc (aa ah (aa ah (aa ah (aa ah (aa ah (aa ah (aa ah (aa ah ag))))))))) (ar GT hr rfl mT kT bT .nil bb (aa (pv 2) (aa ah ag))) (λ_ _=>rfl))) (ai (bf (i:=6) p9.nd rfl (cD rfl) (bz (Cg rfl) rfl mx (by kernel_rfl) (aa (pv 1) (aa (ba gy ah (ar GT hr rfl mT kT bT .nil bb (aa (pv 2) (aa ah ag)))) ag)))) (ai (bf (i:=7) p9.nd rfl (cD rfl) (cn Xo bg cy (cv (ar GT hr rfl mT kT bT .nil bb (aa (pv 2) (aa ah ag)))))) (ai (bf (i:=8) p9.nd rfl (cD rfl) (bc ag)) (ai (fh fX rfl (i6 rfl mr (aa (pv 6) ag)) (bo (i:=9) p9.nd rfl (cD rfl)) (ai (bf (i:=10) p9.nd rfl (cD rfl) (bz (Ml rfl) rfl mn (by kernel_rfl) (aa (av ax (bc (aa ah (aa ah (aa ah (aa ah (aa ah (aa ah ag))))))) (ar GT hr rfl mT kT bT .nil bb (aa (pv 2) (aa ah ag))) (λ_ _=>rfl)) (aa (pv 5) ag)))) (ai (bf (i:=5) p9.nd rfl (cD rfl) (ba xm (pv 5) (pv 10))) (ak (df (ki fG jF jG gq (pv 8) (aa (cb (aa (ba t9 (av Xl (pv 4) (ba gz (ba gy (pv 3) (ba r8 ah (pv 9))) ah) (λ_ _=>rfl)) (pv 7)) (aa (pv 10) ag))) ag))))))) (ak (az (n9 jx rfl mt (by kernel_rfl) (aa (pv 8) ag))))))))))),?_⟩;dsimp only[bh,Cx.nox];refine⟨_,rfl,n,rfl,λr a0 b0 CF SN SO=>?_⟩;refine⟨_,rfl,r,a0,b0,26,rfl,af,SN,SO,by decide,by decide,λfi a1 b1 G1 fi0 fi1 a1' b1' g1 k1=>?_⟩;have s1:Same H G1:=Same.keep (ae CF _) CF k1;refine⟨sz8,λp2 BC=>?_⟩;have WW:r≠p2:=aq g1 BC;refine⟨_,rfl,r,a1,b1,8,rfl,(by rw[ao WW];exact g1),a1',b1',by decide,by decide,λv2 a2 b2 G2 SQ SR a2' b2' g2 k2=>?_⟩;obtain⟨lf,WX,lfe⟩:=E9 (ns:=[8,8,6,8,12,8,4,24]) SQ SR;have s2:Same H G2:=Same.keep (Same.trans s1 (ae BC _)) CF k2;refine⟨p2,_,_,_,rfl,rfl,SqL.of (k2 _ _ WW.symm af),lfe,?_⟩;have lf1:1<=lf:=by
  simp only[aX,dQ,or_false]at WX;lia
 refine⟨_,rfl,_,rfl,r,a2,b2,3,rfl,g2,a2',b2',by decide,by decide,λv3 a3 b3 G3 WY WZ a3' b3' g3 k3=>?_⟩;have s3:Same H G3:=Same.keep s2 CF k3;refine⟨_,_,rfl,rfl,_,_,rfl,?_⟩;have hM:∃M:Int,(if 1+v3 > l then 1+v3 else l)=M/\1<=M/\M<=3:=⟨_,rfl,by split<;>lia,by split<;>lia⟩
 obtain⟨M,eM,M1,M3⟩:=hM;rw[eM];refine⟨_,rfl,r,a3,b3,8,rfl,g3,a3',b3',by decide,by decide,λv4 a4 b4 G4 v40 v41 a4' b4' g4 k4=>?_⟩;have s4:Same H G4:=Same.keep s3 CF k4;refine⟨_,rfl,_,rfl,(by decide +kernel),?_⟩;obtain⟨tl,etl,tlc,tl7⟩:∃tl:Str,wQ ("abcdefg":Str) none (some v4)=tl/\(∀c∈tl.cps.toList,97<=c/\c<=122)/\tl.length<=7:=⟨_,rfl,Qk v40 v41,cH (PySem.Txt.slice_le ("abcdefg":Str) none (some v4)) (by decide +kernel)⟩;rw[etl];refine⟨sz0,λu hu=>?_⟩;have ru:r≠u:=aq g4 hu;have XA:H u=none:=Same.free s4 hu;refine⟨_,rfl,M,rfl,by lia,by lia,ny (n:=M.toNat) (λi σ G=>∃(lf a b:Int)(ws:List (Str×Nat)) (xs:List V) (v9 SS:Option V),σ=[some (.int n),some (.int l),some (.ref r),some (.int fi),some (.str abc),some (.int lf),some (.int M),some (.str tl),some (.ref u),v9,SS]/\Same H G/\G r=some (.lst [.int a,.int b])/\0<=a/\0<=b/\1<=lf/\G u=some (.lst xs)/\Holds K G xs (ws.map Ta)/\ws.length=i/\(∀w∈ws,1<=w.2/\w.2<=6)/\(∀w∈ws,vw w.1)/\Tail fi tl ws/\(prd (ws.map (·.2)):Int) * lf<=24) ?_ ?_ ?_⟩
 ·exact⟨lf,a4,b4,[],[],none,none,rfl,Same.put s4 XA _,(by rw[ao ru];exact g4),a4',b4',lf1,af,.nil,rfl,(λw hw=>nomatch hw),(λw hw=>nomatch hw),Sj,(by simp only[aX,dQ,or_false]at WX;show(1:Int) * lf<=24;lia)⟩
 ·intro i σ G hi AC;obtain⟨lf,a,b,ws,xs,v9,SS,rfl,sG,gr,ha,hb,XB,gu,hd,wl,wc,ww,tw,pd⟩:=AC;generalize AJ:gg.mk _ _ _ _=BG;revert AJ BG;refine id ?_;intro BG AJ;refine⟨sz6,λp hp=>?_⟩;have rp:r≠p:=aq gr hp;have up:u≠p:=aq gu hp;refine⟨_,rfl,r,a,b,6,rfl,(by rw[ao rp];exact gr),ha,hb,by decide,by decide,λv a' b' G' v0 v1 IG RY g' k'=>?_⟩;obtain⟨c,cm,ce⟩:=E9 (ns:=[2,3,4,1,6,5]) v0 v1;have EG:Same H G':=Same.keep (Same.trans sG (ae hp _)) CF k';refine⟨p,_,_,_,rfl,rfl,SqL.of (k' _ _ rp.symm af),ce,_,rfl,_,_,rfl,?_⟩;have hc:∃k:Nat,(if lf < c then lf else c)=(k:Int)/\1<=k/\k<=6/\(k:Int)<=lf:=by
   simp only[aX,dQ,or_false]at cm;refine⟨(if lf < c then lf else c).toNat,?_,?_,?_,?_⟩<;>split<;>lia
  obtain⟨k,ek,XC,k6',klf⟩:=hc;rw[ek];refine⟨_,rfl,_,rfl,_,_,rfl,rfl,⟨by lia,by lia⟩,?_⟩;have ur:u≠r:=ru.symm;have IK:G' u=some (.lst xs):=k' _ _ ur (by rw[ao up];exact gu);have XD:=gh (fi+9 * (0+(i:Int))) (m:=26) (by decide);obtain⟨ch,XE,chr⟩:=Xt XD.1 XD.2;refine⟨_,rfl,.inl ⟨rfl,_,SqL.of IK⟩,_,rfl,_,rfl,_,rfl,_,_,rfl,rfl,.inl ⟨by decide,by decide⟩,_,_,rfl,rfl,_,_,rfl,rfl,(by show(0:Int) < 26;decide),_,_,ch,rfl,rfl,(by decide +kernel),XE,_,rfl,_,_,rfl,rfl,?_,_,rfl,sz2,λt ht=>?_⟩
  ·exact small (by show 1+tl.length<=1000;lia)
  have ut:u≠t:=aq IK ht;have JS:H t=none:=Same.free EG ht;refine⟨u,xs,.ref t,rfl,rfl,(by rw[ao ut];exact IK),?_,?_⟩
  ·have z:=hd.length;rw[aJ]at z;exact bj (by lia)
  have rt:r≠t:=aq g' ht;have tG:Tups G G':=(Tups.of (ae hp _)).trans (Tups.but (u:=r) (by rw[ao rp];exact gr) k');have tN:Tups G (upd (upd G' t (.tup [.str (⟨#[ch]⟩++tl),.int (k:Int)])) u (.lst (xs++[.ref t]))):=(tG.trans (Tups.of (ae ht _))).trans (Tups.put (by rw[ao ut];exact IK) _);subst AJ;refine⟨lf / (k:Int),a',b',ws++[(⟨#[ch]⟩++tl,k)],xs++[.ref t],_,_,rfl,Same.put (Same.put EG JS _) XA _,(by rw[ao ur.symm,ao rt];exact g'),IG,RY,?_,af,?_,(by rw[aQ,wl];rfl),λx hx=>?_,λx hx=>?_,Pg tw wl XE,(by rw[cU];exact Sl pd XC (by lia))⟩
  ·exact(Int.le_ediv_iff_mul_le (by lia)).mpr (by lia)
  ·rw[cU];refine Holds.append (Holds.stay tN (d8 (λ_=>rfl) ws) hd) (.one (.tup (SqT.of ?_) (.cons (.flat rfl) (.cons (.flat rfl) .nil))));rw[ao ut.symm,af]
  ·rcases fK.mp hx with z | z
   ·exact wc x z
   ·rw[eG.mp z];exact⟨XC,k6'⟩
  ·rcases fK.mp hx with z | z
   ·exact ww x z
   ·rw[eG.mp z];exact Nk chr tl7 tlc
 ·intro σ G AC;obtain⟨lf,a,b,ws,xs,v9,SS,rfl,sG,gr,ha,hb,XB,gu,hd,wl,wc,ww,tw,pd⟩:=AC;have p24:prd (ws.map (·.2))<=24:=by
   have h1:(prd (ws.map (·.2)):Int) * 1<=(prd (ws.map (·.2)):Int) * lf:=Int.mul_le_mul_of_nonneg_left XB (uP _);lia
  refine⟨_,rfl,u,xs,rfl,.inl ⟨SqL.of gu,λt ht=>?_⟩⟩;exact q t ws _ (Same.put sG (Same.free sG ht) _) (.tup (SqT.of af) (Holds.mono (ae ht _) hd)) ⟨by lia,by lia,wc,ww⟩ (tw.ok (by lia) fi0 fi1) p24 (by lia)
end
def ntot (is:List dk):Nat:=(is.map λi=>i.1.nts).sum
theorem zw (a b:List dk):ntot (a++b)=ntot a+ntot b:=by simp[ntot]
theorem Hc:∀is:List dk,(is.map λi=>(i.1.nts:Int)).sum=((ntot is:Nat):Int)
 | []=>rfl
 |i::r=>by
  rw[gU,List.sum_cons,Hc r];simp[ntot]
structure Gd (ws:List (Str×Nat))(is:List dk)(m:Nat):Prop where
 due:∀i∈is,i.1.due ws=none
 nts:ntot is<=m
theorem Gd.it {ws:List (Str×Nat)}{is:List dk}{i:dk}{m:Nat}(h:Gd ws (is++[i]) m):i.1.due ws=none:=h.due i (by simp)
theorem Gd.nt1 {ws:List (Str×Nat)}{i:dk}{m:Nat}(h:Gd ws ([]++[i]) m):i.1.nts<=m:=by
 have:=h.nts;simp[ntot]at this;exact this
theorem Gd.snoc {ws:List (Str×Nat)}{is:List dk}{s:Say}{d:Int}{m:Nat}(h:Gd ws is m)(e:s.due ws=none)(n:ntot is+s.nts<=m):Gd ws (is++[(s,d)]) m where
 due:=λi hi=>by
  rcases fK.mp hi with z | z
  ·exact h.due i z
  ·rw[eG.mp z];exact e
 nts:=by rw[zw];simpa[ntot]using n
theorem Gd.last {ws:List (Str×Nat)}{is:List dk}{i:dk}{s:Say}{d:Int}{m:Nat}(h:Gd ws (is++[i]) m)(e:s.due ws=none)(n:s.nts<=i.1.nts):Gd ws (is++[(s,d)]) m where
 due:=λj hj=>by
  rcases fK.mp hj with z | z
  ·exact h.due j (lT _ z)
  ·rw[eG.mp z];exact e
 nts:=by
  have:=h.nts;rw[zw]at this ⊢;simp[ntot]at this ⊢;lia
theorem Gd.join {ws:List (Str×Nat)}{is:List dk}{i j:dk}{s:Say}{d:Int}{m:Nat}(h:Gd ws (is++[i,j]) m)(n:s.nts=i.1.nts+j.1.nts)(e:s.due ws=(i.1.due ws).or (j.1.due ws)):Gd ws (is++[(s,d)]) m where
 due:=λk hk=>by
  rcases fK.mp hk with z | z
  ·exact h.due k (lT _ z)
  ·rw[eG.mp z];show s.due ws=none;rw[e,h.due i (by simp),h.due j (by simp)];rfl
 nts:=by
  have:=h.nts;rw[zw]at this ⊢;simp[ntot]at this ⊢;lia
def Jt (K:aB):Sp:=λvs H Q _=>∃(st a b:Int)(p sp:Addr) (ws:List (Str×Nat)),vs=[.int st,.ref p,.ref sp]/\0<=st/\st<=3/\H p=some (.lst [.int a,.int b])/\0<=a/\0<=b/\Hold K H (.ref sp) (fw ws)/\fo ws/\Wds ws/\
 ∀(x:V)(s:Say) (G:Hp),Keep p H G->Hold K G x s.da->s.isT=!decide (V.int st=V.int 1)->s.nts=0->s.size=1->s.due ws=none->Q x G
def xi (K:aB):Sp:=λvs H Q _=>∃(r:Addr)(wd:Str) (xs:List V) (AV:List dk) (i1 i2:dk),vs=[.ref r,.str wd]/\(wd="either"\/wd="then")/\H r=some (.lst xs)/\Holds K H xs ((AV++[i1,i2]).map fz)/\AV.length<=500/\
 ∀(r':Addr)(CC:List V) (s:Say) (d:Int) (H':Hp),Same H H'->H' r'=some (.lst CC)->Holds K H' CC ((AV++[(s,d)]).map fz)->s.size=i1.1.size+i2.1.size+1->s.nts=i1.1.nts+i2.1.nts->(∀ws,s.due ws=(i1.1.due ws).or (i2.1.due ws))->Q (.ref r') H'
def Hd (K:aB):Sp:=λvs H Q _=>∃(r sp:Addr)(cell:Int) (most:Nat) (xs:List V) (AV:List dk) (it:dk) (ws:List (Str×Nat)),vs=[.ref r,.int cell,.ref sp,.int (most:Int)]/\H r=some (.lst xs)/\Holds K H xs ((AV++[it]).map fz)/\d0 (AV++[it])<=300/\
 Hold K H (.ref sp) (fw ws)/\fo ws/\Wds ws/\Gd ws (AV++[it]) most/\
 ∀(r':Addr)(CC:List V) (js:List dk) (j:dk) (H':Hp),Same H H'->H' r'=some (.lst CC)->Holds K H' CC ((js++[j]).map fz)->d0 (js++[j])<=d0 (AV++[it])+1->Gd ws (js++[j]) most->Q (.ref r') H'
def De (K:aB):Sp:=λvs H Q _=>∃(c sp:Addr)(m:Nat) (xs:List V) (ws:List (Str×Nat)),vs=[.ref c,.ref sp,.int (m:Int)]/\SqL K H c xs/\(∀x∈xs,∃n,x=V.int n)/\xs.length<=26/\Hold K H (.ref sp) (fw ws)/\fo ws/\Wds ws/\
 ∀(y:V)(s:Say) (H':Hp),Same H H'->Hold K H' y s.da->s.size<=54->s.due ws=none->s.nts<=m->Q y H'
section
variable {P:aU}{w:aZ}{K:aB}{mg:Str->Option aC}{base:Heap}
theorem Sn {f fT:Addr}{fd EF:bQ}(F:Fun K "_law_lone" "_law_lone" Kt f fd)(GT:‹1› fT EF zzv Av)(bT:Binds K EF zzv [])
  (kT:aR K (.ref fT)=true) (mT:mg "_law_take"=some (.ref fT)) (ml:mg "len"=none):‹2› f fd zzs (Jt K):=by
 exists F,Qq
 ·obtain⟨st,a,b,p,sp,ws,rfl,_⟩:=h;rfl
 obtain⟨st,a,b,p,sp,ws,rfl,st0,ET,hp,ha,hb,hs,sk,wd,q⟩:=h;refine⟨_,ai (vj (av cq (pv 2) (ar GT hr rfl mT kT bT .nil bb (aa (pv 1) (aa (bz cg rfl ml gT (aa (pv 2) ag)) ag))) (λ_ _=>rfl)) (vi rfl (e8 (bo (i:=3) Qq.nd rfl (cD rfl)) (e8 (bo (i:=4) Qq.nd rfl (cD rfl)) lh)))) (ak (az (av ax (bc (aa (cb (aa bg (aa (pv 3) (aa (ar GT hr rfl mT kT bT .nil bb (aa (pv 1) (aa (pv 4) ag))) ag)))) (aa (cb (aa bg (aa (pv 3) (aa (ar GT hr rfl mT kT bT .nil bb (aa (pv 1) (aa (pv 4) ag))) ag)))) (aa (cb (aa bg ag)) (aa (cb (aa bg ag)) ag))))) (pv 0) (λ_ _=>rfl)))),?_⟩;dsimp only[bh,Cx.nox];obtain⟨a',vs,ea,AY,hd⟩:=Hold.tupI hs;cases ea;have lv:vs.length=ws.length:=(by rw[hd.length,aJ]);have s1:=sk.lo;have s3:=sk.hi;refine⟨_,rfl,_,rfl,_,rfl,sp,_,rfl,.inr AY,p,a,b,_,rfl,hp,ha,hb,by lia,by lia,λv a1 b1 G1 v0 v1 PN IU g1 k1=>?_⟩;have hv:v.toNat < vs.length:=(by lia);have ev:atI vs v=some vs[v.toNat]:=by
  have z:atI vs ((v.toNat:Nat):Int)=some vs[v.toNat]:=bp (aK hv)
  rwa [show((v.toNat:Nat):Int)=v by lia]at z
 obtain⟨w',ew,hw⟩:=hd.getm (aK hv);obtain⟨c,ys,ec,hc,BO⟩:=Hold.tupI hw;have h6:=sk.cnt w' (bV ew);have t1:Tups H G1:=Tups.but hp k1;refine⟨sp,_,_,_,rfl,rfl,AY.tups t1,ev,?_⟩;rw[ec];cases BO with
 |cons h1 r1=>
  cases r1 with
  |cons h2 r2=>
   cases r2;cases h1.flatI;cases h2.flatI;refine⟨c,_,rfl,hc.tups t1,rfl,_,_,rfl,_,_,rfl,rfl,?_⟩;refine⟨_,rfl,_,rfl,_,rfl,p,a1,b1,_,rfl,g1,PN,IU,by lia,by lia,λv2 a2 b2 G2 SQ SR NM JU g2 k2=>⟨sz3,λt1 LK=>?_⟩⟩;have XF:p≠t1:=aq g2 LK;refine⟨_,rfl,_,rfl,_,rfl,p,a2,b2,_,rfl,(by rw[ao XF];exact g2),NM,JU,by lia,by lia,λv3 a3 b3 G3 WY WZ NN EO g3 k3=>⟨sz3,λt2 PM=>?_⟩⟩;refine⟨sz1,λt3 KL=>⟨sz1,λt4 PP=>⟨sz4,λl hl=>?_⟩⟩⟩;have e1:G3 t1=some (.tup [.str "is",.str w'.1,.int v2]):=k3 _ _ XF.symm af;have kp:Keep p H (upd (upd (upd (upd G3 t2 (.tup [.str "put",.str w'.1,.int v3])) t3 (.tup [.str "all"])) t4 (.tup [.str "none"])) l (.lst [.ref t1,.ref t2,.ref t3,.ref t4])):=
    ((((((Keep.trans k1 k2).new LK _).trans k3).new PM _).new KL _).new PP _).new hl _
   have sN:Same G3 (upd (upd (upd (upd G3 t2 (.tup [.str "put",.str w'.1,.int v3])) t3 (.tup [.str "all"])) t4 (.tup [.str "none"])) l (.lst [.ref t1,.ref t2,.ref t3,.ref t4])):=
    Same.trans (Same.trans (Same.trans (ae PM _) (ae KL _)) (ae PP _)) (ae hl _)
   have sN2:Same (upd G3 t2 (.tup [.str "put",.str w'.1,.int v3])) (upd (upd (upd (upd G3 t2 (.tup [.str "put",.str w'.1,.int v3])) t3 (.tup [.str "all"])) t4 (.tup [.str "none"])) l (.lst [.ref t1,.ref t2,.ref t3,.ref t4])):=
    Same.trans (Same.trans (ae KL _) (ae PP _)) (ae hl _)
   have sN3:Same (upd (upd G3 t2 (.tup [.str "put",.str w'.1,.int v3])) t3 (.tup [.str "all"])) (upd (upd (upd (upd G3 t2 (.tup [.str "put",.str w'.1,.int v3])) t3 (.tup [.str "all"])) t4 (.tup [.str "none"])) l (.lst [.ref t1,.ref t2,.ref t3,.ref t4])):=
    Same.trans (ae PP _) (ae hl _)
   have four:st=0\/st=1\/st=2\/st=3:=(by lia);rcases four with e | e | e | e
   ·subst e;refine⟨_,rfl,l,_,_,_,rfl,rfl,SqL.of af,rfl,?_⟩;exact q (.ref t1) (.is ⟨w'.1,qg (sk.word w' (bV ew))⟩ ⟨v2,vy ⟨by lia,by lia⟩⟩) _ kp (.tup (SqT.of (sN _ _ e1)) (.cons (.flat rfl) (.cons (.flat rfl) (.cons (.flat rfl) .nil)))) rfl rfl rfl (Hb wd (bV ew) SQ SR)
   ·subst e;refine⟨_,rfl,l,_,_,_,rfl,rfl,SqL.of af,rfl,?_⟩;exact q (.ref t2) (.put ⟨w'.1,qg (sk.word w' (bV ew))⟩ ⟨v3,vy ⟨by lia,by lia⟩⟩) _ kp (.tup (SqT.of (sN2 _ _ af)) (.cons (.flat rfl) (.cons (.flat rfl) (.cons (.flat rfl) .nil)))) rfl rfl rfl (Hb wd (bV ew) WY WZ)
   ·subst e;refine⟨_,rfl,l,_,_,_,rfl,rfl,SqL.of af,rfl,?_⟩;exact q (.ref t3) .every _ kp (.tup (SqT.of (sN3 _ _ af)) (.cons (.flat rfl) .nil)) rfl rfl rfl rfl
   ·subst e;refine⟨_,rfl,l,_,_,_,rfl,rfl,SqL.of af,rfl,?_⟩;exact q (.ref t4) .nought _ kp (.tup (SqT.of (ae hl _ _ _ af)) (.cons (.flat rfl) .nil)) rfl rfl rfl rfl
theorem Lz {f:Addr}{fd:bQ}(F:Fun K "_law_joined" "_law_joined" Bw f fd)(mx:mg "max"=none):‹1› f fd zzk (xi K):=by
 exists F,K1
 ·obtain⟨r,wd,xs,AV,i1,i2,rfl,_⟩:=h;rfl
 obtain⟨r,wd,xs,AV,i1,i2,rfl,SU,gr,hd,l500,q⟩:=h;refine⟨_,ai (vj (cn dq (pv 0) (cv (m9 jt ah)) cy) (M5 rfl (e8 (bo (i:=2) K1.nd rfl (cD rfl)) (e8 (bo (i:=3) K1.nd rfl (cD rfl)) lh)))) (ai (bf (i:=4) K1.nd rfl (cD rfl) (cb (aa (pv 1) (aa (av ax (pv 2) ah (λ_ _=>rfl)) (aa (av ax (pv 3) ah (λ_ _=>rfl)) ag))))) (ak (az (ba d9 (cn dq (pv 0) cy (cv (m9 jt ah))) (bc (aa (bc (aa (pv 4) (aa (Ma (av ax (pv 2) ah (λ_ _=>rfl)) (L9 (av ax (pv 3) ah (λ_ _=>rfl)))) (aa (ba gy (av ax (pv 2) ah (λ_ _=>rfl)) (av ax (pv 3) ah (λ_ _=>rfl))) (aa (bz (Cg rfl) rfl mx (by kernel_rfl) (aa (av ax (pv 2) ah (λ_ _=>rfl)) (aa (av ax (pv 3) ah (λ_ _=>rfl)) ag))) ag))))) ag)))))),?_⟩;dsimp only[bh,Cx.nox];obtain⟨ys,x1,x2,rfl,hy,EE,KC⟩:=Hj hd;obtain⟨c1,y1,rfl,HU,SV⟩:=oa EE;obtain⟨c2,y2,rfl,DB,hy2⟩:=oa KC;have ly:ys.length=AV.length:=(by rw[hy.length,aJ]);refine⟨_,rfl,_,rfl,_,rfl,r,_,rfl,SqL.of gr,λp hp=>?_⟩;rw[show -(2:Int)=-2 from rfl,Nq];have sp:Same H (upd H p (.lst [.ref c1,.ref c2])):=ae hp _;refine⟨p,_,rfl,SqL.of af,rfl,_,_,rfl,_,_,rfl,rfl,?_⟩;refine⟨_,rfl,_,rfl,c1,_,_,_,rfl,rfl,sp.seq HU,rfl,_,rfl,c2,_,_,_,rfl,rfl,sp.seq DB,rfl,sz3,λt ht=>?_⟩;have st:Same H (upd (upd H p (.lst [.ref c1,.ref c2])) t (.tup [.str wd,y1,y2])):=Same.trans sp (ae ht _);refine⟨_,rfl,_,rfl,_,rfl,r,_,rfl,SqL.of (st _ _ gr),λp2 BC=>?_⟩;rw[show -(2:Int)=-2 from rfl,Qp];have s2:=Same.trans st (ae BC (.lst ys));refine⟨_,rfl,?_⟩;refine andV (c:=i1.1.isT) (d:=i2.1.isT) (λk hk=>⟨_,rfl,c1,_,_,_,rfl,rfl,s2.seq HU,rfl,hk⟩) (λk hk=>⟨_,rfl,c2,_,_,_,rfl,rfl,s2.seq DB,rfl,hk⟩) ?_;refine⟨_,rfl,c1,_,_,_,rfl,rfl,s2.seq HU,rfl,_,rfl,c2,_,_,_,rfl,rfl,s2.seq DB,rfl,_,_,rfl,rfl,_,rfl,c1,_,_,_,rfl,rfl,s2.seq HU,rfl,_,rfl,c2,_,_,_,rfl,rfl,s2.seq DB,rfl,_,_,rfl,sz4,λl hl=>⟨sz1,λl2 AR=>?_⟩⟩;have hp2n:upd (upd H p (.lst [.ref c1,.ref c2])) t (.tup [.str wd,y1,y2]) p2=none:=BC;generalize EY:upd (upd (upd H p (.lst [.ref c1,.ref c2])) t (.tup [.str wd,y1,y2])) p2 (.lst ys)=G2 at s2 hl AR ⊢;have g2p:G2 p2=some (.lst ys):=(by rw[<-EY,af]);have g2t:G2 t=some (.tup [.str wd,y1,y2]):=by
  rw[<-EY];exact ae hp2n _ _ _ af
 generalize SE:(if i2.2 > i1.2 then i2.2 else i1.2)=dd at AR ⊢
 have s3:Same G2 (upd G2 l (.lst [.ref t,.bl (i1.1.isT && i2.1.isT),.int ((i1.1.nts:Int)+(i2.1.nts:Int)),.int dd])):=ae hl _;have s4:=Same.trans s3 (ae AR (.lst [.ref l]));refine⟨p2,l2,_,_,rfl,rfl,s4 _ _ g2p,af,small (by show ys.length+1<=1000;lia),λp3 BU=>?_⟩;have s5:=Same.trans s4 (ae BU (.lst (ys++[.ref l])));have sAll:=Same.trans s2 s5;have gl:upd (upd (upd G2 l (.lst [.ref t,.bl (i1.1.isT && i2.1.isT),.int ((i1.1.nts:Int)+(i2.1.nts:Int)),.int dd])) l2 (.lst [.ref l])) p3 (.lst (ys++[.ref l])) l=some (.lst [.ref t,.bl (i1.1.isT && i2.1.isT),.int ((i1.1.nts:Int)+(i2.1.nts:Int)),.int dd]):=
  Same.trans (ae AR _) (ae BU _) _ _ af
 have go:∀s:Say,s.da=.tup [.flat (.str wd),i1.1.da,i2.1.da]->s.isT=(i1.1.isT && i2.1.isT)->s.nts=i1.1.nts+i2.1.nts->s.size=i1.1.size+i2.1.size+1->(∀ws,s.due ws=(i1.1.due ws).or (i2.1.due ws))->Q (.ref p3) _:=λsy e1 e2 e3 e4 e5=>by
  refine q p3 (ys++[.ref l]) sy dd _ sAll af ?_ e4 e3 e5;rw[cU];refine Holds.append (Holds.mono sAll hy) (.one (j4 (i:=(sy,dd)) gl ?_ e2.symm (by rw[e3];push_cast;rfl)));show Hold K _ (.ref t) sy.da;rw[e1];exact .tup (SqT.of (s5 _ _ g2t)) (.cons (.flat rfl) (.cons (Hold.mono sAll SV) (.cons (Hold.mono sAll hy2) .nil)))
 rcases SU with e | e
 ·exact go (.either i1.1 i2.1) (by rw[e];rfl) rfl rfl rfl (λ_=>rfl)
 ·exact go (.both i1.1 i2.1) (by rw[e];rfl) rfl rfl rfl (λ_=>rfl)
theorem Pj {f fP fT fL fJ:Addr}{fd FK EF XH NO:bQ}(F:Fun K "_law_grown" "_law_grown" Ep f fd)
  (GP:‹1› fP FK zz0 B0) (bP:Binds K FK zz0 []) (kP:aR K (.ref fP)=true) (mP:mg "_law_purse"=some (.ref fP))
  (GT:‹1› fT EF zzv Av) (bT:Binds K EF zzv []) (kT:aR K (.ref fT)=true) (mT:mg "_law_take"=some (.ref fT))
  (GL:‹2› fL XH zzs (Jt K)) (bL:Binds K XH zzs []) (kL:aR K (.ref fL)=true) (mL:mg "_law_lone"=some (.ref fL))
  (GJ:‹1› fJ NO zzk (xi K)) (bJ:Binds K NO zzk []) (kJ:aR K (.ref fJ)=true) (mJ:mg "_law_joined"=some (.ref fJ))
  (ms:mg "sum"=none) (ml:mg "len"=none):‹3› f fd zzx (Hd K):=by
 exists F,Fe
 ·obtain⟨r,sp,cell,most,xs,AV,it,ws,rfl,_⟩:=h;rfl
 obtain⟨r,sp,cell,most,xs,AV,it,ws,rfl,gr,hd,t300,AY,sk,wd,gd,q⟩:=h;have BE:Room 1 _:=hr.mono (by decide);refine⟨_,ai (bf (i:=4) Fe.nd rfl (cD rfl) (ar GP BE rfl mP kP bP .nil bb (aa (pv 1) ag))) (ai (bf (i:=5) Fe.nd rfl (cD rfl) (ar GT BE rfl mT kT bT .nil bb (aa (pv 4) (bq ah ag)))) (ai (bf (i:=6) Fe.nd rfl (cD rfl) (av ax (pv 0) (m9 jt ah) (λ_ _=>rfl))) (ai (de (PW.pt (vh (bx e9 (pv 5) ah (bw _)) (xk (bx Ac (bz (Oo rfl) rfl ms (by kernel_rfl) (aa (dz (ns:=["_law_one"]) (ys:=[]) (sc:=Xz) csC3 rfl (c7 (pv 0)) (λC s H fp=>bo (i:=0) (by show(["_law_one"]:List Str).Nodup;decide +kernel) rfl (cD rfl)) (λC s H fp=>cz) (λC s H fp=>av (r:=Bn K) ax (pv 0) ah (λ_ _=>rfl))) ag)) (pv 3) (bw _))))) (ak (az (ba d9 (pv 0) (bc (aa (bc (aa (cb (bq bg ag)) (bq m8 (bq ah (bq ah ag))))) ag))))) cf) (ai (de (PW.pt (vh (bx e9 (pv 5) ah (bw _)) (xk (nq (av ax (pv 6) ah (λ_ _=>rfl)))))) (ak (az (ba d9 (cn dq (pv 0) cy (cv (m9 jt ah))) (bc (aa (bc (aa (cb (bq bg (aa (av ax (pv 6) ah (λ_ _=>rfl)) ag))) (bq m8 (bq ah (bq ah ag))))) ag))))) cf) (ai (de (PW.pt (vh (bx e9 (pv 5) ah (bw _)) (xk (bx Ac (av ax (pv 6) ah (λ_ _=>rfl)) ah (bw _))))) (ak (az (ba d9 (cn dq (pv 0) cy (cv (m9 jt ah))) (bc (aa (bc (aa (cb (bq bg (aa (av ax (pv 6) ah (λ_ _=>rfl)) ag))) (bq m8 (aa (av ax (pv 6) ah (λ_ _=>rfl)) (aa (ba gy (av ax (pv 6) ah (λ_ _=>rfl)) ah) ag))))) ag))))) cf) (@ai _ _ _ _ _ (de (PW.pt (vh (bx J2 (pv 5) ah (bw _)) (vh (bx Ac (pv 5) ah (bw _)) (xk (bx J2 (bz cg rfl ml gT (aa (pv 0) ag)) ah (bw _)))))) (ak (az (ar GJ BE rfl mJ kJ bJ .nil bb (aa (pv 0) (aa (av ax (bc (bq bg (bq bg ag))) (ba gz (pv 5) ah) (λ_ _=>rfl)) ag))))) cf) (@ai _ _ _ _ _ (@bf _ _ 5 _ _ _ _ Fe.nd rfl (cD rfl) (@av _ _ _ _ _ _ _ (@ax _) (@bc _ _ _ _ (@bq _ _ _ _ _ _ _ (@ah _ _ _ _) (@bq _ _ _ _ _ _ _ (@ah _ _ _ _) (@bq _ _ _ _ _ _ _ (@ah _ _ _ _) (@bq _ _ _ _ _ _ _ (@ah _ _ _ _) (@bq _ _ _ _ _ _ _ (@ah _ _ _ _) (@bq _ _ _ _ _ _ _ (@ah _ _ _ _) (@bq _ _ _ _ _ _ _ (@ah _ _ _ _) (@bq _ _ _ _ _ _ _ (@ah _ _ _ _) (@bq _ _ _ _ _ _ _ (@ah _ _ _ _) (@bq _ _ _ _ _ _ _ (@ah _ _ _ _) (@bq _ _ _ _ _ _ _ (@ah _ _ _ _) (@bq _ _ _ _ _ _ _ (@ah _ _ _ _) (@bq _ _ _ _ _ _ _ (@ah _ _ _ _) (@bq _ _ _ _ _ _ _ (@ah _ _ _ _) (@ag _)))))))))))))))) (pv 5) (λ_ _=>rfl)) rfl (cD rfl)) (ak (az (ba d9 (pv 0) (bc (aa (bc (aa (ar GL hr rfl mL kL bL .nil bb (aa (pv 5) (aa (pv 4) (aa (pv 2) ag)))) (aa (iy Zf (pv 5) ah (bw _)) (bq ah (bq ah ag))))) ag)))))))))))),?_⟩;dsimp only[bh,Cx.nox];have CD:=hd;rw[cU]at CD;obtain⟨ys,x0,rfl,hy,IH⟩:=jj CD;obtain⟨c0,y0,rfl,JB,JW⟩:=oa IH;have ly:ys.length=AV.length:=(by rw[hy.length,aJ]);have tl:=yq (AV++[it]);rw[aQ,gK]at tl;have tt:d0 (AV++[it])=d0 AV+it.1.size:=(by rw[d4,eh]);have AK:∀(G4:Hp)(p3 l:Addr) (zs:List V) (js:List dk) (j:dk),Same H G4->G4 p3=some (.lst (zs++[.ref l]))->Holds K G4 zs (js.map fz)->Hold K G4 (.ref l) (fz j)->d0 (js++[j])<=d0 (AV++[it])+1->Gd ws (js++[j]) most->Q (.ref p3) G4:=
  λG4 p3 l zs js j s4 g4 h1 h2 h3 h4=>q p3 _ js j G4 s4 g4 (by rw[cU];exact Holds.append h1 (.one h2)) h3 h4
 refine⟨_,rfl,cell,rfl,λp a0 b0 hp SN SO=>?_⟩;refine⟨_,rfl,p,a0,b0,14,rfl,af,SN,SO,by decide,by decide,λv a b G v0 v1 ha hb g k=>?_⟩;have s1:Same H G:=Same.keep (ae hp _) hp k;refine⟨_,rfl,_,rfl,r,_,_,_,rfl,rfl,SqL.of (s1 _ _ gr),P1 _ _,?_⟩;have R0:ng H p G:=⟨s1,a,b,g,ha,hb⟩;have big:∀n:Nat,n<=302->n<=sizeLine:=λn hn=>small (by lia);dsimp only[ox,zx];refine ifQ (ng H p) (λG=>ng H p G/\ntot (AV++[it]) < most) (λk kf kt=>?_) (λG2 R2=>?_) (λG2 R2=>?_)
 ·refine⟨_,rfl,rfl,_,rfl,?_⟩;refine fb (λ_=>?_) (λ_=>kf G R0);refine⟨_,rfl,r,rfl,⟨_,SqL.of (s1 _ _ gr)⟩,λD hD=>?_⟩;refine dy (K:=K) (a:=r) (xs:=ys++[.ref c0]) (λi zs G3=>Same G G3/\G3 D=some (.lst zs)/\zs=(((AV++[it]).take i).map λj=>(j.1.nts:Int)).map V.int) ⟨ae hD _,af,rfl⟩ (λi zs G3 z=>z.2.1) (λi zs G3 _ z=>SqL.of (z.1 _ _ (s1 _ _ gr))) ?_ ?_
  ·intro i x' zs G3 DL AC;obtain⟨s3,d3,rfl⟩:=AC;obtain⟨j,ej,hj⟩:=hd.getm DL;obtain⟨c,y,rfl,hc,_⟩:=oa hj;refine⟨bj (by rw[aJ,aJ,cK,aQ,gK];lia),⟨[some _],rfl,rfl⟩,?_⟩;refine⟨_,rfl,c,_,_,_,rfl,rfl,Same.seq (Same.trans s1 s3) hc,rfl,d3,Same.put s3 hD _,af,?_⟩;rw[eX,ej];simp
  ·intro zs G3 AC;obtain⟨s3,d3,rfl⟩:=AC;refine⟨D,_,rfl,SqL.of d3,?_,?_,?_⟩
   ·rw[aJ,cK,aQ,gK];lia
   ·intro n hn;obtain⟨j,hj,rfl⟩:=jN.mp hn;have mj:j∈AV++[it]:=pZ hj;have z1:=Xs j.1;have z2:j.1.size<=d0 (AV++[it]):=by
     obtain⟨l1,l2,e⟩:=List.append_of_mem mj;rw[e,show l1++j::l2=l1++([j]++l2)from rfl,d4,d4,eh];lia
    lia
   ·have R3:ng H p G3:=⟨Same.trans s1 s3,a,b,s3 _ _ g,ha,hb⟩;refine⟨_,rfl,_,_,rfl,rfl,_,rfl,?_⟩;rw[lH (by rw[aQ,aQ,ly];exact aN _),Hc];cases e:decide (((ntot (AV++[it]):Nat):Int) < (most:Int))with
    |false=>exact kf G3 R3
    |true=>
     have:=of_decide_eq_true e;exact kt G3 ⟨R3,by lia⟩
 ·obtain⟨⟨s2,_⟩,lt⟩:=R2;refine⟨_,rfl,sz1,λt ht=>⟨sz4,λl hl=>⟨sz1,λl2 AR=>?_⟩⟩⟩;have s3:Same G2 (upd (upd (upd G2 t (.tup [.str "note"])) l (.lst [.ref t,.bl false,.int 1,.int 0])) l2 (.lst [.ref l])):=Same.trans (Same.trans (ae ht _) (ae hl _)) (ae AR _);refine⟨r,l2,_,_,rfl,rfl,s3 _ _ (s2 _ _ gr),af,big _ (by rw[aQ];show ys.length+1+1<=302;lia),λp3 BU=>?_⟩;have s4:=Same.trans s3 (ae BU (.lst ((ys++[.ref c0])++[.ref l])));have sA:=Same.trans s2 s4;have sl:Same (upd (upd G2 t (.tup [.str "note"])) l (.lst [.ref t,.bl false,.int 1,.int 0])) (upd (upd (upd (upd G2 t (.tup [.str "note"])) l (.lst [.ref t,.bl false,.int 1,.int 0])) l2 (.lst [.ref l])) p3 (.lst ((ys++[.ref c0])++[.ref l]))):=Same.trans (ae AR _) (ae BU _);refine AK _ p3 l _ (AV++[it]) (.note,0) sA af (Holds.mono sA hd) (j4 (sl _ _ af) (.tup (SqT.of (sl _ _ (ae hl _ _ _ af))) (.cons (.flat rfl) .nil)) rfl rfl) ?_ (gd.snoc rfl (by show ntot (AV++[it])+1<=most;lia));rw[d4 (AV++[it]),eh];exact aN _
 dsimp only[ox,zx];refine ifQ (ng H p) (λG=>ng H p G/\it.1.isT=true) (λk kf kt=>?_) (λG3 R3=>?_) (λG3 R3=>?_)
 ·refine⟨_,rfl,rfl,_,rfl,?_⟩;refine fb (λ_=>?_) (λ_=>kf G2 R2);refine⟨_,rfl,c0,_,_,_,rfl,rfl,Same.seq R2.1 JB,rfl,it.1.isT,rfl,?_⟩;cases e:it.1.isT with
  |false=>exact kf G2 R2
  |true=>exact kt G2 ⟨R2,e⟩
 ·obtain⟨⟨s2,_⟩,eT⟩:=R3;refine⟨_,rfl,_,rfl,_,rfl,r,_,rfl,SqL.of (s2 _ _ gr),λp2 BC=>?_⟩;rw[show -(1:Int)=-1 from rfl,Fd];have s3:=Same.trans s2 (ae BC (.lst ys));refine⟨_,rfl,c0,_,_,_,rfl,rfl,Same.seq s3 JB,rfl,sz2,λt ht=>⟨sz4,λl hl=>⟨sz1,λl2 AR=>?_⟩⟩⟩;have sB:Same (upd G3 p2 (.lst ys)) (upd (upd (upd (upd G3 p2 (.lst ys)) t (.tup [.str "not",y0])) l (.lst [.ref t,.bl true,.int 0,.int 0])) l2 (.lst [.ref l])):=Same.trans (Same.trans (ae ht _) (ae hl _)) (ae AR _);refine⟨p2,l2,_,_,rfl,rfl,sB _ _ af,af,big _ (by show ys.length+1<=302;lia),λp3 BU=>?_⟩;have s4:=Same.trans sB (ae BU (.lst (ys++[.ref l])));have sA:=Same.trans s3 s4;have sl:Same (upd (upd (upd G3 p2 (.lst ys)) t (.tup [.str "not",y0])) l (.lst [.ref t,.bl true,.int 0,.int 0])) (upd (upd (upd (upd (upd G3 p2 (.lst ys)) t (.tup [.str "not",y0])) l (.lst [.ref t,.bl true,.int 0,.int 0])) l2 (.lst [.ref l])) p3 (.lst (ys++[.ref l]))):=Same.trans (ae AR _) (ae BU _);refine AK _ p3 l _ AV (.no it.1,0) sA af (Holds.mono sA hy) (j4 (sl _ _ af) (.tup (SqT.of (sl _ _ (ae hl _ _ _ af))) (.cons (.flat rfl) (.cons (Hold.mono sA JW) .nil))) eT.symm ?_) ?_ (gd.last (by rw[Say.due,if_pos eT];exact gd.it) (aN _))
  ·show(0:Int)=((it.1.nts:Nat):Int);rw[gn _ eT];rfl
  ·rw[d4,eh,tt];show d0 AV+(it.1.size+1)<=_;lia
 dsimp only[ox,zx];refine ifQ (ng H p) (ng H p) (λk kf kt=>?_) (λG4 R4=>?_) (λG4 R4=>?_)
 ·refine⟨_,rfl,rfl,_,rfl,?_⟩;refine fb (λ_=>?_) (λ_=>kf G3 R3);refine⟨_,rfl,c0,_,_,_,rfl,rfl,Same.seq R3.1 JB,rfl,_,_,rfl,rfl,_,rfl,?_⟩;cases decide (it.2 < 3)with
  |false=>exact kf G3 R3
  |true=>exact kt G3 R3
 ·obtain⟨s2,_⟩:=R4;refine⟨_,rfl,_,rfl,_,rfl,r,_,rfl,SqL.of (s2 _ _ gr),λp2 BC=>?_⟩;rw[show -(1:Int)=-1 from rfl,Fd];have s3:=Same.trans s2 (ae BC (.lst ys));refine⟨_,rfl,c0,_,_,_,rfl,rfl,Same.seq s3 JB,rfl,sz2,λt ht=>?_⟩;have s5:=Same.trans s3 (ae ht (.tup [.str "again",y0]));refine⟨_,rfl,c0,_,_,_,rfl,rfl,Same.seq s5 JB,rfl,_,rfl,c0,_,_,_,rfl,rfl,Same.seq s5 JB,rfl,_,_,rfl,rfl,sz4,λl hl=>⟨sz1,λl2 AR=>?_⟩⟩;have sB:Same (upd G4 p2 (.lst ys)) (upd (upd (upd (upd G4 p2 (.lst ys)) t (.tup [.str "again",y0])) l (.lst [.ref t,.bl false,.int (it.1.nts:Int),.int (it.2+1)])) l2 (.lst [.ref l])):=Same.trans (Same.trans (ae ht _) (ae hl _)) (ae AR _);refine⟨p2,l2,_,_,rfl,rfl,sB _ _ af,af,big _ (by show ys.length+1<=302;lia),λp3 BU=>?_⟩;have s4:=Same.trans sB (ae BU (.lst (ys++[.ref l])));have sA:=Same.trans s3 s4;have sl:Same (upd (upd (upd G4 p2 (.lst ys)) t (.tup [.str "again",y0])) l (.lst [.ref t,.bl false,.int (it.1.nts:Int),.int (it.2+1)])) (upd (upd (upd (upd (upd G4 p2 (.lst ys)) t (.tup [.str "again",y0])) l (.lst [.ref t,.bl false,.int (it.1.nts:Int),.int (it.2+1)])) l2 (.lst [.ref l])) p3 (.lst (ys++[.ref l]))):=Same.trans (ae AR _) (ae BU _);refine AK _ p3 l _ AV (.again it.1,it.2+1) sA af (Holds.mono sA hy) (j4 (sl _ _ af) (.tup (SqT.of (sl _ _ (ae hl _ _ _ af))) (.cons (.flat rfl) (.cons (Hold.mono sA JW) .nil))) rfl rfl) ?_ (gd.last gd.it (aN _));rw[d4,eh,tt];show d0 AV+(it.1.size+1)<=_;lia
 dsimp only[ox,zx];refine ifQ (ng H p) (λG=>ng H p G/\1 < (ys++[V.ref c0]).length) (λk kf kt=>?_) (λG5 R5=>?_) (λG5 R5=>?_)
 ·refine⟨_,rfl,_,_,rfl,rfl,_,rfl,?_⟩;refine fb (λ_=>?_) (λ_=>kf G4 R4);refine⟨_,rfl,_,_,rfl,rfl,_,rfl,?_⟩;refine fb (λ_=>?_) (λ_=>kf G4 R4);refine⟨_,rfl,r,_,rfl,.inl (SqL.of (R4.1 _ _ gr)),_,_,rfl,rfl,_,rfl,?_⟩;cases e:decide ((1:Int) < (((ys++[V.ref c0]).length:Nat):Int))with
  |false=>exact kf G4 R4
  |true=>
   have z:(1:Int) < (((ys++[V.ref c0]).length:Nat):Int):=of_decide_eq_true e;exact kt G4 ⟨R4,by lia⟩
 ·obtain⟨⟨s2,_⟩,l1⟩:=R5;rw[aQ,gK,ly]at l1;rcases tJ AV with e | ⟨js,i1,e⟩
  ·rw[e]at l1;exact absurd l1 (by decide)
  rw[tK]at e;subst e;refine⟨_,rfl,sz2,λl hl=>?_⟩;have s3:=Same.trans s2 (ae hl (.lst [.str "either",.str "then"]));have e2:(js++[i1])++[it]=js++[i1,it]:=(by simp);have wd2:∃wd:Str,(wd="either"\/wd="then")/\atI [V.str "either",V.str "then"] (v % 2)=some (.str wd):=by
   have z:v % 2=0\/v % 2=1:=(by lia);rcases z with z | z
   ·rw[z];exact⟨_,.inl rfl,rfl⟩
   ·rw[z];exact⟨_,.inr rfl,rfl⟩
  obtain⟨wd,SU,ewd⟩:=wd2;refine⟨_,rfl,_,_,rfl,rfl,(by show(0:Int) < 2;decide),l,_,_,_,rfl,rfl,SqL.of af,ewd,r,wd,_,js,i1,it,rfl,SU,s3 _ _ gr,(by rw[<-e2];exact Holds.mono s3 hd),?_,λr' CC sy d H' s4 g4 h4 e4 en eu=>?_⟩
  ·rw[aQ,gK]at tl;lia
  ·refine q r' CC js (sy,d) H' (Same.trans s3 s4) g4 h4 ?_ (Gd.join (by rw[<-e2];exact gd) en (eu ws));rw[d4,eh,tt,d4,eh];show d0 js+sy.size<=_;lia
 obtain⟨s5,a5,b5,g5,JC,hb5⟩:=R5;refine⟨sz14,λl0 FU=>?_⟩;obtain⟨st,stm,ste⟩:=E9 (ns:=[0,1,2,3,2,0,1,0,1,0,1,0,1,0]) v0 v1;have ET:0<=st/\st<=3:=by
  simp only[aX,dQ,or_false]at stm;omega
 refine⟨_,rfl,l0,_,_,_,rfl,rfl,SqL.of af,ste,?_⟩;have s6:=Same.trans s5 (ae FU (.lst [.int 0,.int 1,.int 2,.int 3,.int 2,.int 0,.int 1,.int 0,.int 1,.int 0,.int 1,.int 0,.int 1,.int 0]));refine⟨_,rfl,_,rfl,_,rfl,_,rfl,st,a5,b5,p,sp,ws,rfl,ET.1,ET.2,(ae FU _ _ _ g5),JC,hb5,Hold.mono s6 AY,sk,wd,λx sy G7 k7 hx7 eT eN eS eD=>?_⟩;have s7:Same H G7:=Same.keep s6 hp k7;refine⟨_,rfl,rfl,sz4,λl hl=>⟨sz1,λl2 AR=>?_⟩⟩;have s8:Same G7 (upd (upd G7 l (.lst [x,.bl (!decide (V.int st=V.int 1)),.int 0,.int 0])) l2 (.lst [.ref l])):=Same.trans (ae hl _) (ae AR _);refine⟨r,l2,_,_,rfl,rfl,s8 _ _ (s7 _ _ gr),af,big _ (by rw[aQ];show ys.length+1+1<=302;lia),λp3 BU=>?_⟩;have s9:=Same.trans s8 (ae BU (.lst ((ys++[.ref c0])++[.ref l])));have sA:=Same.trans s7 s9;have sl:Same (upd G7 l (.lst [x,.bl (!decide (V.int st=V.int 1)),.int 0,.int 0])) (upd (upd (upd G7 l (.lst [x,.bl (!decide (V.int st=V.int 1)),.int 0,.int 0])) l2 (.lst [.ref l])) p3 (.lst ((ys++[.ref c0])++[.ref l]))):=Same.trans (ae AR _) (ae BU _);refine AK _ p3 l _ (AV++[it]) (sy,0) sA af (Holds.mono sA hd) (j4 (sl _ _ af) (Hold.mono s9 hx7) eT.symm (by rw[eN];rfl)) ?_ (gd.snoc eD (by show ntot (AV++[it])+sy.nts<=most;rw[eN];exact gd.nts));rw[d4 (AV++[it]),eh,eS];exact aN _
theorem L0 {f fR fJ:Addr}{fd XI NO:bQ}(F:Fun K "_law_saying" "_law_saying" Bx f fd)
  (GR:‹3› fR XI zzx (Hd K)) (bR:Binds K XI zzx []) (kR:aR K (.ref fR)=true) (mR:mg "_law_grown"=some (.ref fR))
  (GJ:‹1› fJ NO zzk (xi K)) (bJ:Binds K NO zzk []) (kJ:aR K (.ref fJ)=true) (mJ:mg "_law_joined"=some (.ref fJ))
  (ml:mg "len"=none):‹4› f fd zzq (De K):=by
 exists F,Ff
 ·obtain⟨c,sp,m,xs,ws,rfl,_⟩:=h;rfl
 obtain⟨c,sp,most,cs,ws,rfl,hS,hI,XJ,AY,sk,wd,q⟩:=h;have BE:Room 1 _:=hr.mono (by decide);refine⟨_,ai (bf (i:=3) Ff.nd rfl (cD rfl) (bc (aa (bc (aa (cb (bq bg ag)) (bq m8 (bq ah (bq ah ag))))) ag))) (ai (fh fX rfl (c7 (pv 0)) (bo (i:=4) Ff.nd rfl (cD rfl)) (ak (bf (i:=3) Ff.nd rfl (cD rfl) (ar GR hr rfl mR kR bR .nil bb (aa (pv 3) (aa (pv 4) (aa (pv 1) (aa (pv 2) ag)))))))) (ai (tq fX (bx J2 (bz cg rfl ml gT (aa (pv 3) ag)) ah (bw _)) (ak (bf (i:=3) Ff.nd rfl (cD rfl) (ar GJ BE rfl mJ kJ bJ .nil bb (aa (pv 3) (aa (av ax (bc (bq bg (bq bg ag))) (ba gz (ba gz (bz cg rfl ml gT (aa (pv 3) ag)) ah) ah) (λ_ _=>rfl)) ag)))))) (ak (az (av ax (av ax (pv 3) ah (λ_ _=>rfl)) ah (λ_ _=>rfl)))))),?_⟩;dsimp only[bh,Cx.nox];refine⟨sz1,λt ht=>⟨sz4,λl hl=>⟨sz1,λl2 AR=>?_⟩⟩⟩;generalize EY:upd (upd (upd H t (.tup [.str "all"])) l (.lst [.ref t,.bl true,.int 0,.int 0])) l2 (.lst [.ref l])=G2;have s2:Same H G2:=by
  rw[<-EY];exact Same.trans (Same.trans (ae ht _) (ae hl _)) (ae AR _)
 have g2:G2 l2=some (.lst [.ref l]):=(by rw[<-EY,af]);have OL:Holds K G2 [V.ref l] ((([]:List dk)++[(Say.every,0)]).map fz):=by
  rw[<-EY];exact .one (j4 (i:=(Say.every,0)) (ae AR _ _ _ af) (.tup (SqT.of (ae AR _ _ _ (ae hl _ _ _ af))) (.cons (.flat rfl) .nil)) rfl rfl)
 refine⟨_,rfl,c,rfl,⟨_,s2.seq hS⟩,i7 (K:=K) (a:=c) (xs:=cs) (λi σ G=>∃(r:Addr)(xs:List V) (js:List dk) (j:dk) (v4:Option V),σ=[some (.ref c),some (.ref sp),some (.int (most:Int)),some (.ref r),v4]/\Same G2 G/\G r=some (.lst xs)/\Holds K G xs ((js++[j]).map fz)/\d0 (js++[j])<=1+i/\Gd ws (js++[j]) most) ⟨l2,_,[],(Say.every,0),none,rfl,Same.refl _,g2,OL,aN _,⟨λi hi=>(by rw[eG.mp hi];rfl),gO _⟩⟩ (λi σ G _ z=>by obtain⟨_,_,_,_,_,_,sG,_⟩:=z;exact(Same.trans s2 sG).seq hS) ?_ ?_⟩
 ·intro i x σ G hx AC;obtain⟨r,xs,js,j,v4,rfl,sG,gr,hd,tt,gd⟩:=AC;generalize AJ:gg.mk _ _ _ _=BG;revert AJ BG;refine id ?_;intro BG AJ;obtain⟨n,rfl⟩:=hI x (bV hx);have hi:i < cs.length:=(aM.mp hx).1;refine⟨_,rfl,_,rfl,_,rfl,_,rfl,r,sp,n,most,xs,js,j,ws,rfl,gr,hd,by lia,Hold.mono (Same.trans s2 sG) AY,sk,wd,gd,λr' CC js' j' G' s' g' h' t' gd'=>?_⟩;subst AJ;exact⟨r',CC,js',j',_,rfl,Same.trans sG s',g',h',by lia,gd'⟩
 ·intro σ G AC;obtain⟨r,xs,js,j,v4,rfl,sG,gr,hd,tt,gd⟩:=AC;have lj:js.length+1<=d0 (js++[j]):=by
   have z:=yq (js++[j]);rw[aQ,gK]at z;exact z
  refine⟨λm σ G=>∃(r:Addr)(xs:List V) (js:List dk) (j:dk),σ=[some (.ref c),some (.ref sp),some (.int (most:Int)),some (.ref r),v4]/\Same G2 G/\G r=some (.lst xs)/\Holds K G xs ((js++[j]).map fz)/\js.length+d0 (js++[j])<=54/\Gd ws (js++[j]) most/\m=js.length,⟨_,r,xs,js,j,rfl,sG,gr,hd,by lia,gd,rfl⟩,?_⟩;clear lj tt hd gr sG gd;intro m σ G AC;obtain⟨r,xs,js,j,rfl,sG,gr,hd,tt,gd,rfl⟩:=AC;have lx:xs.length=js.length+1:=(by rw[hd.length,aJ,aQ,gK]);refine⟨_,rfl,r,_,rfl,.inl (SqL.of gr),_,_,rfl,rfl,_,rfl,?_⟩;refine fb (λcc=>?_) (λcc=>?_)
  ·have c':(1:Int) < ((xs.length:Nat):Int):=of_decide_eq_true cc;rcases tJ js with e | ⟨ks,i1,e⟩
   ·rw[e]at lx;rw[lx]at c';exact absurd c' (by decide)
   rw[tK]at e;subst e;have e2:(ks++[i1])++[j]=ks++[i1,j]:=(by simp);have t1:d0 ((ks++[i1])++[j])=d0 ks+i1.1.size+j.1.size:=(by rw[d4,d4,eh,eh]);have l1:(ks++[i1]).length=ks.length+1:=(by rw[aQ,gK]);rw[t1,l1]at tt;refine⟨λσ' G'=>∃(r:Addr)(xs:List V) (js:List dk) (j:dk),σ'=[some (.ref c),some (.ref sp),some (.int (most:Int)),some (.ref r),v4]/\Same G2 G'/\G' r=some (.lst xs)/\Holds K G' xs ((js++[j]).map fz)/\js.length+d0 (js++[j])<=54/\Gd ws (js++[j]) most/\js.length < (ks++[i1]).length,λσ' G' z=>?_,?_⟩
   ·obtain⟨r,xs,js,j,z1,z0,z2,z3,z4,z6,z5⟩:=z;exact⟨_,z5,r,xs,js,j,z1,z0,z2,z3,z4,z6,rfl⟩
   ·refine⟨_,rfl,sz2,λlw hlw=>?_⟩;have sw:=ae hlw (.lst [.str "either",.str "then"]);have m0:=gh (((xs.length:Nat):Int) % 3) (m:=2) (by decide);obtain⟨wd,hw,ew⟩:=Zy (ns:=["either","then"]) m0.1 m0.2;have hw':wd="either"\/wd="then":=by
     rcases aX.mp hw with z | z
     ·exact .inl z
     ·exact .inr (eG.mp z)
    refine⟨_,rfl,r,_,rfl,.inl (SqL.of (sw _ _ gr)),_,_,rfl,rfl,(by show(0:Int) < 3;decide),_,_,rfl,rfl,(by show(0:Int) < 2;decide),lw,_,_,_,rfl,rfl,SqL.of af,ew,?_⟩;refine⟨r,wd,_,ks,i1,j,rfl,hw',sw _ _ gr,(by rw[<-e2];exact Holds.mono sw hd),by lia,λr' CC sy d G' s' g' h' e' en eu=>?_⟩;refine⟨r',CC,ks,(sy,d),rfl,Same.trans sG (Same.trans sw s'),g',h',?_,Gd.join (by rw[<-e2];exact gd) en (eu ws),by lia⟩;rw[d4,eh];show ks.length+(d0 ks+sy.size)<=54;lia
  ·have c':¬(1:Int) < ((xs.length:Nat):Int):=λz=>cc (decide_eq_true z);have e:js=[]:=oN.mp (by lia);subst e;obtain⟨ys,x0,rfl,hy,IH⟩:=jj (ds:=[]) hd;cases hy;obtain⟨c0,y0,rfl,JB,JW⟩:=oa IH;have sj:j.1.size<=54:=by
    rw[d4,eh]at tt;lia
   exact⟨_,rfl,r,_,_,_,rfl,rfl,SqL.of gr,rfl,c0,_,_,_,rfl,rfl,JB,rfl,q y0 j.1 G (Same.trans s2 sG) JW sj gd.it gd.nt1⟩
end
end S63
namespace L2
open PySem PySem.Spec PyProof.Rows Fly
def cxT (X:Cx)(f':List (Addr×Obj))(EX:St->XK):Cx:=
 { X with pn:=X.pn++f',xe:=λev s'=>∃ps σ H s,Inv { X with pn:=X.pn++f' } ps σ H s/\CXx X.prog X.w X.stack H s (EX σ) ev s' }
section
variable {X:Cx}{f' SX:List (Addr×Obj)}{σ:St}{H:Hp}{s:aG}{EX:St->XK}
theorem Cx.Ok.pinned {xe:aC->aG->Prop}(ok:X.Ok):Cx.Ok { X with pn:=X.pn++f',xe:=xe }:=
 ⟨ok.mod,ok.kind,ok.glob,ok.blt,ok.above,ok.inj,ok.has,ok.cab,ok.hd,ok.frames,ok.stk,ok.exf,ok.bs,ok.bsz,ok.noex,ok.exfs,ok.funs,ok.frf⟩
theorem Cx.Ok.back {xe:aC->aG->Prop}(ok:Cx.Ok { X with pn:=X.pn++f',xe:=xe }):X.Ok:=
 ⟨ok.mod,ok.kind,ok.glob,ok.blt,ok.above,ok.inj,ok.has,ok.cab,ok.hd,ok.frames,ok.stk,ok.exf,ok.bs,ok.bsz,ok.noex,ok.exfs,ok.funs,ok.frf⟩
theorem Inv.inT (I:Inv X f' σ H s):Inv (cxT X f' EX) [] σ H s:=
 ⟨I.ok.pinned,I.os,I.bare,I.base,I.loc,I.cell,I.free,I.freeC,λp hp=>I.pin p (by simpa[cxT]using hp),I.hok,I.len⟩
theorem Inv.outT {xe:aC->aG->Prop}(I:Inv { X with pn:=X.pn++f',xe:=xe } SX σ H s):Inv X f' σ H s:=
 ⟨I.ok.back,I.os,I.bare,I.base,I.loc,I.cell,I.free,I.freeC,λp hp=>I.pin p (lT _ hp),I.hok,I.len⟩
theorem Inv.reT {xe xe':aC->aG->Prop}(I:Inv { X with pn:=X.pn++f',xe:=xe } SX σ H s):Inv { X with pn:=X.pn++f',xe:=xe' } SX σ H s:=
 ⟨I.ok.back.pinned,I.os,I.bare,I.base,I.loc,I.cell,I.free,I.freeC,I.pin,I.hok,I.len⟩
end
section
variable {X:Cx}{x c n y:Str}{f SW:Addr}{fd:bQ}{k i j:Nat}{ps:List Str}{sp:Sp}{a:Expr}{es:List Expr}{t:TA}{p pos pe pc py pn pa ph tp:Pos}{EI:List (Addr×Obj)}{EX:St->XK}
theorem So (F:FnOk X.prog X.w X.K X.mg X.base (CXx X.prog X.w) k f fd ps sp)(hr:Room k X.A)(hg:Gl X x)(hm:X.mg x=some (.ref f))(hk:aR X.K (.ref f)=true)(hb:Binds X.K fd ps [])
  (ha:PA (cxT X EI EX) (a::es) t) (C':(x == ("__debug__":Str))=false:=by decide)
  (he:cJ (a::es) X.env=(false,eval a X.env)::cJ es X.env:=by rfl) (BK:(jU pos (cJ es X.env)).any (·.1)=false:=by rfl)
  (FW:qU (.Call (.Name x p) (a::es) [] pos) none pe.line X.env=pure false:=by rfl) :
  PS (cxT X EI EX) (.Expr (.Call (.Name x p) (a::es) [] pos) pe) (λD σ H=>t σ H λvs H1=>sp vs H1 (λ_ H2=>D.nx σ H2) (EX σ)):=by
 intro f' s σ H D I h;refine wpAny_Expr_any (Q:=_) (gB (Q:=λ_ s1=>∃H2,Inv (cxT X EI EX) f' σ H2 s1/\D.nx σ H2) ?_ (λv s1 AD=>by obtain⟨H2,I2,q⟩:=AD;exact⟨σ,H2,I2,q⟩) λ_ _ z=>z) I.quiet FW;refine jZ (j3 (X:=cxT X EI EX) I hg hm ?_ C');refine nB (h₀:=X.base) I.ok.mod.kin hk (thn (ha pos f' s σ H _ I h) λus s1 AD=>?_) he BK;obtain⟨vs,H1,I1,r,q⟩:=AD;refine⟨I1.kIn,?_⟩;show aL _ _ (call (.ref f) us) _ _ _;have hl:(us++[]).length=ps.length:=(by rw[nI,<-r.length];exact F.len _ _ _ _ q);have bd:=hb s1 us I1.kIn hl;rw[nI]at bd;refine rG (lU (F.run X.A X.stack s1 H1 ⟨us,[]⟩ us vs _ _ hr I1.env0 bd r q) λrr s' hq=>?_);cases rr with
 |ok fl=>
  cases fl with
  |ret u=>
   obtain⟨v,H2,I2,rv,q2⟩:=I1.after hq;exact⟨H2,I2,q2⟩
  |next=>exact iG hq
  |brk=>exact iG hq
  |cont=>exact iG hq
 |error ev=>exact⟨f',σ,H1,s1,I1.reT,hq⟩
theorem Wx {body:List Stmt}{tb:(St->XK)->TS}(hb:∀f' EX,PSs (cxT X f' EX) body (tb EX))(hgc:Gl X c)(hmc:X.mg c=some (.ref SW))(CZ:X.stack=X.env::X.outer)(FX:X.env.frame=some X.env.locals)
  (hN:X.N.Nodup) (hn:X.N[i]?=some n) (ES:X.env.scope.names.lookup n=some .local) (hy:X.N[j]?=some y) (XM:X.env.scope.names.lookup y=some .local)
  (hdc:(c == ("__debug__":Str))=false:=by decide) (MF:(n == ("__debug__":Str))=false:=by decide) (hcn:(n == ("__classdict__":Str))=false:=by decide)
  (BL:qU (.Name n pn) (some (.Name y py)) pa.line X.env=pure false:=by rfl) :
  PS X (.Try body [.ExceptHandler (some (.Name c pc)) (some n) [.Assign [.Name y py] (.Name n pn) pa] ph] [] [] tp)
   (λD σ H=>tb (λσ1 cls dx H2=>∃C,cls=.ref C/\lC X.K (.ref C) (.ref SW)=some true/\∀e,H2 e=none->D.nx (((σ1.set i (some (.ref e))).set j (some (.ref e))).set i none) (upd H2 e (qv e C dx))) D σ H):=by
 intro f' s σ H D I h;refine wpAny_Try_except ?_;refine gB (hb f' _ [] s σ H D I.inT h) (λfl s1 q=>?_) λev s' hq=>?_
 ·cases fl with
  |next=>obtain⟨σ',H',I',q⟩:=q;exact qK ⟨σ',H',I'.outT,q⟩
  |brk=>obtain⟨σ',H',I',q⟩:=q;exact⟨σ',H',I'.outT,q⟩
  |cont=>obtain⟨σ',H',I',q⟩:=q;exact⟨σ',H',I'.outT,q⟩
  |ret u=>obtain⟨v,σ',H',I',r,q⟩:=q;exact⟨v,σ',H',I'.outT,r,q⟩
 ·obtain⟨ps1,σ1,H1,s1,I1',e,C,dx,H',B,rfl,os,bare,xa,hok,XN,AO,un,old,C2,ec,hx,q⟩:=hq;have I1:Inv X f' σ1 H1 s1:=I1'.outT;cases ec;have XO:=xa;rw[CZ]at XO;refine Fly.note (by rw[<-CZ];exact I.ok.frames) FX XO (.inr rfl) λh2 x2 XQ=>?_;refine Fly.land x2 λh3 x3 XR=>?_;rw[<-CZ]at x3;refine Nb ?_;have ok2:Cx.Ok { X with A:=X.A.mark (some (.ref e)),calm:=false,xe:=λ_ _=>False }:={ I.ok with hd:=(λz=>Bool.noConfusion z),frames:=I.ok.frames };have mk:∀{h4:Heap}{t4:Nat},XAt B X.stack e (.ref C) dx (some .none) h4->s'.heap.UpToSlots h4->Inv { X with A:=X.A.mark (some (.ref e)),calm:=false,xe:=λ_ _=>False } f' σ1 (upd H' e (qv e C dx)) { s' with heap:=h4,toks:=t4 }:=λ{h4 t4} x4 SY=>by
   have J:=I1.caught (t':=t4) os bare xa x4 SY hok XN AO un old;exact⟨ok2,J.os,J.bare,J.base,J.loc,J.cell,J.free,J.freeC,J.pin,J.hok,J.len⟩
  have I4:=mk (t4:=s'.toks) x3 (XQ.trans XR);refine j3 (X:={ X with A:=X.A.mark (some (.ref e)),calm:=false,xe:=λ_ _=>False }) I4 hgc hmc ⟨?_,?_⟩ hdc
  ·obtain⟨oe,vs,z1,z2,_⟩:=x3.obj;have LT:PySem.W.Looks (aS X.prog X.w) h3 (zR (.ref e)) (.ref C):=by
    rw[<-z2];exact(PySem.W.Looks.ld z1).andThen .now
   exact PySem.W.exm_one I4.kIn LT hx
  ·refine Fly.land x3 λh4 x4 SY=>?_;have I5:=mk (t4:=s'.toks) x4 ((XQ.trans XR).trans SY);refine tm (X:={ X with A:=X.A.mark (some (.ref e)),calm:=false,xe:=λ_ _=>False }) (v:=.ref e) I5 hN hn (.inl ES) rfl (λs6 I6=>?_) (.inr ES);have GX:i < σ1.length:=by
    have:=I1.len;rw[this];exact(aM.mp hn).1
   refine gB ((ak (bf (X:={ X with A:=X.A.mark (some (.ref e)),calm:=false,xe:=λ_ _=>False }) hN hy (.inl XM) (L7 (X:={ X with A:=X.A.mark (some (.ref e)),calm:=false,xe:=λ_ _=>False }) hn (.inl ES) MF hcn) BL (.inr XM))) f' s6 _ _ { nx:=λσ' XS=>σ'=(σ1.set i (some (.ref e))).set j (some (.ref e))/\XS=upd H' e (qv e C dx),rt:=λ_ _=>False } I6 ⟨.ref e,by rw[pF GX],rfl,rfl⟩) (λfl s7 hf=>?_) λ_ _ z=>z;cases fl with
   |ret u=>obtain⟨_,_,_,_,_,z⟩:=hf;exact z.elim
   |brk=>obtain⟨_,_,_,z⟩:=hf;exact z.elim
   |cont=>obtain⟨_,_,_,z⟩:=hf;exact z.elim
   |next=>
    obtain⟨σ',XS,I7,e1,e2⟩:=hf;subst e1 e2;obtain⟨m,nm,hl7⟩:=I7.loc;have hkd:(X.env.scope.kind == ScopeKind.«class» || (X.env.scope.kind == ScopeKind.«module» && X.env.locals != X.env.globals))=false:=(by rw[I.ok.kind];rfl);refine Fly.gone ES nm hkd λh8 u8 ns8 RE=>⟨_,_,?_,q e XN⟩;have J:Inv X f' _ _ s7:=⟨I.ok,I7.os,I7.bare,I7.base,I7.loc,I7.cell,I7.free,I7.freeC,I7.pin,I7.hok,I7.len⟩;exact J.unset hN hn nm hl7 ns8 RE
end
theorem XAs.same {H G:Hp}{e C:Addr}{fs:List (Str×V)}(x:XAs H e C fs)(s:Same H G):XAs G e C fs:=by
 obtain⟨dx,h1,h2⟩:=x;exact⟨dx,h1.imp (s _ _) (s _ _),s _ _ h2⟩
theorem IsX.same {H G:Hp}{e C:Addr}(x:IsX H e C)(s:Same H G):IsX G e C:=by
 rcases x with⟨d,x⟩ | ⟨d,x⟩
 ·exact .inl ⟨d,s _ _ x⟩
 ·exact .inr ⟨d,s _ _ x⟩
section
variable {X:Cx}
end
end L2
namespace S63
open PySem L2 Fly PyProof.Rows
inductive NF where
 |flt (f:Flt)
 |plain (s:Say)
def DAt (K:aB)(H:Hp)(r:Addr):Option NF->Prop
 |none=>H r=some (.lst [])
 |some (.flt (.field f))=>H r=some (.lst [.str "field",.str f])
 |some (.flt (.value v))=>H r=some (.lst [.str "value",.int v])
 |some (.flt (.test t))=>∃y,H r=some (.lst [.str "test",y])/\Hold K H y t.da
 |some (.plain t)=>∃y,H r=some (.lst [.str "plain",y])/\Hold K H y t.da
theorem DAt.mono {K:aB}{H G:Hp}{r:Addr}{o:Option NF}(h:DAt K H r o)(s:Same H G):DAt K G r o:=by
 cases o with
 |none=>exact s _ _ h
 |some f=>
  cases f with
  |flt f=>
   cases f with
   |field z=>exact s _ _ h
   |value z=>exact s _ _ h
   |test t=>obtain⟨y,h1,h2⟩:=h;exact⟨y,s _ _ h1,h2.mono s⟩
  |plain t=>obtain⟨y,h1,h2⟩:=h;exact⟨y,s _ _ h1,h2.mono s⟩
def qc (ws:List (Str×Nat))(s:Say):Option NF:=match s.due ws with
 |some f=>some (.flt f)
 |none=>if s.nts≠0 then some (.plain s)else none
theorem oo {ws:List (Str×Nat)}{s:Say}{f:Flt}(h:s.due ws=some f):qc ws s=some (.flt f):=by unfold qc;rw[h]
theorem j8 {ws:List (Str×Nat)}{s:Say}(h:s.due ws=none):qc ws s=if s.nts≠0 then some (.plain s)else none:=by unfold qc;rw[h]
section
variable {K:aB}{cS cF cV cT cP:Addr}
def RAt (K:aB)(cF cV cT cP:Addr)(H:Hp)(C:Addr)(dx:Option Addr):NF->Prop
 | .flt (.field z)=>C=cF/\∃d,dx=some d/\H d=some (.xd [("field",.str z)])
 | .flt (.value v)=>C=cV/\∃d,dx=some d/\H d=some (.xd [("value",.int v)])
 | .flt (.test t)=>C=cT/\∃d y,dx=some d/\H d=some (.xd [("saying",y)])/\Hold K H y t.da
 | .plain t=>C=cP/\∃d y,dx=some d/\H d=some (.xd [("saying",y)])/\Hold K H y t.da
def CAt (K:aB)(cF cV cT cP:Addr)(H:Hp)(e:Addr):NF->Prop
 | .flt (.field z)=>XAs H e cF [("field",.str z)]
 | .flt (.value v)=>XAs H e cV [("value",.int v)]
 | .flt (.test t)=>∃y,XAs H e cT [("saying",y)]/\Hold K H y t.da
 | .plain t=>∃y,XAs H e cP [("saying",y)]/\Hold K H y t.da
theorem FOut.mk {H:Hp}{E:XK}{f:Flt}(h:∀C dx H',Same H H'->RAt K cF cV cT cP H' C dx (.flt f)->E (.ref C) dx H'):FOut K H E cF cV cT f:=by
 cases f with
 |field z=>exact λdx H' s e=>h cF (some dx) H' s ⟨rfl,dx,rfl,e⟩
 |value v=>exact λdx H' s e=>h cV (some dx) H' s ⟨rfl,dx,rfl,e⟩
 |test t=>exact λdx y H' s e k=>h cT (some dx) H' s ⟨rfl,dx,y,rfl,e,k⟩
theorem RAt.caught {H:Hp}{C e:Addr}{dx:Option Addr}{f:NF}(r:RAt K cF cV cT cP H C dx f)(he:H e=none):CAt K cF cV cT cP (upd H e (qv e C dx)) e f:=by
 have xa:∀{d:Addr}{fs:List (Str×V)},H d=some (.xd fs)->XAs (upd H e (qv e C (some d))) e C fs:=λ{d fs} q=>⟨d,.inr af,by rw[ao (aq q he)];exact q⟩;have sm:∀o,Same H (upd H e o):=λo b u q=>(by rw[ao (aq q he)];exact q);cases f with
 |flt f=>
  cases f with
  |field z=>obtain⟨rfl,d,rfl,q⟩:=r;exact xa q
  |value v=>obtain⟨rfl,d,rfl,q⟩:=r;exact xa q
  |test t=>obtain⟨rfl,d,y,rfl,q,k⟩:=r;exact⟨y,xa q,Hold.mono (sm _) k⟩
 |plain t=>obtain⟨rfl,d,y,rfl,q,k⟩:=r;exact⟨y,xa q,Hold.mono (sm _) k⟩
structure Exm (K:aB)(cS cF cV cT cP:Addr):Prop where
 F:lC K (.ref cF) (.ref cS)=some true
 V:lC K (.ref cV) (.ref cS)=some true
 T:lC K (.ref cT) (.ref cS)=some true
 P:lC K (.ref cP) (.ref cS)=some true
theorem RAt.exm {H:Hp}{C:Addr}{dx:Option Addr}{f:NF}(r:RAt K cF cV cT cP H C dx f)(x:Exm K cS cF cV cT cP):lC K (.ref C) (.ref cS)=some true:=by
 cases f with
 |flt f=>
  cases f with
  |field z=>obtain⟨rfl,_⟩:=r;exact x.F
  |value v=>obtain⟨rfl,_⟩:=r;exact x.V
  |test t=>obtain⟨rfl,_⟩:=r;exact x.T
 |plain t=>obtain⟨rfl,_⟩:=r;exact x.P
end
def Y6 (K:aB)(cF cV cT cP:Addr)(H:Hp)(v:V):Option NF->Prop
 |none=>v=.non
 |some f=>∃e,v=.ref e/\CAt K cF cV cT cP H e f
def Df (K:aB)(cF cV cT cP:Addr):Sp:=λvs H Q _=>∃(sp:Addr)(x:V) (ws:List (Str×Nat)) (s:Say),vs=[.ref sp,x]/\Hold K H (.ref sp) (fw ws)/\fo ws/\(LL ws).length<=24/\Hold K H x s.da/\s.size<=500/\s.nts<=5/\
 ∀(v:V)(H':Hp),Same H H'->Y6 K cF cV cT cP H' v (qc ws s)->Q v H'
abbrev nCa:List Str:=["_law_speech_here","_law_saying_here","_law_caught_here","_law_e"]
section
variable {P:aU}{w:aZ}{K:aB}{mg:Str->Option aC}{base:Heap}{cS cF cV cT cP cG cN:Addr}
theorem Sq:aw nCa zzn (aj By):=fsN
theorem L1 {f fA:Addr}{fd dA:bQ}(F:Fun K "_law_caught" "_law_caught" By f fd)(ex:Exm K cS cF cV cT cP)(mS:mg "SwitchError"=some (.ref cS))
  (GA:FnOk P w K mg base (CXx P w) 10 fA dA zzr (Js K cF cV cT cP)) (bA:Binds K dA zzr []) (kA:aR K (.ref fA)=true) (mA:mg "table_of"=some (.ref fA)) :
  ‹11› f fd zzn (Df K cF cV cT cP):=by
 exists F,Sq
 ·obtain⟨sp,x,ws,sy,rfl,_⟩:=h;rfl
 obtain⟨sp,x,ws,sy,rfl,AY,sk,LM,hx,AQ,n5,q⟩:=h;refine⟨_,ai (bf (i:=2) Sq.nd rfl (cD rfl) vg) (ai (Wx (i:=3) (j:=2) (λf' EX=>ak (So GA hr rfl mA kA bA (aa (pv 0) (aa (pv 1) ag)))) rfl mS rfl rfl Sq.nd rfl rfl rfl rfl) (ak (az (pv 2)))),?_⟩;dsimp only[bh,Cx.nox];have sm:∀{G:Hp}{e:Addr}(o:HO),G e=none->Same G (upd G e o):=λ{G e} o he b u z=>(by rw[ao (aq z he)];exact z);refine⟨_,rfl,_,rfl,sp,x,ws,sy,rfl,AY,sk,LM,hx,AQ,n5,λff z=>?_,λz nz dx y G1 s1 gx hy=>?_,λz nz t T G1 s1 _=>?_⟩
 ·exact FOut.mk (cP:=cP) λC dx H' s' ra=>⟨C,rfl,ra.exm ex,λe he=>⟨_,rfl,q _ _ (Same.trans s' (sm _ he)) (by rw[oo z];exact⟨e,rfl,ra.caught he⟩)⟩⟩
 ·have ra:RAt K cF cV cT cP G1 cP (some dx) (.plain sy):=⟨rfl,dx,y,rfl,gx,hy⟩;refine⟨cP,rfl,ex.P,λe he=>⟨_,rfl,q _ _ (Same.trans s1 (sm _ he)) ?_⟩⟩;rw[j8 z,if_pos nz];exact⟨e,rfl,ra.caught he⟩
 ·refine⟨_,rfl,q _ _ s1 ?_⟩;rw[j8 z,if_neg (λn=>n nz)];rfl
end
theorem Pk (s:Say):s.da.dep<=s.size:=by
 induction s with
 |no s ih=>simp only[Say.da,Da.dep,depL,Say.size];lia
 |again s ih=>simp only[Say.da,Da.dep,depL,Say.size];lia
 |either a b ia ib=>simp only[Say.da,Da.dep,depL,Say.size];lia
 |both a b ia ib=>simp only[Say.da,Da.dep,depL,Say.size];lia
 |_=>simp only[Say.da,Da.dep,depL,Say.size];lia
theorem L3 {α:Type}(x y:α)(xs:List α):atI (x::y::xs) (1:Int)=some y:=bp (j:=1) rfl
structure Kd (K:aB)(cF cV cT cP cG cN C:Addr)(b1 b2 b3 b4:Bool):Prop where
 x:i5 K C
 k:bK K (.ref C) "__class__"=some (some (.builtin "object.__class__"))
 v:eP K (.ref C) (.type "ValueError")=some true
 t:pK K (.ref C) [.ref cN,.ref cG]=some false
 f1:eP K (.ref C) (.ref cF)=some b1
 f2:eP K (.ref C) (.ref cV)=some b2
 f3:eP K (.ref C) (.ref cT)=some b3
 f4:eP K (.ref C) (.ref cP)=some b4
structure XG (K:aB)(mg:Str->Option aC)(cF cV cT cP cG cN:Addr):Prop where
 mF:mg "NoField"=some (.ref cF)
 mV:mg "NoValue"=some (.ref cV)
 mT:mg "NoTest"=some (.ref cT)
 mP:mg "NoPlain"=some (.ref cP)
 mG:mg "TooGreat"=some (.ref cG)
 mN:mg "NoNet"=some (.ref cN)
 F:Kd K cF cV cT cP cG cN cF true false false false
 V:Kd K cF cV cT cP cG cN cV false true false false
 T:Kd K cF cV cT cP cG cN cT false false true false
 P:Kd K cF cV cT cP cG cN cP false false false true
 aF:NoAttr K cF "field"
 aV:NoAttr K cV "value"
 aT:NoAttr K cT "saying"
 aP:NoAttr K cP "saying"
def NF.sz:NF->Nat
 | .flt (.test t)=>t.size
 | .plain t=>t.size
 |_=>0
def Bh (K:aB)(cF cV cT cP:Addr):Sp:=λvs H Q _=>∃(v:V)(r:Addr) (o:Option NF),vs=[v,.ref r]/\DAt K H r o/\Y6 K cF cV cT cP H v o/\(∀f,o=some f->f.sz<=58)/\∀H',Same H H'->Q (.bl true) H'
abbrev nRe:List Str:=zyj
abbrev lg:List Str:=["field","value","test","plain"]
section
variable {P:aU}{w:aZ}{K:aB}{mg:Str->Option aC}{base:Heap}{cS cF cV cT cP cG cN:Addr}
theorem Y7:aw nRe zz7 (aj mh):=fsN
def Uj:gQ:={ kind:=.function,names:=[(".0",.local),("_law_word",.local),("_law_due",.free)],isGenerator:=false,isCoroutine:=false,more:=[] }
theorem cRf_ {CX:CXT}{f:Addr}{AF:aC}{A:cC}{outer:List Env}{s:aG}{H:Hp}{E:XK} :
  cp (bh CX P w K mg base zyj "_law_refused" (aj mh) f AF A outer s H E).nox ["_law_word"] ["_law_due"] [1] Uj [("_law_due",s.heap.objs.size+1)]:=csN [(".0",.local),("_law_word",.local),("_law_due",.cell)]
theorem Hu {f:Addr}{fd:bQ}(F:Fun K "_law_refused" "_law_refused" mh f fd)(B:XG K mg cF cV cT cP cG cN)(mi:mg "isinstance"=none)(me:mg "ValueError"=none) :
  ‹2› f fd zz7 (Bh K cF cV cT cP):=by
 exists F,Y7
 ·obtain⟨v,r,o,rfl,_⟩:=h;rfl
 obtain⟨v,r,o,rfl,nd,cm,z58',q⟩:=h;have PQ:∀(f:Str)(y:V),lG f [(f,y)]=some y:=λf y=>(by simp[lG]);have tail:∃tt,PSs (bh CX0 P w K mg base nRe "_law_refused" (aj mh) f AF A outer s H E).nox ((c8 mh).drop 4) tt/\∀(e:Addr)(ff:NF) (v2:Option V) (G:Hp),o=some ff->v=.ref e->CAt K cF cV cT cP H e ff->Same H G->
   tt { nx:=λ_ H'=>Q .non H',rt:=Q } [some v,some (.ref r),v2] G:=by
  refine⟨_,ai (de (bx e9 (av ax (pv 1) ah (λ_ _=>rfl)) bg (bw _)) (ak (az (iy e9 (Bt (pv 0) rfl) (av ax (pv 1) ah (λ_ _=>rfl)) (bw _)))) cf) (ai (de (bx e9 (av ax (pv 1) ah (λ_ _=>rfl)) bg (bw _)) (ak (az (iy e9 (Bt (pv 0) rfl) (av ax (pv 1) ah (λ_ _=>rfl)) (bw _)))) cf) (ak (az (iy (Xp hr.units) (Bt (pv 0) rfl) (av ax (pv 1) ah (λ_ _=>rfl)) (bw _))))),?_⟩;dsimp only[bh,Cx.nox];intro e ff v2 G eo ev ca sG;subst eo ev;have PR:=z58' ff rfl;have dn:∀x y:Str,x≠y->decide (V.str x=V.str y)=false:=λx y h=>decide_eq_false λz=>h (by injection z);cases ff with
  |flt ff=>
   cases ff with
   |field z=>
    have gr:G r=some (.lst [.str "field",.str z]):=sG _ _ nd;have xa:XAs G e cF [("field",.str z)]:=XAs.same ca sG;refine⟨_,rfl,r,_,_,_,rfl,rfl,SqL.of gr,fg _ _,rfl,_,rfl,?_⟩;rw[decide_eq_true rfl];refine iz ⟨_,rfl,e,cF,_,_,rfl,B.F.x,B.aF,xa,PQ _ _,_,rfl,r,_,_,_,rfl,rfl,SqL.of gr,L3 _ _ _,rfl,?_⟩;rw[decide_eq_true rfl];exact q G sG
   |value z=>
    have gr:G r=some (.lst [.str "value",.int z]):=sG _ _ nd;have xa:XAs G e cV [("value",.int z)]:=XAs.same ca sG;refine⟨_,rfl,r,_,_,_,rfl,rfl,SqL.of gr,fg _ _,rfl,_,rfl,?_⟩;rw[dn "value" "field" (by decide +kernel)];refine dh ⟨_,rfl,r,_,_,_,rfl,rfl,SqL.of gr,fg _ _,rfl,_,rfl,?_⟩;rw[decide_eq_true rfl];refine iz ⟨_,rfl,e,cV,_,_,rfl,B.V.x,B.aV,xa,PQ _ _,_,rfl,r,_,_,_,rfl,rfl,SqL.of gr,L3 _ _ _,rfl,?_⟩;rw[decide_eq_true rfl];exact q G sG
   |test t=>
    obtain⟨y',KM,HB⟩:=(show ∃y,H r=some (.lst [.str "test",y])/\Hold K H y t.da from nd);obtain⟨y,KN,hy⟩:=(show ∃y,XAs H e cT [("saying",y)]/\Hold K H y t.da from ca);have gr:=sG _ _ KM;have t58:t.size<=58:=PR;obtain⟨a1,xs1,rfl,_,_⟩:=jh hy;obtain⟨a2,IM,rfl,_,_⟩:=jh HB;refine⟨_,rfl,r,_,_,_,rfl,rfl,SqL.of gr,fg _ _,rfl,_,rfl,?_⟩;rw[dn "test" "field" (by decide +kernel)];refine dh ⟨_,rfl,r,_,_,_,rfl,rfl,SqL.of gr,fg _ _,rfl,_,rfl,?_⟩;rw[dn "test" "value" (by decide +kernel)];refine dh ⟨_,rfl,e,cT,_,_,rfl,B.T.x,B.aT,XAs.same KN sG,PQ _ _,_,rfl,r,_,_,_,rfl,rfl,SqL.of gr,L3 _ _ _,a1,a2,t.da,rfl,rfl,Hold.mono sG hy,Hold.mono sG HB,cH (Pk t) (by lia),?_⟩;exact q G sG
  |plain t=>
   obtain⟨y',KM,HB⟩:=(show ∃y,H r=some (.lst [.str "plain",y])/\Hold K H y t.da from nd);obtain⟨y,KN,hy⟩:=(show ∃y,XAs H e cP [("saying",y)]/\Hold K H y t.da from ca);have gr:=sG _ _ KM;have t58:t.size<=58:=PR;obtain⟨a1,xs1,rfl,_,_⟩:=jh hy;obtain⟨a2,IM,rfl,_,_⟩:=jh HB;refine⟨_,rfl,r,_,_,_,rfl,rfl,SqL.of gr,fg _ _,rfl,_,rfl,?_⟩;rw[dn "plain" "field" (by decide +kernel)];refine dh ⟨_,rfl,r,_,_,_,rfl,rfl,SqL.of gr,fg _ _,rfl,_,rfl,?_⟩;rw[dn "plain" "value" (by decide +kernel)];refine dh ⟨_,rfl,e,cP,_,_,rfl,B.P.x,B.aP,XAs.same KN sG,PQ _ _,_,rfl,r,_,_,_,rfl,rfl,SqL.of gr,L3 _ _ _,a1,a2,t.da,rfl,rfl,Hold.mono sG hy,Hold.mono sG HB,cH (Pk t) (by lia),?_⟩;exact q G sG
 obtain⟨tt,ht,hq⟩:=tail;refine⟨_,ai (de (PW.pt (Jv (bx Mj (pv 0) vg (bw _)) (D0 (bx (Il hr.units) (pv 1) (bc ag) (bw _))))) (ak (az (Ma (iy Mj (pv 0) vg (bw _)) (L9 (iy (Il hr.units) (pv 1) (bc ag) (bw _)))))) cf) (ai (de (PW.pt (Jv (D1 (nq (bz px rfl mi (by kernel_rfl) (aa (pv 0) (aa (Um (v:=.ty "ValueError") rfl me (by kernel_rfl) rfl) ag))))) (D0 (nq (bz Ng rfl mi (by kernel_rfl) (aa (pv 0) (aa (cb (aa (jd (v:=.ref cN) rfl B.mN rfl) (aa (jd (v:=.ref cG) rfl B.mG rfl) ag))) ag))))))) (ak (az m8)) cf) (ai (bf (i:=2) Y7.nd rfl (cD rfl) (bc (aa (bz px rfl mi (by kernel_rfl) (aa (pv 0) (aa (jd (v:=.ref cF) rfl B.mF rfl) ag))) (aa (bz px rfl mi (by kernel_rfl) (aa (pv 0) (aa (jd (v:=.ref cV) rfl B.mV rfl) ag))) (aa (bz px rfl mi (by kernel_rfl) (aa (pv 0) (aa (jd (v:=.ref cT) rfl B.mT rfl) ag))) (aa (bz px rfl mi (by kernel_rfl) (aa (pv 0) (aa (jd (v:=.ref cP) rfl B.mP rfl) ag))) ag)))))) (ai (de (bx (Vq hr.units) (pv 2) (dz (ns:=["_law_word"]) (ys:=["_law_due"]) (sc:=Uj) cRf_ rfl (c7 (bc (bq bg (bq bg (bq bg (bq bg ag)))))) (λC s H fp=>bo (i:=0) (by show(["_law_word","_law_due"]:List Str).Nodup;decide +kernel) rfl (cD rfl)) (λC s H fp=>cz) (λC s H fp=>iy e9 (av (r:=Bn K) ax (pv 1) ah (λ_ _=>rfl)) (pv 0) (bw _))) (bw _)) (ak (az m8)) cf) ht))),?_⟩;dsimp only[bh,Cx.nox];have eqN:∀{G:Hp}{l:Addr}{k:VK},H r=some (.lst [])->G l=none->Same H G->k (.bl true) (upd G l (.lst []))->rLL K true (.ref r) (.ref l) (upd G l (.lst [])) k:=λ{G l k} g hl sG hk=>
  ⟨r,l,[],[],rfl,rfl,SqL.of (ae hl _ _ _ (sG _ _ g)),SqL.of af,.inr ⟨[],.nil,.nil,by decide,hk⟩⟩
 cases o with
 |none=>
  have g:H r=some (.lst []):=nd;have ev:v=.non:=cm;subst ev;refine⟨_,rfl,rfl,true,rfl,iz ?_⟩;exact⟨_,rfl,rfl,true,rfl,iz ⟨_,rfl,sz0,λl hl=>eqN g hl (Same.refl _) (q _ (ae hl _))⟩⟩
 |some ff=>
 obtain⟨e,ev,ca⟩:=cm;obtain⟨C,NQ,y',b1,b2,b3,b4,kd,ix,gr,et⟩:∃(C:Addr)(NQ:Str) (y':V) (b1 b2 b3 b4:Bool),Kd K cF cV cT cP cG cN C b1 b2 b3 b4/\IsX H e C/\H r=some (.lst [.str NQ,y'])/\lg.map (λx=>decide (V.str NQ=V.str x))=[b1,b2,b3,b4]:=by
  cases ff with
  |flt ff=>
   cases ff with
   |field z=>exact⟨cF,"field",_,_,_,_,_,B.F,XAs.isX ca,nd,by decide +kernel⟩
   |value z=>exact⟨cV,"value",_,_,_,_,_,B.V,XAs.isX ca,nd,by decide +kernel⟩
   |test t=>
    obtain⟨y',KM,HB⟩:=(show ∃y,H r=some (.lst [.str "test",y])/\Hold K H y t.da from nd);obtain⟨y,KN,hy⟩:=(show ∃y,XAs H e cT [("saying",y)]/\Hold K H y t.da from ca);exact⟨cT,"test",_,_,_,_,_,B.T,XAs.isX KN,KM,by decide +kernel⟩
  |plain t=>
   obtain⟨y',KM,HB⟩:=(show ∃y,H r=some (.lst [.str "plain",y])/\Hold K H y t.da from nd);obtain⟨y,KN,hy⟩:=(show ∃y,XAs H e cP [("saying",y)]/\Hold K H y t.da from ca);exact⟨cP,"plain",_,_,_,_,_,B.P,XAs.isX KN,KM,by decide +kernel⟩
 subst ev;refine⟨_,rfl,rfl,false,rfl,dh ?_⟩;refine⟨_,rfl,sz0,λl0 FU=>⟨r,l0,_,[],rfl,rfl,SqL.of (ae FU _ _ _ gr),SqL.of af,.inl ⟨(by show ¬(2=0);decide),false,rfl,dh ?_⟩⟩⟩;have s0:=ae FU (.lst []);generalize upd H l0 (.lst [])=G0 at s0 ⊢;have XT:=ix.same s0;refine⟨_,rfl,e,C,_,_,true,rfl,XT,kd.x,kd.k,rfl,kd.v,true,rfl,dh ?_⟩;refine⟨_,rfl,sz2,λp hp=>⟨e,C,p,_,_,false,rfl,XT.same (ae hp _),kd.x,kd.k,af,.cons rfl (.cons rfl .nil),kd.t,false,rfl,dh ?_⟩⟩;have sp:=Same.trans s0 (ae hp (.tup [.ref cN,.ref cG]));generalize upd G0 p (.tup [.ref cN,.ref cG])=G9 at sp ⊢;have PU:=ix.same sp;refine⟨_,rfl,e,C,_,_,b1,rfl,PU,kd.x,kd.k,rfl,kd.f1,_,rfl,e,C,_,_,b2,rfl,PU,kd.x,kd.k,rfl,kd.f2,_,rfl,e,C,_,_,b3,rfl,PU,kd.x,kd.k,rfl,kd.f3,_,rfl,e,C,_,_,b4,rfl,PU,kd.x,kd.k,rfl,kd.f4,sz4,λl hl=>?_⟩;have s1:=ae hl (.lst [.bl b1,.bl b2,.bl b3,.bl b4]);have gl:upd G9 l (.lst [.bl b1,.bl b2,.bl b3,.bl b4]) l=some (.lst [.bl b1,.bl b2,.bl b3,.bl b4]):=af;generalize upd G9 l (.lst [.bl b1,.bl b2,.bl b3,.bl b4])=G1 at s1 gl ⊢;refine⟨_,rfl,sz4,λl4 hl4=>?_⟩;have s4:=ae hl4 (.lst (lg.map V.str));refine⟨l4,rfl,⟨_,SqL.of af⟩,λD hD=>?_⟩;obtain⟨G4,NR⟩:∃G4,upd G1 l4 (.lst (lg.map V.str))=G4:=⟨_,rfl⟩;have IS:Same H G4:=(by rw[<-NR];exact Same.trans sp (Same.trans s1 s4));have g34:G4 l=some (.lst [.bl b1,.bl b2,.bl b3,.bl b4]):=(by rw[<-NR];exact s4 _ _ gl);have g44:G4 l4=some (.lst (lg.map V.str)):=(by rw[<-NR,af]);have XU:G4 D=none:=(by rw[<-NR];exact hD);show qd _ _ _ _ _ _ _ _ (upd G1 l4 (.lst (lg.map V.str))) D;rw[NR];refine dy (K:=K) (a:=l4) (xs:=lg.map V.str) (λi ys G=>Same G4 G/\G D=some (.lst ys)/\ys=((lg.take i).map λx=>decide (V.str NQ=V.str x)).map V.bl) ⟨ae XU _,af,rfl⟩ (λi ys G z=>z.2.1) (λi ys G _ z=>SqL.of (z.1 _ _ g44)) ?_ ?_
 ·intro i x' ys G DL AC;obtain⟨sG,d2,rfl⟩:=AC;have hi:i < 4:=(aM.mp DL).1;rw[cQ]at DL;obtain⟨wd,ew,rfl⟩:=gY.mp DL;refine⟨bj (by rw[aJ,aJ,cK];lia),⟨[some _],rfl,rfl⟩,?_⟩;refine⟨_,rfl,r,_,_,_,rfl,rfl,SqL.of (sG _ _ (IS _ _ gr)),fg _ _,_,rfl,rfl,d2,Same.put sG XU _,af,?_⟩;rw[eX,ew];simp
 ·intro ys G AC;obtain⟨sG,d2,rfl⟩:=AC;have et':((lg.take (lg.map V.str).length).map λx=>decide (V.str NQ=V.str x))=[b1,b2,b3,b4]:=et;rw[et']at d2;have hb:Holds K G [.bl b1,.bl b2,.bl b3,.bl b4] [.flat (.bl b1),.flat (.bl b2),.flat (.bl b3),.flat (.bl b4)]:=.cons (.flat rfl) (.cons (.flat rfl) (.cons (.flat rfl) (.cons (.flat rfl) .nil)));refine⟨l,D,_,_,rfl,rfl,SqL.of (sG _ _ g34),SqL.of d2,.inr ⟨_,hb,hb,by simp[depL,Da.dep],_,rfl,dh ?_⟩⟩;exact hq e ff _ G rfl rfl ca (Same.trans IS sG)
end
def Ent (K:aB)(G:Hp)(u:Addr)(ws:List (Str×Nat))(x:V):Prop:=∃(c b:Addr)(y:V) (s:Say),x=.ref c/\c≠u/\b≠u/\G c=some (.lst [y,.ref b])/\Hold K G y s.da/\s.size<=58/\s.nts<=5/\DAt K G b (qc ws s)
theorem DAt.keep {K:aB}{H G:Hp}{u r:Addr}{o:Option NF}{zs:List V}(h:DAt K H r o)(g:H u=some (.lst zs))(ru:r≠u)(k:∀b o,b≠u->H b=some o->G b=some o):DAt K G r o:=by
 cases o with
 |none=>exact k _ _ ru h
 |some f=>
  cases f with
  |flt f=>
   cases f with
   |field z=>exact k _ _ ru h
   |value z=>exact k _ _ ru h
   |test t=>obtain⟨y,h1,h2⟩:=h;exact⟨y,k _ _ ru h1,h2.stay (Tups.but g k) (sr t)⟩
  |plain t=>obtain⟨y,h1,h2⟩:=h;exact⟨y,k _ _ ru h1,h2.stay (Tups.but g k) (sr t)⟩
theorem Ent.keep {K:aB}{G G':Hp}{u:Addr}{ws:List (Str×Nat)}{x:V}{zs:List V}(h:Ent K G u ws x)(g:G u=some (.lst zs))(k:∀b o,b≠u->G b=some o->G' b=some o):Ent K G' u ws x:=by
 obtain⟨c,b,y,s,rfl,cu,bu,gc,hy,NS,n5,d⟩:=h;exact⟨c,b,y,s,rfl,cu,bu,k _ _ cu gc,hy.stay (Tups.but g k) (sr s),NS,n5,d.keep g bu k⟩
def ERow (K:aB)(ws:List (Str×Nat))(u:Addr)(H0:Hp)(n:Nat)(G:Hp)(zs:List V):Prop:=Same H0 G/\G u=some (.lst zs)/\zs.length=n/\∀x∈zs,Ent K G u ws x
theorem ERow.add {K:aB}{ws:List (Str×Nat)}{u c b:Addr}{H0 G G1:Hp}{n:Nat}{zs:List V}{y:V}{s:Say}(R:ERow K ws u H0 n G zs)(hu:H0 u=none)(s1:Same G G1)(gc:G1 c=some (.lst [y,.ref b]))(cu:c≠u)(bu:b≠u)(hy:Hold K G1 y s.da)(NS:s.size<=58)(n5:s.nts<=5)(hd:DAt K G1 b (qc ws s)) :
  ERow K ws u H0 (n+1) (upd G1 u (.lst (zs++[.ref c]))) (zs++[.ref c]):=by
 obtain⟨sH,gu,ln,en⟩:=R;have JV:=s1 _ _ gu;have kp:∀b o,b≠u->G1 b=some o->upd G1 u (.lst (zs++[.ref c])) b=some o:=λb o h e=>(by rw[ao h];exact e);refine⟨Same.put (Same.trans sH s1) hu _,af,by rw[aQ,ln];rfl,λx hx=>?_⟩;rcases fK.mp hx with z | z
 ·exact(en x z).keep gu λb o h e=>kp b o h (s1 b o e)
 ·rw[eG.mp z];exact Ent.keep ⟨c,b,y,s,rfl,cu,bu,gc,hy,NS,n5,hd⟩ JV kp
theorem Ent.new {K:aB}{G:Hp}{u c b:Addr}{ws:List (Str×Nat)}{y:V}{s:Say}{ob:HO}(hu:G u=none)(gc:G c=some (.lst [y,.ref b]))(gb:G b=some ob)(hy:Hold K G y s.da)(NS:s.size<=58)(n5:s.nts<=5)(hd:DAt K G b (qc ws s))(o:HO):Ent K (upd G u o) u ws (.ref c):=
 ⟨c,b,y,s,rfl,aq gc hu,aq gb hu,ae hu _ _ _ gc,hy.mono (ae hu _),NS,n5,hd.mono (ae hu _)⟩
theorem dv {K:aB}{H:Hp}{p:Addr}{xs:List V}{ds:List Da}(hp:H p=none)(h:Holds K H xs ds):Hold K (upd H p (.tup xs)) (.ref p) (.tup ds):=.tup (SqT.of af) (Holds.mono (ae hp _) h)
theorem Y8 {α:Type}{xs:List α}{v:Int}(h0:0<=v)(h1:v < (xs.length:Int)):∃x,xs[v.toNat]?=some x/\atI xs v=some x:=by
 have hk:v.toNat < xs.length:=(by lia);have ek:v=((v.toNat:Nat):Int):=(by lia);have q:atI xs ((v.toNat:Nat):Int)=some xs[v.toNat]:=bp (aK hk);rw[<-ek]at q;exact⟨_,aK hk,q⟩
theorem Sr {ns:List Int}{lo hi:Option Int}:∀x∈d7 (ns.map V.int) lo hi,∃n,x=V.int n:=λx z=>by
 unfold d7 at z;obtain⟨n,_,e'⟩:=jN.mp (List.mem_of_mem_drop (pZ z));exact⟨n,e'.symm⟩
def EntF (K:aB)(G:Hp)(ws:List (Str×Nat))(x:V):Prop:=∃(c b:Addr)(y:V) (s:Say),x=.ref c/\G c=some (.lst [y,.ref b])/\Hold K G y s.da/\s.size<=58/\s.nts<=5/\DAt K G b (qc ws s)
theorem EntF.mono {K:aB}{G G':Hp}{ws:List (Str×Nat)}{x:V}(h:EntF K G ws x)(e:Same G G'):EntF K G' ws x:=by
 obtain⟨c,b,y,s,h1,h2,h3,h4,h5,h6⟩:=h;exact⟨c,b,y,s,h1,e _ _ h2,h3.mono e,h4,h5,h6.mono e⟩
theorem Ent.f {K:aB}{G:Hp}{u:Addr}{ws:List (Str×Nat)}{x:V}(h:Ent K G u ws x):EntF K G ws x:=by
 obtain⟨c,b,y,s,h1,_,_,h2,h3,h4,h5,h6⟩:=h;exact⟨c,b,y,s,h1,h2,h3,h4,h5,h6⟩
def Dy (K:aB)(G:Hp)(ws:List (Str×Nat))(sy:Say)(x:V):Prop:=∃s:Say,Hold K G x s.da/\s.due ws=none/\s.nts=1/\s.size<=sy.size+3
theorem pick3 {p:V->Prop}{a b c:V}{v:Int}(h0:0<=v)(h1:v < 3)(ha:p a)(hb:p b)(hc:p c):∃x,atI [a,b,c] v=some x/\p x:=by
 have z:v=0\/v=1\/v=2:=(by lia);rcases z with rfl | rfl | rfl
 ·exact⟨a,bp (j:=0) rfl,ha⟩
 ·exact⟨b,bp (j:=1) rfl,hb⟩
 ·exact⟨c,bp (j:=2) rfl,hc⟩
def Ju (K:aB):Sp:=λvs H Q _=>∃(sp:Addr)(x:V) (n:Int) (ws:List (Str×Nat)) (s:Say),vs=[.ref sp,x,.int n]/\Hold K H (.ref sp) (fw ws)/\fo ws/\Wds ws/\Hold K H x s.da/\s.size<=54/\s.due ws=none/\s.nts=0/\
 ∀(u:Addr)(zs:List V) (H':Hp),Same H H'->H' u=some (.lst zs)->(∀x∈zs,EntF K H' ws x)->Q (.ref u) H'
abbrev nTi:List Str:=["_law_speech_here","_law_saying_here","_law_cell_here","_law_field","_law_count","_law_far","_law_noted","_law_tried_here"]
section
variable {P:aU}{w:aZ}{K:aB}{mg:Str->Option aC}{base:Heap}
theorem Ce:aw nTi zzw (aj E8):=fsN
theorem Ss {f:Addr}{fd:bQ}(F:Fun K "_law_tried" "_law_tried" E8 f fd)(ml:mg "len"=none):‹1› f fd zzw (Ju K):=by
 exists F,Ce
 ·obtain⟨sp,x,n,ws,sy,rfl,_⟩:=h;rfl
 obtain⟨sp,y,n,ws,sy,rfl,AY,sk,wd,hy,XW,du,nz,q⟩:=h;refine⟨_,@ai _ _ _ _ _ (vj (av cq (pv 0) (ba gz (pv 2) (bz cg rfl ml gT (aa (pv 0) ag))) (λ_ _=>rfl)) (vi rfl (e8 (bo (i:=3) Ce.nd rfl (cD rfl)) (e8 (bo (i:=4) Ce.nd rfl (cD rfl)) lh)))) (@ai _ _ _ _ _ (bf (i:=5) Ce.nd rfl (cD rfl) (av ax (bc (aa (m9 jt ah) (aa (pv 4) (aa (ba gy (ba Xg ah ah) (pv 4)) ag)))) (ba gz (ba xm (pv 2) ah) ah) (λ_ _=>rfl))) (@ai _ _ _ _ _ (bf (i:=6) Ce.nd rfl (cD rfl) (@bc _ _ _ _ (@i8 _ _ _ _ _ _ _ (@cb _ _ _ _ _ (@bq _ _ _ _ _ _ _ (@bg _ _ _ _) (@qu _ _ _ _ _ _ (pv 1) (@i8 _ _ _ _ _ _ _ (@cb _ _ _ _ _ (@bq _ _ _ _ _ _ _ (@bg _ _ _ _) ag)) ag)))) (@i8 _ _ _ _ _ _ _ (@cb _ _ _ _ _ (@bq _ _ _ _ _ _ _ (@bg _ _ _ _) (@i8 _ _ _ _ _ _ _ (@cb _ _ _ _ _ (@bq _ _ _ _ _ _ _ (@bg _ _ _ _) ag)) (@qu _ _ _ _ _ _ (pv 1) ag)))) (@i8 _ _ _ _ _ _ _ (@cb _ _ _ _ _ (@bq _ _ _ _ _ _ _ (@bg _ _ _ _) (@i8 _ _ _ _ _ _ _ (@cb _ _ _ _ _ (@bq _ _ _ _ _ _ _ (@bg _ _ _ _) (@i8 _ _ _ _ _ _ _ (@cb _ _ _ _ _ (@bq _ _ _ _ _ _ _ (@bg _ _ _ _) ag)) (@qu _ _ _ _ _ _ (pv 1) ag)))) ag))) ag))))) (@ai _ _ _ _ _ (bf (i:=7) Ce.nd rfl (cD rfl) (@bc _ _ _ _ (aa (@bc _ _ _ _ (@qu _ _ _ _ _ _ (pv 1) (aa (@bc _ _ _ _ ag) ag))) (aa (@bc _ _ _ _ (aa (av ax (pv 6) (ba gz (pv 2) ah) (λ_ _=>rfl)) (aa (@bc _ _ _ _ (@bq _ _ _ _ _ _ _ (@bg _ _ _ _) (aa (av ax (pv 6) (ba gz (pv 2) ah) (λ_ _=>rfl)) ag))) ag))) ag)))) (@ai _ _ _ _ _ (df (ki fG jF jG gq (pv 7) (aa (@bc _ _ _ _ (aa (@cb _ _ _ _ _ (@bq _ _ _ _ _ _ _ (@bg _ _ _ _) (@i8 _ _ _ _ _ _ _ (@cb _ _ _ _ _ (@bq _ _ _ _ _ _ _ (@bg _ _ _ _) (aa (ba t9 (pv 3) bg) (@qu _ _ _ _ _ _ (pv 5) ag)))) (@i8 _ _ _ _ _ _ _ (@cb _ _ _ _ _ (@bq _ _ _ _ _ _ _ (@bg _ _ _ _) ag)) ag)))) (aa (@bc _ _ _ _ (@bq _ _ _ _ _ _ _ (@bg _ _ _ _) (aa (ba t9 (pv 3) bg) ag))) ag))) ag))) (@ai _ _ _ _ _ (df (ki fG jF jG gq (pv 7) (aa (@bc _ _ _ _ (aa (@cb _ _ _ _ _ (@bq _ _ _ _ _ _ _ (@bg _ _ _ _) (@i8 _ _ _ _ _ _ _ (@cb _ _ _ _ _ (@bq _ _ _ _ _ _ _ (@bg _ _ _ _) ag)) (@i8 _ _ _ _ _ _ _ (@cb _ _ _ _ _ (@bq _ _ _ _ _ _ _ (@bg _ _ _ _) (@i8 _ _ _ _ _ _ _ (@cb _ _ _ _ _ (@bq _ _ _ _ _ _ _ (@bg _ _ _ _) (@qu _ _ _ _ _ _ (pv 3) (@qu _ _ _ _ _ _ (pv 5) ag)))) ag))) ag)))) (aa (@bc _ _ _ _ (@bq _ _ _ _ _ _ _ (@bg _ _ _ _) (@qu _ _ _ _ _ _ (pv 5) ag))) ag))) ag))) (@ai _ _ _ _ _ (df (ki fG jF jG gq (pv 7) (aa (@bc _ _ _ _ (aa (@cb _ _ _ _ _ (@bq _ _ _ _ _ _ _ (@bg _ _ _ _) (@qu _ _ _ _ _ _ (pv 1) (@i8 _ _ _ _ _ _ _ (@cb _ _ _ _ _ (@bq _ _ _ _ _ _ _ (@bg _ _ _ _) (@i8 _ _ _ _ _ _ _ (@cb _ _ _ _ _ (@bq _ _ _ _ _ _ _ (@bg _ _ _ _) (@i8 _ _ _ _ _ _ _ (@cb _ _ _ _ _ (@bq _ _ _ _ _ _ _ (@bg _ _ _ _) (@bq _ _ _ _ _ _ _ (@bg _ _ _ _) (@bq _ _ _ _ _ _ _ (@ah _ _ _ _) ag)))) ag))) ag))) ag)))) (aa (@bc _ _ _ _ (@bq _ _ _ _ _ _ _ (@bg _ _ _ _) (@i8 _ _ _ _ _ _ _ (@cb _ _ _ _ _ (@bq _ _ _ _ _ _ _ (@bg _ _ _ _) (@i8 _ _ _ _ _ _ _ (@cb _ _ _ _ _ (@bq _ _ _ _ _ _ _ (@bg _ _ _ _) (@bq _ _ _ _ _ _ _ (@bg _ _ _ _) (@bq _ _ _ _ _ _ _ (@ah _ _ _ _) ag)))) ag))) ag))) ag))) ag))) (ak (az (ba d9 (pv 7) (@bc _ _ _ _ (aa (@bc _ _ _ _ (@qu _ _ _ _ _ _ (pv 1) (aa (@bc _ _ _ _ ag) ag))) ag))))))))))),?_⟩;obtain⟨RR,vs,es,XX,XY⟩:=Hold.tupI AY;cases es;have lv:vs.length=ws.length:=(by rw[XY.length,aJ]);have w1:=sk.lo;have v0:(0:Int) < ((vs.length:Nat):Int):=(by lia);have m2:=gh n v0;obtain⟨xw,exw,evw⟩:=Y8 (xs:=vs) m2.1 m2.2;obtain⟨w',ew,hw⟩:=XY.getm exw;obtain⟨c,ys,ec,hc,BO⟩:=Hold.tupI hw;have wm:w'∈ws:=bV ew;have h6:=sk.cnt w' wm;have wk:=sk.word w' wm;have wl:=wk.len;subst ec;refine⟨_,rfl,_,rfl,_,rfl,sp,_,rfl,.inr XX,_,_,rfl,rfl,v0,sp,_,_,_,rfl,rfl,XX,evw,?_⟩;cases BO with
 |cons h1 r1=>
 cases r1 with
 |cons h2 r2=>
 cases r2;cases h1.flatI;cases h2.flatI;refine⟨c,_,rfl,hc,rfl,_,_,rfl,_,_,rfl,rfl,?_⟩;refine⟨1,rfl,_,rfl,_,_,rfl,rfl,⟨by decide,by decide,by decide⟩,_,rfl,_,_,rfl,rfl,sz3,λl2 AR=>?_⟩;have m3:=gh (n / 3) (m:=3) (by decide);obtain⟨FP,fm,fe⟩:=E9 (ns:=[-1,(w'.2:Int),(10:Int) ^ ((59:Int).toNat)+(w'.2:Int)]) m3.1 m3.2;have fr:¬(0<=FP/\FP < (w'.2:Int))/\FP.natAbs.log2 < 1000:=by
  rw[p59]at fm;simp only[aX,dQ,or_false]at fm;refine⟨by lia,vy (by lia)⟩
 obtain⟨fno,HV⟩:=fr;refine⟨_,rfl,_,_,rfl,rfl,⟨by decide,by decide⟩,_,_,rfl,rfl,(by show(0:Int) < 3;decide),l2,_,_,_,rfl,rfl,SqL.of af,fe,?_⟩;have t5:=ae AR (.lst [.int (-1),.int (w'.2:Int),.int ((10:Int) ^ ((59:Int).toNat)+(w'.2:Int))]);have NU:=hy.mono t5;generalize upd H l2 _=G5 at t5 NU ⊢;refine⟨_,rfl,sz1,λa1 PN=>⟨sz3,λa2 NM=>⟨sz1,λa3 NN=>⟨_,rfl,sz3,λa4 NW=>⟨sz1,λa5 JC=>⟨_,rfl,sz3,λa6 KO=>⟨sz2,λa7 JD=>⟨sz3,λln ES=>?_⟩⟩⟩⟩⟩⟩⟩⟩;have T1:Hold K (upd G5 a1 (.tup [.str "note"])) (.ref a1) Say.note.da:=dv PN (.cons (.flat rfl) .nil);have S1:=ae PN (.tup [.str "note"]);generalize upd G5 a1 (.tup [.str "note"])=g1 at T1 S1 NM NN NW JC KO JD ES ⊢;have T2:Hold K (upd g1 a2 (.tup [.str "then",y,.ref a1])) (.ref a2) (Say.both sy .note).da:=dv NM (.cons (.flat rfl) (.cons (NU.mono S1) (.cons T1 .nil)));have S2:=ae NM (.tup [.str "then",y,.ref a1]);generalize upd g1 a2 (.tup [.str "then",y,.ref a1])=g2 at T2 S2 NN NW JC KO JD ES ⊢;have T3:Hold K (upd g2 a3 (.tup [.str "note"])) (.ref a3) Say.note.da:=dv NN (.cons (.flat rfl) .nil);have S3:=ae NN (.tup [.str "note"]);generalize upd g2 a3 (.tup [.str "note"])=g3 at T3 S3 NW JC KO JD ES ⊢;have A3:=Same.trans S1 (Same.trans S2 S3);have T4:Hold K (upd g3 a4 (.tup [.str "either",.ref a3,y])) (.ref a4) (Say.either .note sy).da:=dv NW (.cons (.flat rfl) (.cons T3 (.cons (NU.mono A3) .nil)));have S4:=ae NW (.tup [.str "either",.ref a3,y]);generalize upd g3 a4 (.tup [.str "either",.ref a3,y])=g4 at T4 S4 JC KO JD ES ⊢;have T5:Hold K (upd g4 a5 (.tup [.str "note"])) (.ref a5) Say.note.da:=dv JC (.cons (.flat rfl) .nil);have S5:=ae JC (.tup [.str "note"]);generalize upd g4 a5 (.tup [.str "note"])=g5 at T5 S5 KO JD ES ⊢;have A5:=Same.trans A3 (Same.trans S4 S5);have T6:Hold K (upd g5 a6 (.tup [.str "then",.ref a5,y])) (.ref a6) (Say.both .note sy).da:=dv KO (.cons (.flat rfl) (.cons T5 (.cons (NU.mono A5) .nil)));have S6:=ae KO (.tup [.str "then",.ref a5,y]);generalize upd g5 a6 (.tup [.str "then",.ref a5,y])=g6 at T6 S6 JD ES ⊢;have T7:Hold K (upd g6 a7 (.tup [.str "again",.ref a6])) (.ref a7) (Say.again (.both .note sy)).da:=dv JD (.cons (.flat rfl) (.cons T6 .nil));have S7:=ae JD (.tup [.str "again",.ref a6]);generalize upd g6 a7 (.tup [.str "again",.ref a6])=g7 at T7 S7 ES ⊢;have S8:=ae ES (.lst [.ref a2,.ref a4,.ref a7]);have SZ:upd g7 ln (.lst [.ref a2,.ref a4,.ref a7]) ln=some (.lst [.ref a2,.ref a4,.ref a7]):=af;generalize upd g7 ln (.lst [.ref a2,.ref a4,.ref a7])=g8 at S8 SZ ⊢;have B78:=Same.trans S7 (S8);have S':=Same.trans S5 (Same.trans S6 B78);have B28:=Same.trans S3 (Same.trans S4 S');have A8:Same G5 g8:=Same.trans A3 (Same.trans S4 S');have N1:Dy K g8 ws sy (.ref a2):=⟨.both sy .note,T2.mono B28,by rw[Say.due,du];rfl,by show sy.nts+1=1;rw[nz],by show sy.size+1+1<=sy.size+3;lia⟩;have N2:Dy K g8 ws sy (.ref a4):=⟨.either .note sy,T4.mono S',by rw[Say.due,du];rfl,by show 1+sy.nts=1;rw[nz],by show 1+sy.size+1<=sy.size+3;lia⟩;have N3:Dy K g8 ws sy (.ref a7):=⟨.again (.both .note sy),T7.mono S8,by rw[Say.due,Say.due,du];rfl,by show 1+sy.nts=1;rw[nz],by show 1+sy.size+1+1<=sy.size+3;lia⟩;have m4:=gh n (m:=3) (by decide);obtain⟨nv,env,sn,hn,dn,nn,zn⟩:=pick3 (p:=Dy K g8 ws sy) m4.1 m4.2 N1 N2 N3;have XZ:=NU.mono A8;refine⟨_,rfl,sz0,λb1 IU=>⟨sz2,λc1 HU=>⟨_,rfl,_,rfl,_,_,rfl,rfl,(by show(0:Int) < 3;decide),ln,_,_,_,rfl,rfl,SqL.of (ae HU _ _ _ (ae IU _ _ _ SZ)),env,_,rfl,_,rfl,_,_,rfl,rfl,(by show(0:Int) < 3;decide),ln,_,_,_,rfl,rfl,SqL.of (ae HU _ _ _ (ae IU _ _ _ SZ)),env,sz2,λb2 JU=>⟨sz2,λc2 DB=>⟨sz2,λu hu=>?_⟩⟩⟩⟩⟩;have S9:=ae IU (.lst []);have FL:upd g8 b1 (.lst []) b1=some (.lst []):=af;generalize upd g8 b1 (.lst [])=g9 at FL S9 HU JU DB hu ⊢;have X':=ae HU (.lst [y,.ref b1]);have IR:upd g9 c1 (.lst [y,.ref b1]) c1=some (.lst [y,.ref b1]):=af;generalize upd g9 c1 (.lst [y,.ref b1])=g10 at IR X' JU DB hu ⊢;have YA:=ae JU (.lst [.str "plain",nv]);have HH:upd g10 b2 (.lst [.str "plain",nv]) b2=some (.lst [.str "plain",nv]):=af;generalize upd g10 b2 (.lst [.str "plain",nv])=g11 at HH YA DB hu ⊢;have PV:=ae DB (.lst [nv,.ref b2]);have LB:upd g11 c2 (.lst [nv,.ref b2]) c2=some (.lst [nv,.ref b2]):=af;generalize upd g11 c2 (.lst [nv,.ref b2])=HK at LB PV hu ⊢;have YB:=Same.trans YA PV;have C9:=Same.trans X' YB;have C8:=Same.trans S9 C9;have R2:ERow K ws u HK 2 (upd HK u (.lst [.ref c1,.ref c2])) [.ref c1,.ref c2]:=by
  refine⟨ae hu _,af,rfl,λx hx=>?_⟩;simp only[aX,dQ,or_false]at hx;rcases hx with z | z<;>rw[z]
  ·exact Ent.new (s:=sy) hu (YB _ _ IR) (C9 _ _ FL) (XZ.mono C8) (by lia) (by lia) (by rw[j8 du,if_neg (λz=>z nz)];exact C9 _ _ FL) _
  ·exact Ent.new (s:=sn) hu LB (PV _ _ HH) (hn.mono C8) (by lia) (by lia) (by rw[j8 dn,if_pos (by lia)];exact⟨nv,PV _ _ HH,hn.mono C8⟩) _
 generalize upd HK u (.lst [.ref c1,.ref c2])=Ga at R2 ⊢;have YC:∀{G:Hp},Same HK G->Hold K G y sy.da:=λ{G} s=>XZ.mono (Same.trans C8 s);generalize ([.ref c1,.ref c2]:List V)=za at R2;obtain⟨sA,gA,lA,_⟩:=id R2;refine⟨_,rfl,.inl ⟨rfl,_,SqL.of gA⟩,_,rfl,_,_,rfl,rfl,small (by show w'.1.length+1<=1000;lia),_,rfl,sz3,λk1 DW=>⟨sz1,λkn JE=>⟨sz3,λk2 CW=>⟨_,rfl,_,_,rfl,rfl,small (by show w'.1.length+1<=1000;lia),sz2,λkb B'=>⟨sz2,λkc CH=>?_⟩⟩⟩⟩⟩;have tn:=Same.trans (ae DW (.tup [.str "is",.str (w'.1++"x"),.int FP])) (Same.trans (ae JE (.tup [.str "note"])) (ae CW (.tup [.str "then",.ref k1,.ref kn])));have R3:=R2.add (c:=kc) (b:=kb) (y:=.ref k2) (s:=.both (.is ⟨w'.1++"x",Np wk⟩ ⟨FP,HV⟩) .note) hu (Same.trans tn (Same.trans (ae B' _) (ae CH _))) af
  (aq (ae B' _ _ _ (tn _ _ gA)) CH).symm (aq (tn _ _ gA) B').symm
  (Hold.mono (Same.trans (ae B' _) (ae CH _)) (dv CW (.cons (.flat rfl) (.cons (Hold.mono (ae JE _) (dv DW (.cons (.flat rfl) (.cons (.flat rfl) (.cons (.flat rfl) .nil))))) (.cons (dv JE (.cons (.flat rfl) .nil)) .nil)))))
  (by show 1+1+1<=58;decide) (by show 0+1<=5;decide) (by rw[oo (show Say.due ws (.both (.is ⟨w'.1++"x",Np wk⟩ ⟨FP,HV⟩) .note)=some (.field (w'.1++"x"))by rw[Say.due,Say.due,Pi wd wm];rfl)];exact ae CH _ _ _ af)
 refine⟨u,_,.ref kc,rfl,rfl,(Same.trans tn (Same.trans (ae B' _) (ae CH _))) _ _ gA,bj (by lia),?_⟩;clear gA tn CH B' CW JE DW;generalize upd _ u _=Gb at R3 ⊢;generalize za++[V.ref kc]=zb at R3;obtain⟨sA,gA,lA,_⟩:=id R3;refine⟨_,rfl,.inl ⟨rfl,_,SqL.of gA⟩,sz1,λkn JE=>⟨_,rfl,_,rfl,sz3,λk0 DN=>⟨sz2,λk1 DW=>⟨sz3,λk2 CW=>⟨_,rfl,sz2,λkb B'=>⟨sz2,λkc CH=>?_⟩⟩⟩⟩⟩⟩;have tn:=Same.trans (ae JE (.tup [.str "note"])) (Same.trans (ae DN (.tup [.str "put",.str w'.1,.int FP])) (Same.trans (ae DW (.tup [.str "again",.ref k0])) (ae CW (.tup [.str "either",.ref kn,.ref k1]))));have R4:=R3.add (c:=kc) (b:=kb) (y:=.ref k2) (s:=.either .note (.again (.put ⟨w'.1,qg wk⟩ ⟨FP,HV⟩))) hu (Same.trans tn (Same.trans (ae B' _) (ae CH _))) af
  (aq (ae B' _ _ _ (tn _ _ gA)) CH).symm (aq (tn _ _ gA) B').symm
  (Hold.mono (Same.trans (ae B' _) (ae CH _)) (dv CW (.cons (.flat rfl) (.cons (Hold.mono (Same.trans (ae DN _) (ae DW _)) (dv JE (.cons (.flat rfl) .nil))) (.cons (dv DW (.cons (.flat rfl) (.cons (dv DN (.cons (.flat rfl) (.cons (.flat rfl) (.cons (.flat rfl) .nil)))) .nil))) .nil)))))
  (by show 1+(1+1)+1<=58;decide) (by show 1+0<=5;decide) (by rw[oo (show Say.due ws (.either .note (.again (.put ⟨w'.1,qg wk⟩ ⟨FP,HV⟩)))=some (.value FP)by show(Say.due ws .note).or (dj ws w'.1 FP)=_;rw[Ph wd wm fno];rfl)];exact ae CH _ _ _ af)
 refine⟨u,_,.ref kc,rfl,rfl,(Same.trans tn (Same.trans (ae B' _) (ae CH _))) _ _ gA,bj (by lia),?_⟩;clear gA tn CH B' CW DW DN JE;generalize upd _ u _=Gc at R4 ⊢;generalize zb++[V.ref kc]=zc at R4;obtain⟨sA,gA,lA,_⟩:=id R4;refine⟨_,rfl,.inl ⟨rfl,_,SqL.of gA⟩,_,rfl,sz3,λk0 DN=>⟨sz2,λk1 DW=>⟨sz2,λk3 TB=>⟨sz3,λk2 CW=>⟨sz3,λk4 PX=>⟨sz2,λk5 PY=>⟨sz2,λkb B'=>⟨sz2,λkc CH=>?_⟩⟩⟩⟩⟩⟩⟩⟩;have zz:(qY ("zz":Str)).length<=2000:=(by decide +kernel);have z0:(0:Int).natAbs.log2 < 1000:=(by decide);have t0:=Same.trans (ae DN (.tup [.str "is",.str "zz",.int 0])) (Same.trans (ae DW (.tup [.str "again",.ref k0])) (ae TB (.tup [.str "not",.ref k1])));have tn:=Same.trans t0 (Same.trans (ae CW (.tup [.str "then",y,.ref k3])) (Same.trans (ae PX (.tup [.str "is",.str "zz",.int 0])) (ae PY (.tup [.str "again",.ref k4]))));have R5:=R4.add (c:=kc) (b:=kb) (y:=.ref k2) (s:=.both sy (.no (.again (.is ⟨"zz",zz⟩ ⟨0,z0⟩)))) hu (Same.trans tn (Same.trans (ae B' _) (ae CH _))) af
  (aq (ae B' _ _ _ (tn _ _ gA)) CH).symm (aq (tn _ _ gA) B').symm
  (Hold.mono (Same.trans (ae PX _) (Same.trans (ae PY _) (Same.trans (ae B' _) (ae CH _)))) (dv CW (.cons (.flat rfl) (.cons (YC (Same.trans sA t0)) (.cons (dv TB (.cons (.flat rfl) (.cons (dv DW (.cons (.flat rfl) (.cons (dv DN (.cons (.flat rfl) (.cons (.flat rfl) (.cons (.flat rfl) .nil)))) .nil))) .nil))) .nil)))))
  (by show sy.size+(1+1+1)+1<=58;lia) (by show sy.nts+0<=5;lia) (by rw[oo (show Say.due ws (.both sy (.no (.again (.is ⟨"zz",zz⟩ ⟨0,z0⟩))))=some (.test (.again (.is ⟨"zz",zz⟩ ⟨0,z0⟩)))by rw[Say.due,du];rfl)];exact⟨.ref k5,ae CH _ _ _ af,Hold.mono (Same.trans (ae B' _) (ae CH _)) (dv PY (.cons (.flat rfl) (.cons (dv PX (.cons (.flat rfl) (.cons (.flat rfl) (.cons (.flat rfl) .nil)))) .nil)))⟩)
 refine⟨u,_,.ref kc,rfl,rfl,(Same.trans tn (Same.trans (ae B' _) (ae CH _))) _ _ gA,bj (by lia),?_⟩;clear gA tn t0 CH B' PY PX CW TB DW DN;generalize upd _ u _=Gd at R5 ⊢;generalize zc++[V.ref kc]=zd at R5;obtain⟨sA,gA,lA,eA⟩:=id R5;refine⟨_,rfl,_,rfl,sz0,λb9 hb9=>⟨sz2,λc9 hc9=>⟨sz1,λl9 hl9=>?_⟩⟩⟩;have U1:=ae hb9 (.lst []);have U2:=ae hc9 (.lst [y,.ref b9]);have U3:=ae hl9 (.lst [.ref c9]);have YD:=Same.trans U1 (Same.trans U2 U3);refine⟨u,l9,_,_,rfl,rfl,YD _ _ gA,af,small (by rw[lA];show 2+1+1+1+1<=1000;decide),λp hp=>?_⟩;have U4:=ae hp (.lst (zd++[.ref c9]));have TC:=Same.trans YD U4;refine q p (zd++[.ref c9]) _ (Same.trans t5 (Same.trans A8 (Same.trans C8 (Same.trans sA TC)))) af λx hx=>?_;rcases fK.mp hx with z | z
 ·exact(eA x z).f.mono TC
 ·rw[eG.mp z];refine⟨c9,b9,y,sy,rfl,U4 _ _ (U3 _ _ af),YC (Same.trans sA TC),by lia,by lia,?_⟩;rw[j8 du,if_neg (λz=>z nz)];exact U4 _ _ (U3 _ _ (U2 _ _ af))
end
open S1
theorem Wy (cs:List Nat):mul cs=prd cs:=by
 have h:∀(cs:List Nat)(k:Nat),cs.foldl (· * ·) k=k * prd cs:=λcs=>by
  induction cs with
  |nil=>intro k;show k=k * 1;lia
  |cons c cs ih=>intro k;rw[wO,ih,xW];rfl
 have:=h cs 1;rw[Nat.one_mul]at this;exact this
theorem Y9 (ws:List (Str×Nat)):(LL ws).length=prd (ws.map (·.2)):=by rw[mf,Wy]
theorem Za (xs:List V):(d7 xs (some 2) (some 26)).length<=26:=by
 unfold d7;rw[cK,show(some (2:Int))=some ((2:Nat):Int)from rfl,show(some (26:Int))=some ((26:Nat):Int)from rfl,HT.sIx_nat,HT.sIx_nat,gZ];lia
theorem Wz {ws:List (Str×Nat)}:∀{s:Say}{f:NF},qc ws s=some f->f.sz<=s.size:=by
 have due_size:∀{s t:Say},s.due ws=some (.test t)->t.size<=s.size:=by
  intro s
  induction s with
  |no s ih=>
   intro t h;rw[Say.due]at h;by_cases c:s.isT=true
   ·rw[if_pos c]at h;have:=ih h;show t.size<=s.size+1;lia
   ·rw[if_neg c]at h;cases h;exact sF _
  |again s ih=>intro t h;rw[Say.due]at h;have:=ih h;show t.size<=s.size+1;lia
  |either a b ia ib=>
   intro t h;rw[Say.due]at h;show t.size<=a.size+b.size+1;cases q:a.due ws with
   |none=>rw[q]at h;have:=ib h;lia
   |some f=>rw[q]at h;have z:some f=some (.test t):=h;rw[z]at q;have:=ia q;lia
  |both a b ia ib=>
   intro t h;rw[Say.due]at h;show t.size<=a.size+b.size+1;cases q:a.due ws with
   |none=>rw[q]at h;have:=ib h;lia
   |some f=>rw[q]at h;have z:some f=some (.test t):=h;rw[z]at q;have:=ia q;lia
  |is f v=>
   intro t h;have h':dj ws f.1 v.1=some (.test t):=h;unfold dj at h'
   split at h'
   ·cases h'
   ·split at h'<;>cases h'
  |put f v=>
   intro t h;have h':dj ws f.1 v.1=some (.test t):=h;unfold dj at h'
   split at h'
   ·cases h'
   ·split at h'<;>cases h'
  |nought=>intro t h;cases h
  |every=>intro t h;cases h
  |note=>intro t h;cases h
 intro s f h;cases du:s.due ws with
 |some g=>
  rw[oo du]at h;cases h;cases g with
  |field _=>exact gO _
  |value _=>exact gO _
  |test t=>exact due_size du
 |none=>
  rw[j8 du]at h
  split at h
  ·cases h;exact aN _
  ·cases h
def Dz (K:aB):Sp:=λvs H Q _=>∃(a:Addr)(ns:List Int),vs=[.ref a]/\SqL K H a (ns.map V.int)/\ns.length<=63/\∀H',Q (.bl true) H'
abbrev nLa:List Str:=["_law_script","_law_speech_here","_law_saying_here","_law_one","_law_due"]
section
variable {P:aU}{w:aZ}{K:aB}{mg:Str->Option aC}{base:Heap}{cF cV cT cP:Addr}
theorem He:aw nLa zyh (aj uk):=fsN
theorem Zb {f fC fS fY fT fA fR:Addr}{fd dC dS dY dT dA dR:bQ}(F:Fun K "law" "law" uk f fd)
  (GC:‹1› fC dC zzd (Nl K)) (bC:Binds K dC zzd []) (kC:aR K (.ref fC)=true) (mC:mg "_law_cell"=some (.ref fC))
  (GS:‹2› fS dS zzh (Dc K)) (bS:Binds K dS zzh []) (kS:aR K (.ref fS)=true) (mS:mg "_law_speech"=some (.ref fS))
  (GY:‹4› fY dY zzq (De K)) (bY:Binds K dY zzq []) (kY:aR K (.ref fY)=true) (mY:mg "_law_saying"=some (.ref fY))
  (GT:‹1› fT dT zzw (Ju K)) (bT:Binds K dT zzw []) (kT:aR K (.ref fT)=true) (mT:mg "_law_tried"=some (.ref fT))
  (GA:‹11› fA dA zzn (Df K cF cV cT cP)) (bA:Binds K dA zzn []) (kA:aR K (.ref fA)=true) (mA:mg "_law_caught"=some (.ref fA))
  (GR:‹2› fR dR zz7 (Bh K cF cV cT cP)) (bR:Binds K dR zz7 []) (kR:aR K (.ref fR)=true) (mR:mg "_law_refused"=some (.ref fR)) :
  ‹12› f fd zyh (Dz K):=by
 exists F,He
 ·obtain⟨a,ns,rfl,_⟩:=h;rfl
 obtain⟨a,ns,rfl,hS,n63,q⟩:=h;refine⟨_,ai (bf (i:=1) He.nd rfl (cD rfl) (ar GS (hr.mono (by decide)) rfl mS kS bS .nil bb (aa (ar GC (hr.mono (by decide)) rfl mC kC bC .nil bb (aa (pv 0) (aa ah ag))) (aa ah ag)))) (ai (bf (i:=2) He.nd rfl (cD rfl) (ar GY (hr.mono (by decide)) rfl mY kY bY .nil bb (aa (cn dq (pv 0) (cv ah) (cv ah)) (aa (pv 1) (aa ah ag))))) (ai (fh fX rfl (c7 (ar GT (hr.mono (by decide)) rfl mT kT bT .nil bb (aa (pv 1) (aa (pv 2) (aa (ar GC (hr.mono (by decide)) rfl mC kC bC .nil bb (aa (pv 0) (aa ah ag))) ag))))) (M5 rfl (e8 (bo (i:=3) He.nd rfl (cD rfl)) (e8 (bo (i:=4) He.nd rfl (cD rfl)) lh))) (ak (de (D1 (nq (ar GR (hr.mono (by decide)) rfl mR kR bR .nil bb (aa (ar GA hr rfl mA kA bA .nil bb (aa (pv 1) (aa (pv 3) ag))) (aa (pv 4) ag))))) (ak (az m8)) cf))) (ak (az m8)))),?_⟩;dsimp only[bh,Cx.nox];refine⟨_,rfl,a,0,ns,rfl,hS,by decide,λn0=>⟨n0,1,rfl,by decide,by decide,λsp ws G1 s1 AY sk wd LM _=>?_⟩⟩;have LL24:(LL ws).length<=24:=(by rw[Y9];exact LM);refine⟨_,rfl,_,rfl,_,rfl,a,_,rfl,s1.seq hS,λp0 MP=>?_⟩;have t2:=ae MP (.lst (d7 (ns.map V.int) (some 2) (some 26)));refine⟨_,rfl,p0,sp,0,_,ws,rfl,SqL.of af,Sr,Za _,AY.mono t2,sk,wd,λy sy G3 s3 hy XW du n2=>?_⟩;have CU:=Same.trans t2 s3;have s03:=Same.trans s1 CU;refine⟨_,rfl,_,rfl,_,rfl,a,1,ns,rfl,s03.seq hS,by decide,λn=>?_⟩;refine⟨sp,y,n,ws,sy,rfl,AY.mono CU,sk,wd,hy,XW,du,Nat.le_zero.mp n2,λu zs G4 s4 gu en=>?_⟩;have IS:=Same.trans CU s4;refine⟨u,rfl,⟨_,SqL.of gu⟩,i7 (K:=K) (a:=u) (xs:=zs) (λi σ G=>∃v3 v4:Option V,σ=[some (.ref a),some (.ref sp),some y,v3,v4]/\Same G4 G) ⟨none,none,rfl,Same.refl _⟩ (λi σ G _ z=>by obtain⟨_,_,_,sG⟩:=z;exact SqL.of (sG _ _ gu)) ?_ ?_⟩
 ·intro i x σ G hx AC;obtain⟨v3,v4,rfl,sG⟩:=AC;generalize AJ:gg.mk _ _ _ _=BG;revert AJ BG;refine id ?_;intro BG AJ;obtain⟨c,b,y1,MZ,rfl,gc,SV,PR,n5,dd⟩:=en x (bV hx);refine⟨c,_,rfl,SqL.of (sG _ _ gc),rfl,_,_,rfl,_,_,rfl,rfl,?_⟩;refine⟨_,rfl,_,rfl,sp,y1,ws,MZ,rfl,AY.mono (Same.trans IS sG),sk,LL24,SV.mono sG,by lia,n5,λv G5 s5 cm=>?_⟩;refine⟨_,rfl,v,b,qc ws MZ,rfl,dd.mono (Same.trans sG s5),cm,λff z=>cH (Wz z) PR,λG6 s6=>⟨_,rfl,dh ?_⟩⟩;subst AJ;exact⟨_,_,rfl,Same.trans sG (Same.trans s5 s6)⟩
 ·intro σ G AC;obtain⟨v3,v4,rfl,sG⟩:=AC;exact q G
end
structure At (K:aB)(f:Addr)(x q:Str)(st:Stmt):Prop where
 ex:∃(oc:aC)(od:Option Addr) (kV dc pm:aC) (an:Option Addr) (cd ct:aC) (sl:Array (Option aC)),K.lookup f=some ⟨oc,od,.func (gP x q (dt st) (c8 st) (aj st) .none kV dc pm an cd ct),sl⟩/\lB K cd q=true
 kp:aR K (.ref f)=true
theorem At.fn {K:aB}{f:Addr}{x q:Str}{st:Stmt}(h:At K f x q st):∃fd,Fun K x q st f fd:=by
 obtain⟨⟨oc,od,kV,dc,pm,an,cd,ct,sl,l,c⟩,k⟩:=h;exact⟨_,sh l c k⟩
theorem at_mk {K:aB}{f:Addr}{x q:Str}{st:Stmt}{oc:aC}{od an:Option Addr}{sl:Array (Option aC)}{kV dc pm cd ct:aC}(l:K.lookup f=some ⟨oc,od,.func (gP x q (dt st) (c8 st) (aj st) .none kV dc pm an cd ct),sl⟩)(c:lB K cd q=true)(k:aR K (.ref f)=true):At K f x q st:=⟨⟨_,_,_,_,_,_,_,_,_,l,c⟩,k⟩
theorem bd1 {K:aB}{x q:Str}{st:Stmt}{f:Addr}{fd:bQ}{ps:List Str}(F:Fun K x q st f fd)(e:ps.length=1:=by rfl)(h:∀(kV BA pm:aC)(an:Option Addr) (AF ct u0:aC),pR (gP x q (dt st) (c8 st) (aj st) .none kV BA pm an AF ct) ⟨[u0],[]⟩=pure (ps.zip [u0]):=by intros;rfl):Binds K fd ps []:=
 F.binds λ_ _ _ _ _ _ us hl=>match us,hl.trans e with | [_],_=>h _ _ _ _ _ _ _
theorem bd2 {K:aB}{x q:Str}{st:Stmt}{f:Addr}{fd:bQ}{ps:List Str}(F:Fun K x q st f fd)(e:ps.length=2:=by rfl)(h:∀(kV BA pm:aC)(an:Option Addr) (AF ct u0 u1:aC),pR (gP x q (dt st) (c8 st) (aj st) .none kV BA pm an AF ct) ⟨[u0,u1],[]⟩=pure (ps.zip [u0,u1]):=by intros;rfl):Binds K fd ps []:=
 F.binds λ_ _ _ _ _ _ us hl=>match us,hl.trans e with | [_,_],_=>h _ _ _ _ _ _ _ _
theorem bd3 {K:aB}{x q:Str}{st:Stmt}{f:Addr}{fd:bQ}{ps:List Str}(F:Fun K x q st f fd)(e:ps.length=3:=by rfl)(h:∀(kV BA pm:aC)(an:Option Addr) (AF ct u0 u1 u2:aC),pR (gP x q (dt st) (c8 st) (aj st) .none kV BA pm an AF ct) ⟨[u0,u1,u2],[]⟩=pure (ps.zip [u0,u1,u2]):=by intros;rfl):Binds K fd ps []:=
 F.binds λ_ _ _ _ _ _ us hl=>match us,hl.trans e with | [_,_,_],_=>h _ _ _ _ _ _ _ _ _
theorem bd4 {K:aB}{x q:Str}{st:Stmt}{f:Addr}{fd:bQ}{ps:List Str}(F:Fun K x q st f fd)(e:ps.length=4:=by rfl)(h:∀(kV BA pm:aC)(an:Option Addr) (AF ct u0 u1 u2 u3:aC),pR (gP x q (dt st) (c8 st) (aj st) .none kV BA pm an AF ct) ⟨[u0,u1,u2,u3],[]⟩=pure (ps.zip [u0,u1,u2,u3]):=by intros;rfl):Binds K fd ps []:=
 F.binds λ_ _ _ _ _ _ us hl=>match us,hl.trans e with | [_,_,_,_],_=>h _ _ _ _ _ _ _ _ _ _
structure Af (K:aB)(f:Addr)(x:Str)(st:Stmt):Prop where
 ns:dX K cW x=some (some (.ref f))
 at_:At K f x x st
theorem af_mk {K:aB}{f:Addr}{x:Str}{st:Stmt}{oc:aC}{od an:Option Addr}{sl:Array (Option aC)}{kV dc pm cd ct:aC}(a:dX K cW x=some (some (.ref f)))(l:K.lookup f=some ⟨oc,od,.func (gP x x (dt st) (c8 st) (aj st) .none kV dc pm an cd ct),sl⟩)(c:lB K cd x=true)(k:aR K (.ref f)=true):Af K f x st:=⟨a,at_mk l c k⟩
theorem Af.g1 {K:aB}{f:Addr}{x:Str}{st:Stmt}(F:Af K f x st)(ps:List Str)(e:ps.length=1:=by rfl)(h:∀(kV BA pm:aC)(an:Option Addr) (AF ct u0:aC),pR (gP x x (dt st) (c8 st) (aj st) .none kV BA pm an AF ct) ⟨[u0],[]⟩=pure (ps.zip [u0]):=by intros;rfl):∃fd,Fun K x x st f fd/\Binds K fd ps []/\aR K (.ref f)=true/\dX K cW x=some (some (.ref f)):=by
 obtain⟨fd,G⟩:=F.at_.fn;exact⟨fd,G,bd1 G e h,F.at_.kp,F.ns⟩
theorem Af.g2 {K:aB}{f:Addr}{x:Str}{st:Stmt}(F:Af K f x st)(ps:List Str)(e:ps.length=2:=by rfl)(h:∀(kV BA pm:aC)(an:Option Addr) (AF ct u0 u1:aC),pR (gP x x (dt st) (c8 st) (aj st) .none kV BA pm an AF ct) ⟨[u0,u1],[]⟩=pure (ps.zip [u0,u1]):=by intros;rfl):∃fd,Fun K x x st f fd/\Binds K fd ps []/\aR K (.ref f)=true/\dX K cW x=some (some (.ref f)):=by
 obtain⟨fd,G⟩:=F.at_.fn;exact⟨fd,G,bd2 G e h,F.at_.kp,F.ns⟩
theorem Af.g3 {K:aB}{f:Addr}{x:Str}{st:Stmt}(F:Af K f x st)(ps:List Str)(e:ps.length=3:=by rfl)(h:∀(kV BA pm:aC)(an:Option Addr) (AF ct u0 u1 u2:aC),pR (gP x x (dt st) (c8 st) (aj st) .none kV BA pm an AF ct) ⟨[u0,u1,u2],[]⟩=pure (ps.zip [u0,u1,u2]):=by intros;rfl):∃fd,Fun K x x st f fd/\Binds K fd ps []/\aR K (.ref f)=true/\dX K cW x=some (some (.ref f)):=by
 obtain⟨fd,G⟩:=F.at_.fn;exact⟨fd,G,bd3 G e h,F.at_.kp,F.ns⟩
theorem Af.g4 {K:aB}{f:Addr}{x:Str}{st:Stmt}(F:Af K f x st)(ps:List Str)(e:ps.length=4:=by rfl)(h:∀(kV BA pm:aC)(an:Option Addr) (AF ct u0 u1 u2 u3:aC),pR (gP x x (dt st) (c8 st) (aj st) .none kV BA pm an AF ct) ⟨[u0,u1,u2,u3],[]⟩=pure (ps.zip [u0,u1,u2,u3]):=by intros;rfl):∃fd,Fun K x x st f fd/\Binds K fd ps []/\aR K (.ref f)=true/\dX K cW x=some (some (.ref f)):=by
 obtain⟨fd,G⟩:=F.at_.fn;exact⟨fd,G,bd4 G e h,F.at_.kp,F.ns⟩
theorem all_mk {l:sL}{w:aZ}{K:aB}{h:Heap}{mg:Str->Option aC}{fa cS cF cV cT cP cG cN cR cM iF iV iT iP TF PZ TH TJ TK f1 f2 f3 f4 f5 f6 f7 f8 f9 f10 f11 f12 f13 f14 f15 f16 f17 f18 f19 f20 f21 f22 f23 f24 f25 f26 f27 f28 f29 f30 f31 f32 f33 f34 f35 f36 f37 f38 f39 f40 f41 f42 f43 f44 f45 f46 f47 f48 f49 f50 f51 f52 f53 f54 TL aH aD aE:Addr}(X:K.In h)(G:h.Ns cW mg)(hfa:mg "law"=some (.ref fa))
  {odiF aniF odiV aniV odiT aniT odiP aniP od55 NX odH odD odE:Option Addr}{sliF sliV sliT sliP sl55 slH slD slE:Array (Option aC)}{kViF dciF pmiF NY ctiF kViV dciV pmiV NZ ctiV kViT dciT pmiT N' ctiT kViP dciP pmiP OA ctiP oc55 OB OC OD KP OE:aC}{nH nD nE:Nat}{CS NI tk3 tk4 tk5 PL tk7 tk8 tk9 tk10 tk11 tk12:Tok}
  {nmF qF:Str}{NF:Addr}{bsF subF:List aC}{snF:List Str}{abF:Bool}{colF:Option Bool}{ddF:Option Addr}{k0F k1F k2F k3F k5F:Option aC}
  {nmV qV:Str}{NV:Addr}{bsV subV:List aC}{snV:List Str}{abV:Bool}{colV:Option Bool}{ddV:Option Addr}{k0V k1V k2V k3V k5V:Option aC}
  {nmT qT:Str}{NT:Addr}{bsT subT:List aC}{snT:List Str}{abT:Bool}{colT:Option Bool}{ddT:Option Addr}{k0T k1T k2T k3T k5T:Option aC}
  {nmP qP:Str}{NP:Addr}{bsP subP:List aC}{snP:List Str}{abP:Bool}{colP:Option Bool}{ddP:Option Addr}{k0P k1P k2P k3P k5P:Option aC}
  (mS:dX K cW "SwitchError"=some (some (.ref cS)))
  (mF:dX K cW "NoField"=some (some (.ref cF)))
  (lcF:K.lookup cF=some (gX nmF qF cF NF bsF (.ref cS::bmV) true snF subF abF colF ddF k0F k1F k2F k3F k5F "ValueError.__new__"))
  (saF:bK K (.ref cF) "__setattr__"=some (some (.builtin "object.__setattr__")))
  (gaF:bK K (.ref cF) "__getattribute__"=some (some (.builtin "BaseException.__getattribute__")))
  (gtF:bK K (.ref cF) "__getattr__"=some none)
  (kpF:aR K (.ref cF)=true)
  (mV:dX K cW "NoValue"=some (some (.ref cV)))
  (lcV:K.lookup cV=some (gX nmV qV cV NV bsV (.ref cS::bmV) true snV subV abV colV ddV k0V k1V k2V k3V k5V "ValueError.__new__"))
  (saV:bK K (.ref cV) "__setattr__"=some (some (.builtin "object.__setattr__")))
  (gaV:bK K (.ref cV) "__getattribute__"=some (some (.builtin "BaseException.__getattribute__")))
  (gtV:bK K (.ref cV) "__getattr__"=some none)
  (kpV:aR K (.ref cV)=true)
  (mT:dX K cW "NoTest"=some (some (.ref cT)))
  (lcT:K.lookup cT=some (gX nmT qT cT NT bsT (.ref cS::bmV) true snT subT abT colT ddT k0T k1T k2T k3T k5T "ValueError.__new__"))
  (saT:bK K (.ref cT) "__setattr__"=some (some (.builtin "object.__setattr__")))
  (gaT:bK K (.ref cT) "__getattribute__"=some (some (.builtin "BaseException.__getattribute__")))
  (gtT:bK K (.ref cT) "__getattr__"=some none)
  (kpT:aR K (.ref cT)=true)
  (mP:dX K cW "NoPlain"=some (some (.ref cP)))
  (lcP:K.lookup cP=some (gX nmP qP cP NP bsP (.ref cS::bmV) true snP subP abP colP ddP k0P k1P k2P k3P k5P "ValueError.__new__"))
  (saP:bK K (.ref cP) "__setattr__"=some (some (.builtin "object.__setattr__")))
  (gaP:bK K (.ref cP) "__getattribute__"=some (some (.builtin "BaseException.__getattribute__")))
  (gtP:bK K (.ref cP) "__getattr__"=some none)
  (kpP:aR K (.ref cP)=true)
  (mG:dX K cW "TooGreat"=some (some (.ref cG)))
  (mN:dX K cW "NoNet"=some (some (.ref cN)))
  (mR:dX K cW "Runs"=some (some (.ref cR)))
  (mM:dX K cW "Machine"=some (some (.ref cM)))
  (clF:bK K (.ref cF) "__class__"=some (some (.builtin "object.__class__")))
  (clV:bK K (.ref cV) "__class__"=some (some (.builtin "object.__class__")))
  (clT:bK K (.ref cT) "__class__"=some (some (.builtin "object.__class__")))
  (clP:bK K (.ref cP) "__class__"=some (some (.builtin "object.__class__")))
  (wga:pJ K (.ref cS) "__getattribute__"=some (some (.builtin "type.__getattribute__")))
  (wrd:qN K cS (.type "type")=true)
  (wfc:qO K (.ref cS) (.type "type") "__init__"=some (.val (.builtin "ValueError.__init__")))
  (rga:pJ K (.ref cR) "__getattribute__"=some (some (.builtin "type.__getattribute__")))
  (rrd:qN K cR (.type "type")=true)
  (pgM:pQ K cM yF=true)
  (hdM:rW K cM=true)
  (poM:vC K cM=true)
  (saM:bK K (.ref cM) "__setattr__"=some (some (.builtin "object.__setattr__")))
  (nMletters:bK K (.ref cM) "letters"=some none)
  (nMways:bK K (.ref cM) "ways"=some none)
  (mkM:wM K cM=true)
  (kpM:aR K (.ref cM)=true)
  (EJ:bK K (.ref cF) "field"=some none)
  (EK:bK K (.ref cV) "value"=some none)
  (DJ:bK K (.ref cT) "saying"=some none)
  (DK:bK K (.ref cP) "saying"=some none)
  (vF:eP K (.ref cF) (.type "ValueError")=some true)
  (vV:eP K (.ref cV) (.type "ValueError")=some true)
  (vT:eP K (.ref cT) (.type "ValueError")=some true)
  (vP:eP K (.ref cP) (.type "ValueError")=some true)
  (ttF:pK K (.ref cF) [.ref cN,.ref cG]=some false)
  (ttV:pK K (.ref cV) [.ref cN,.ref cG]=some false)
  (ttT:pK K (.ref cT) [.ref cN,.ref cG]=some false)
  (ttP:pK K (.ref cP) [.ref cN,.ref cG]=some false)
  (eFF:eP K (.ref cF) (.ref cF)=some true)
  (eFV:eP K (.ref cF) (.ref cV)=some false)
  (eFT:eP K (.ref cF) (.ref cT)=some false)
  (eFP:eP K (.ref cF) (.ref cP)=some false)
  (eVF:eP K (.ref cV) (.ref cF)=some false)
  (eVV:eP K (.ref cV) (.ref cV)=some true)
  (eVT:eP K (.ref cV) (.ref cT)=some false)
  (eVP:eP K (.ref cV) (.ref cP)=some false)
  (eTF:eP K (.ref cT) (.ref cF)=some false)
  (eTV:eP K (.ref cT) (.ref cV)=some false)
  (eTT:eP K (.ref cT) (.ref cT)=some true)
  (eTP:eP K (.ref cT) (.ref cP)=some false)
  (ePF:eP K (.ref cP) (.ref cF)=some false)
  (ePV:eP K (.ref cP) (.ref cV)=some false)
  (ePT:eP K (.ref cP) (.ref cT)=some false)
  (ePP:eP K (.ref cP) (.ref cP)=some true)
  (xF:lC K (.ref cF) (.ref cS)=some true)
  (xV:lC K (.ref cV) (.ref cS)=some true)
  (xT:lC K (.ref cT) (.ref cS)=some true)
  (xP:lC K (.ref cP) (.ref cS)=some true)
  (aiF:bK K (.ref cF) "__init__"=some (some (.ref iF)))
  (YE:K.lookup iF=some ⟨(.type "function"),odiF,.func (gP "__init__" "NoField.__init__" (dt sNF) (c8 sNF) (aj sNF) .none kViF dciF pmiF aniF NY ctiF),sliF⟩)
  (ciF:lB K NY "NoField.__init__"=true)
  (kiF:aR K (.ref iF)=true)
  (aiV:bK K (.ref cV) "__init__"=some (some (.ref iV)))
  (YF:K.lookup iV=some ⟨(.type "function"),odiV,.func (gP "__init__" "NoValue.__init__" (dt sNV) (c8 sNV) (aj sNV) .none kViV dciV pmiV aniV NZ ctiV),sliV⟩)
  (ciV:lB K NZ "NoValue.__init__"=true)
  (kiV:aR K (.ref iV)=true)
  (aiT:bK K (.ref cT) "__init__"=some (some (.ref iT)))
  (YG:K.lookup iT=some ⟨(.type "function"),odiT,.func (gP "__init__" "NoTest.__init__" (dt sNT) (c8 sNT) (aj sNT) .none kViT dciT pmiT aniT N' ctiT),sliT⟩)
  (ciT:lB K N' "NoTest.__init__"=true)
  (kiT:aR K (.ref iT)=true)
  (aiP:bK K (.ref cP) "__init__"=some (some (.ref iP)))
  (YH:K.lookup iP=some ⟨(.type "function"),odiP,.func (gP "__init__" "NoPlain.__init__" (dt sNP) (c8 sNP) (aj sNP) .none kViP dciP pmiP aniP OA ctiP),sliP⟩)
  (ciP:lB K OA "NoPlain.__init__"=true)
  (kiP:aR K (.ref iP)=true)
  (aiR:qO K (.ref cR) (.type "type") "__init__"=some (.val (.ref TF)))
  (YI:At K TF "__init__" "Runs.__init__" Eu)
  (qiR:oB K (.ref TF)=true)
  (aiM:bK K (.ref cM) "__init__"=some (some (.ref PZ)))
  (YJ:At K PZ "__init__" "Machine.__init__" Ey)
  (qiM:oB K (.ref PZ)=true)
  (amE:bK K (.ref cM) "ends"=some (some (.ref TH)))
  (YK:At K TH "ends" "Runs.ends" Kx)
  (qmE:oB K (.ref TH)=true)
  (amF:bK K (.ref cM) "ends_from"=some (some (.ref TJ)))
  (YL:At K TJ "ends_from" "Runs.ends_from" Ew)
  (qmF:oB K (.ref TJ)=true)
  (amK:bK K (.ref cM) "masks_from"=some (some (.ref TK)))
  (YM:At K TK "masks_from" "Runs.masks_from" Ap)
  (qmK:oB K (.ref TK)=true)
  (l1:Af K f1 "letters_of" Er)
  (l2:Af K f2 "each_longer" xp)
  (l3:Af K f3 "place_of" Ek)
  (l4:Af K f4 "must_value" Ko)
  (l5:Af K f5 "nothing" sNo)
  (l6:Af K f6 "the_same" Ku)
  (l7:Af K f7 "either_of" Kv)
  (l8:Af K f8 "one_then_other" Kw)
  (l9:Af K f9 "reached_from" Es)
  (l10:Af K f10 "again_and_again" An)
  (l11:Af K f11 "where_nothing" Et)
  (l12:Af K f12 "letters_in" Ao)
  (l13:Af K f13 "parts_of" El)
  (l14:Af K f14 "held_in" Kp)
  (l15:Af K f15 "must_saying" Kq)
  (l16:Af K f16 "must_part" Em)
  (l17:Af K f17 "is_test" Qf)
  (l18:Af K f18 "notes_in" Qg)
  (l19:Af K f19 "must_test" En)
  (l20:Af K f20 "must_plain" Bu)
  (l21:Af K f21 "ways_of" Dk)
  (XJ:Af K f22 "ways_of_part" Ez)
  (l23:Af K f23 "plain_relation" E1)
  (LM:Af K f24 "is_relation" Ky)
  (l25:Af K f25 "put_relation" Aq)
  (l26:Af K f26 "note_ways" E2)
  (l27:Af K f27 "either_ways" Ar)
  (l28:Af K f28 "then_ways" As)
  (l29:Af K f29 "behind" xq)
  (l30:Af K f30 "filling" Kz)
  (l31:Af K f31 "again_ways" xr)
  (l32:Af K f32 "again_row" xt)
  (l33:Af K f33 "by_table" sBy)
  (l34:Af K f34 "matches" E3)
  (l35:Af K f35 "with_put" Qh)
  (MS:Af K f36 "table_of" Au)
  (l37:Af K f37 "row_for" Dl)
  (l38:Af K f38 "deed_for" E4)
  (l39:Af K f39 "made_small" E5)
  (l40:Af K f40 "with_fewer_rows" E6)
  (l41:Af K f41 "with_wider_matches" E7)
  (l42:Af K f42 "wider_row" Bz)
  (l43:Af K f43 "does_all" sAll)
  (l44:Af K f44 "_law_cell" Kr)
  (l45:Af K f45 "_law_purse" Eo)
  (l46:Af K f46 "_law_take" Ks)
  (l47:Af K f47 "_law_speech" Bv)
  (l48:Af K f48 "_law_lone" Kt)
  (l49:Af K f49 "_law_grown" Ep)
  (l50:Af K f50 "_law_joined" Bw)
  (l51:Af K f51 "_law_saying" Bx)
  (l52:Af K f52 "_law_tried" E8)
  (l53:Af K f53 "_law_caught" By)
  (l54:Af K f54 "_law_refused" mh)
  (a55:dX K cW "law"=some (some (.ref TL)))
  (l55:K.lookup TL=some ⟨oc55,od55,.func (gP "law" "law" (dt uk) (c8 uk) (aj uk) .none OB OC OD NX KP OE),sl55⟩)
  (c55:lB K KP "law"=true)
  (k55:aR K (.ref TL)=true)
  (aaH:dX K cW "HOLDING_SORTS"=some (some (.ref aH)))
  (llH:K.lookup aH=some ⟨.type "tuple",odH,.seq #[.str "not" CS,.str "either" NI,.str "then" tk3,.str "again" tk4] nH,slH⟩)
  (aaD:dX K cW "FIELD_SORTS"=some (some (.ref aD)))
  (llD:K.lookup aD=some ⟨.type "tuple",odD,.seq #[.str "is" tk5,.str "put" PL] nD,slD⟩)
  (aaE:dX K cW "TEST_SORTS"=some (some (.ref aE)))
  (llE:K.lookup aE=some ⟨.type "tuple",odE,.seq #[.str "none" tk7,.str "all" tk8,.str "is" tk9,.str "not" tk10,.str "either" tk11,.str "then" tk12] nE,slE⟩)
  (BJ:dX K cW "range"=some none)
  (zabs:dX K cW "abs"=some none)
  (zint:dX K cW "int"=some none)
  (OF:dX K cW "max"=some none)
  (zmin:dX K cW "min"=some none)
  (CQ:dX K cW "tuple"=some none)
  (BQ:dX K cW "len"=some none)
  (zisinstance:dX K cW "isinstance"=some none)
  (AW:dX K cW "enumerate"=some none)
  (zsum:dX K cW "sum"=some none)
  (zall:dX K cW "all"=some none)
  (FQ:dX K cW "zip"=some none)
  (zreversed:dX K cW "reversed"=some none)
  (zset:dX K cW "set"=some none)
  (zsorted:dX K cW "sorted"=some none)
  (zValueError:dX K cW "ValueError"=some none) :
  ∃fd:bQ,(∀(s:aG)(v:aC),xD s fd ⟨[v],[]⟩ [("_law_script",v)])/\∀base:Heap,K.In base->base.Ns cW mg->FnOk l.prog w K mg base CX0 12 fa fd zyh (Dz K):=by
 have e:=hfa.symm.trans (PySem.W.mg_of X G a55);cases e;have YN:=sh (st:=sNF) YE ciF kiF;have biF:=YN.binds (ps:=zyy) λ_ _ _ _ _ _ us hl=>match us,hl with | [_,_],_=>rfl
 have YO:=sh (st:=sNV) YF ciV kiV;have biV:=YO.binds (ps:=zyx) λ_ _ _ _ _ _ us hl=>match us,hl with | [_,_],_=>rfl
 have YQ:=sh (st:=sNT) YG ciT kiT;have biT:=YQ.binds (ps:=zzo) λ_ _ _ _ _ _ us hl=>match us,hl with | [_,_],_=>rfl
 have YR:=sh (st:=sNP) YH ciP kiP;have biP:=YR.binds (ps:=zzo) λ_ _ _ _ _ _ us hl=>match us,hl with | [_,_],_=>rfl
 obtain⟨_,YS⟩:=YI.fn;have kiR:=YI.kp;have biR:=bd3 (ps:=zze) YS;obtain⟨_,YT⟩:=YJ.fn;have kiM:=YJ.kp;have biM:=bd3 (ps:=zza) YT;obtain⟨_,YU⟩:=YK.fn;have kmE:=YK.kp;have bmE:=bd3 (ps:=zz2) YU;obtain⟨_,YV⟩:=YL.fn;have kmF:=YL.kp;have bmF:=bd3 (ps:=zzp) YV;obtain⟨_,YW⟩:=YM.fn;have kmK:=YM.kp;have bmK:=bd3 (ps:=zzp) YW;obtain⟨_,F1,b1,k1,a1⟩:=l1.g1 zyi;obtain⟨_,F2,b2,k2,a2⟩:=l2.g2 zyu;obtain⟨_,F3,b3,k3,a3⟩:=l3.g3 zzi;obtain⟨_,F4,b4,k4,a4⟩:=l4.g2 zz8;obtain⟨_,F5,b5,k5,a5⟩:=l5.g1 zzj;obtain⟨_,F6,b6,k6,a6⟩:=l6.g1 zzj;obtain⟨_,F7,b7,k7,a7⟩:=l7.g2 zzm;obtain⟨_,F8,b8,k8,a8⟩:=l8.g2 zzt;obtain⟨_,F9,b9,k9,a9⟩:=l9.g2 zzc;obtain⟨_,F10,b10,k10,a10⟩:=l10.g1 zzb;obtain⟨_,F11,b11,k11,a11⟩:=l11.g1 zzb;obtain⟨_,F12,b12,k12,a12⟩:=l12.g2 zyt;obtain⟨_,F13,QA,QB,IL⟩:=l13.g1 zzz;obtain⟨_,F14,YX,YY,YZ⟩:=l14.g1 zzz;obtain⟨_,F15,Y',ZA,ZC⟩:=l15.g2 zzr;obtain⟨_,F16,b16,k16,a16⟩:=l16.g2 zz9;obtain⟨_,F17,b17,k17,a17⟩:=l17.g1 zzz;obtain⟨_,F18,b18,k18,a18⟩:=l18.g1 zzz;obtain⟨_,F19,b19,k19,a19⟩:=l19.g1 zzz;obtain⟨_,F20,b20,k20,a20⟩:=l20.g1 zzz;obtain⟨_,F21,b21,k21,a21⟩:=l21.g3 zz3;obtain⟨_,F22,b22,k22,a22⟩:=XJ.g4 zzl;obtain⟨_,F23,b23,k23,a23⟩:=l23.g3 zz5;obtain⟨_,F24,b24,k24,a24⟩:=LM.g3 zzu;obtain⟨_,F25,b25,k25,a25⟩:=l25.g3 zzu;obtain⟨_,F26,b26,k26,a26⟩:=l26.g1 zzj;obtain⟨_,F27,b27,k27,a27⟩:=l27.g2 zzm;obtain⟨_,F28,b28,k28,a28⟩:=l28.g2 zzt;obtain⟨_,F29,ZD,ZE,ZF⟩:=l29.g2 zzt;obtain⟨_,F30,ZG,ZH,ZI⟩:=l30.g1 zyp;obtain⟨_,F31,b31,k31,a31⟩:=l31.g1 zyp;obtain⟨_,F32,b32,k32,a32⟩:=l32.g3 zyq;obtain⟨_,F33,b33,k33,a33⟩:=l33.g2 zys;obtain⟨_,F34,b34,k34,a34⟩:=l34.g2 zz4;obtain⟨_,F35,ZJ,ZK,ZL⟩:=l35.g2 zzf;obtain⟨_,F36,b36,k36,a36⟩:=MS.g2 zzr;obtain⟨_,F37,b37,k37,a37⟩:=l37.g2 zzg;obtain⟨_,F38,b38,k38,a38⟩:=l38.g2 zyv;obtain⟨_,F39,b39,k39,a39⟩:=l39.g2 zzy;obtain⟨_,F40,b40,k40,a40⟩:=l40.g2 zzy;obtain⟨_,F41,b41,k41,a41⟩:=l41.g2 zzy;obtain⟨_,F42,b42,k42,a42⟩:=l42.g2 zyr;obtain⟨_,F43,ZM,ZN,ZO⟩:=l43.g2 zzy;obtain⟨_,F44,b44,k44,a44⟩:=l44.g2 zzd;obtain⟨_,F45,ZP,ZQ,ZR⟩:=l45.g1 zz0;obtain⟨_,F46,TM,TN,TQ⟩:=l46.g2 zzv;obtain⟨_,F47,b47,k47,a47⟩:=l47.g2 zzh;obtain⟨_,F48,b48,k48,a48⟩:=l48.g3 zzs;obtain⟨_,F49,b49,k49,a49⟩:=l49.g4 zzx;obtain⟨_,F50,ZS,ZT,ZU⟩:=l50.g2 zzk;obtain⟨_,F51,b51,k51,a51⟩:=l51.g3 zzq;obtain⟨_,F52,b52,k52,a52⟩:=l52.g3 zzw;obtain⟨_,F53,b53,k53,a53⟩:=l53.g2 zzn;obtain⟨_,F54,b54,k54,a54⟩:=l54.g2 zz7;have F55:=sh (st:=uk) l55 c55 k55;have no:∀{x:Str},dX K cW x=some none->mg x=none:=λz=>PySem.W.mg_none_of X G z;have gl:∀{x:Str}{v:aC},dX K cW x=some (some v)->mg x=some v:=λz=>PySem.W.mg_of X G z;have ZV:i5 K cF:=⟨⟨_,_,_,_,_,_,_,_,_,_,_,_,_,_,_,lcF,(Al cS)⟩,saF,gaF,gtF,kpF⟩;have ZW:i5 K cV:=⟨⟨_,_,_,_,_,_,_,_,_,_,_,_,_,_,_,lcV,(Al cS)⟩,saV,gaV,gtV,kpV⟩;have ZX:i5 K cT:=⟨⟨_,_,_,_,_,_,_,_,_,_,_,_,_,_,_,lcT,(Al cS)⟩,saT,gaT,gtT,kpT⟩;have ZY:i5 K cP:=⟨⟨_,_,_,_,_,_,_,_,_,_,_,_,_,_,_,lcP,(Al cS)⟩,saP,gaP,gtP,kpP⟩;have tH:∀H:Hp,SqT K H aH HS:=λH=>Br llH rfl rfl sz4 (.cons ⟨_,rfl⟩ (.cons ⟨_,rfl⟩ (.cons ⟨_,rfl⟩ (.cons ⟨_,rfl⟩ .nil))));have tD:∀H:Hp,SqT K H aD FS:=λH=>Br llD rfl rfl sz2 (.cons ⟨_,rfl⟩ (.cons ⟨_,rfl⟩ .nil));have tE:∀H:Hp,SqT K H aE TS:=λH=>Br llE rfl rfl sz6 (.cons ⟨_,rfl⟩ (.cons ⟨_,rfl⟩ (.cons ⟨_,rfl⟩ (.cons ⟨_,rfl⟩ (.cons ⟨_,rfl⟩ (.cons ⟨_,rfl⟩ .nil))))));have Wg:Sw K mg cS:=⟨gl mS,wga,wrd,wfc⟩;have Ex:Exm K cS cF cV cT cP:=⟨xF,xV,xT,xP⟩;have B:XG K mg cF cV cT cP cG cN:=⟨gl mF,gl mV,gl mT,gl mP,gl mG,gl mN,⟨ZV,clF,vF,ttF,eFF,eFV,eFT,eFP⟩,⟨ZW,clV,vV,ttV,eVF,eVV,eVT,eVP⟩,⟨ZX,clT,vT,ttT,eTF,eTV,eTT,eTP⟩,⟨ZY,clP,vP,ttP,ePF,ePV,ePT,ePP⟩,EJ,EK,DJ,DK⟩;have MM:MC K cM:=⟨⟨pgM,hdM,poM,saM⟩,nMletters,nMways⟩;refine⟨gP "law" "law" (dt uk) (c8 uk) (aj uk) .none OB OC OD NX KP OE,λs v=>.of_eq rfl,λbase _ _=>?_⟩;have S:∀{CX:CXT}{k:Nat}{f:Addr}{fd:bQ}{ps:List Str}{sp:Sp},FnOk l.prog w K mg base CX k f fd ps sp->FnOk l.prog w K mg base CX k f fd ps sp:=id;have GiF:=S (Zu (C:=cF) YN Wg);have GiV:=S (Zv (C:=cV) YO Wg);have GiT:=S (Zw (C:=cT) YQ Wg);have GiP:=S (Zx (C:=cP) YR Wg);have GMu:=S (Vj F4 ZW EK aiV ⟨_,YF,rfl⟩ GiV biV (gl mV));have ZZ:=S (Qm F3 ZV EJ aiF ⟨_,YE,rfl⟩ GiF biF (gl mF) GMu b4 k4 (gl a4) (no AW));have GPl0:=Yo ZZ;have Z':=S (Vm F14 (gl aaH) tH);have QC:=S (Qo F13 Z' YX YY (gl YZ));have GIs:=S (Xx F17 QC QA QB (gl IL) (no zall) (gl aaE) tE);have GNt:=S (Xy F18 QC QA QB (gl IL) (no BQ));have GMt:=S (Qu F19 ZX DJ aiT ⟨_,YG,rfl⟩ GiT biT (gl mT) GIs b17 k17 (gl a17));have GMp:=S (Qv F16 ZZ b3 k3 (gl a3) GMt b19 k19 (gl a19) (gl aaD) tD);have GMs:=S (Vp F15 QC QA QB (gl IL) GMp b16 k16 (gl a16));have GMPl:=S (Oq F20 ZY DK aiP ⟨_,YH,rfl⟩ GiP biP (gl mP) GNt b18 k18 (gl a18));have TR:=S (Z9 (mg:=mg) F5);have TU:=S (V2 F6 (no BJ));have TV:=S (V3 F7 (no FQ));have GRe:=S (Q4 (mg:=mg) F9);have GOn:=S (Ye F8 GRe b9 k9 (gl a9));have GAg:=S (Q6 F10 TV b7 k7 (gl a7) TU b6 k6 (gl a6) (no BQ) (no BJ));have GWh:=S (Q7 F11 (no AW));have GLi:=S (Q8 F12 (no AW));have GLg:=S (Ob F2 (no BJ));have GLe:=S (Lb F1 GLg b2 k2 (gl a2));have GNw:=S (Ra F26 ⟨_,_,TR,b5,k5,gl a5⟩ ⟨_,_,TU,b6,k6,gl a6⟩);have GFi:=S (V5 F30 ⟨_,_,TR,b5,k5,gl a5⟩ (no BQ));have GBe:=S (Od F29 ⟨_,_,GFi,ZG,ZH,gl ZI⟩);have GEw:=S (Re F27 ⟨_,_,TV,b7,k7,gl a7⟩ ⟨_,_,GFi,ZG,ZH,gl ZI⟩ ⟨_,_,GBe,ZD,ZE,gl ZF⟩);have GTw:=S (Rf F28 ⟨_,_,GOn,b8,k8,gl a8⟩ ⟨_,_,GBe,ZD,ZE,gl ZF⟩);have GAr:=S (Yh F32 ⟨_,_,GOn,b8,k8,gl a8⟩ ⟨_,_,TV,b7,k7,gl a7⟩ (no FQ));have GAw:=S (Yi F31 ⟨_,_,GAg,b10,k10,gl a10⟩ ⟨_,_,GAr,b32,k32,gl a32⟩);have GIr:=S (Ym F24 (no AW));have GPr:=S (V9 (mg:=mg) F25);have GPn:=S (Rk F23 ⟨_,_,TR,b5,k5,gl a5⟩ ⟨_,_,TU,b6,k6,gl a6⟩ ⟨_,_,GPl0,b3,k3,gl a3⟩ ⟨_,_,GIr,b24,k24,gl a24⟩ ⟨_,_,GPr,b25,k25,gl a25⟩ (no BQ));have GWp:=S (Wa F22 ⟨_,_,GEw,b27,k27,gl a27⟩ ⟨_,_,GTw,b28,k28,gl a28⟩ ⟨_,_,GAw,b31,k31,gl a31⟩ ⟨_,_,GWh,b11,k11,gl a11⟩ ⟨_,_,GNw,b26,k26,gl a26⟩ ⟨_,_,GPn,b23,k23,gl a23⟩ (no BQ));have GWy:=S (Wb F21 ⟨_,_,QC,QA,QB,gl IL⟩ ⟨_,_,Z',YX,YY,gl YZ⟩ ⟨_,_,GWp,b22,k22,gl a22⟩ (no zreversed));have GRi:=S (Rq (mg:=mg) YS MM);have GMk:=S (Rr YW MM (no BQ) (no FQ));have GEf:=S (Rt YV MM ⟨_,_,GLi,b12,k12,gl a12⟩ ⟨_,_,GMk,bmK,⟨amK,qmK,kmK⟩⟩);have GEn:=S (Wc YU MM ⟨_,_,GEf,bmF,⟨amF,qmF,kmF⟩⟩);have GMi:=S (Ru YT GMs Y' ZA (gl ZC) ⟨_,_,GLe,b1,k1,gl a1⟩ ⟨_,_,GWy,b21,k21,gl a21⟩ GRi biR ⟨rga,rrd,aiR,kiR⟩ (gl mR));have MK:MkM l.prog w K mg base cM cF cV cT PZ _:=⟨⟨mkM,aiM,qiM,kpM⟩,GMi,biM,gl mM⟩;have GPt:=S (Yz F35 (no CQ) (no FQ));have GMc:=S (R9 F34 GPt ZJ ZK (gl ZL));have GBy:=S (ok_by F33 GMc b34 k34 (gl a34) GPt ZJ ZK (gl ZL) (no zsorted) (no zset));have GDd:=S (Wp F38 (no CQ) (no FQ));have GRw:=S (Wq F37 GDd b38 k38 (gl a38) (no CQ));have GWr:=S (Sa (mg:=mg) F42);have GAl:=S (Y3 F43 GBy b33 k33 (gl a33));have GFw:=S (Sf F40 GAl ZM ZN (gl ZO) (no BQ) (no BJ));have GWm:=S (Pb F41 GAl ZM ZN (gl ZO) GWr b42 k42 (gl a42) (no BQ) (no BJ));have GSml:=S (Sg F39 GFw b40 k40 (gl a40) GWm b41 k41 (gl a41));have GTo:=S (Si F36 MK MM GMs Y' ZA (gl ZC) GMPl b20 k20 (gl a20) GLe b1 k1 (gl a1) GRw b37 k37 (gl a37) GSml b39 k39 (gl a39) ⟨_,_,GEn,bmE,⟨amE,qmE,kmE⟩⟩);have GC:=S (Vi F44 (no BQ));have GP:=S (Qi F45 (no BJ) (no zabs));have GT:=S (Vf F46 (no zint));have GS:=S (Ly F47 GP ZP ZQ (gl ZR) GT TM TN (gl TQ) (no BJ) (no OF) (no zmin) (no CQ));have GLo:=S (Sn F48 GT TM TN (gl TQ) (no BQ));have GJo:=S (Lz F50 (no OF));have GGr:=S (Pj F49 GP ZP ZQ (gl ZR) GT TM TN (gl TQ) GLo b48 k48 (gl a48) GJo ZS ZT (gl ZU) (no zsum) (no BQ));have GSa:=S (L0 F51 GGr b49 k49 (gl a49) GJo ZS ZT (gl ZU) (no BQ));have GTi:=S (Ss F52 (no BQ));have GCg:=S (L1 F53 Ex (gl mS) GTo b36 k36 (gl a36));have GRf:=S (Hu F54 B (no zisinstance) (no zValueError));exact Zb F55 GC b44 k44 (gl a44) GS b47 k47 (gl a47) GSa b51 k51 (gl a51) GTi b52 k52 (gl a52) GCg b53 k53 (gl a53) GRf b54 k54 (gl a54)
theorem walk {l:sL}{q:aU}{CJ:List Str}{XP:(Str->Option aC)->Heap->Prop}{YP:aZ->Heap->Prop}{d:DefRec}{K:Params->aB}(hn:l.most=some 63)(LY:d.params.defaults=[])
  (hY:∀(w:aZ)(h:Heap),YP w h->(K w.params).In h)
  (F:∀(w:aZ)(mg:Str->Option aC) (fa:Addr) (h:Heap),(K w.params).In h->h.Ns cW mg->mg d.name=some (.ref fa)->∃fd:bQ,(∀(s:aG)(u:aC),xD s fd ⟨[u],[]⟩ [("_law_script",u)])/\∀base:Heap,(K w.params).In base->base.Ns cW mg->FnOk l.prog w (K w.params) mg base CX0 12 fa fd zyh (Dz (K w.params))) :
  PySem.W.WalkO q CJ XP YP l.row.toRowW d [] (λf vs=>zT f vs):=
 L2.walk_of (n:=63) (k:=12) (x:="_law_script") (CX:=λ_=>CX0) (sp:=λw=>Dz (K w.params)) hn (by decide) LY ⟨rfl,by decide,by decide⟩ hY F (λ_ _ a ns hl _ hS=>⟨a,ns,rfl,hS,hl,λ_=>rfl⟩) λ_ _ _ _ _ z=>z
end S63
def PySem.W.Fast.tw12764412890431237007:Unit:=()
def PySem.W.Fast.tw15182996696595116852:Unit:=()
def PySem.W.Fast.tw18256055653645658480:Unit:=()
def PySem.W.Fast.tw1888677681426558566:Unit:=()
def PySem.W.Fast.tw1810311843784484209:Unit:=()
def PySem.W.Fast.tw3006842747066207353:Unit:=()
def PySem.W.Fast.tw14588069650293350925:Unit:=()
def PySem.W.Fast.tw7506164412688781912:Unit:=()
def PySem.W.Fast.tw14419179020819903488:Unit:=()
def PySem.W.Fast.tw17032934774146116565:Unit:=()
def PySem.W.Fast.tw1413125560681979947:Unit:=()
def PySem.W.Fast.tw2258742686994255686:Unit:=()
def PySem.W.Fast.tw2274544161578410194:Unit:=()
def PySem.W.Fast.tw17409549693876760798:Unit:=()
def PySem.W.Fast.tw1383078384596163805:Unit:=()
def PySem.W.Fast.tw228972371256521020:Unit:=()
def PySem.W.Fast.tw14742571082969699777:Unit:=()
def PySem.W.Fast.tw3292275942623380594:Unit:=()
def PySem.W.Fast.tw13323320586695470076:Unit:=()
def PySem.W.Fast.tw16255277665955463719:Unit:=()
def PySem.W.Fast.tw17570791842715369289:Unit:=()
def PySem.W.Fast.tw1668056278218760104:Unit:=()
def PySem.W.Fast.tw13722712548954025119:Unit:=()
def PySem.W.Fast.tw7015781088531324989:Unit:=()
def PySem.W.Fast.tw1223970546912458963:Unit:=()
def PySem.W.Fast.tw12286255118700732562:Unit:=()
def PySem.W.Fast.tw3354623221112389024:Unit:=()
def PySem.W.Fast.tw7296200577180816526:Unit:=()
def PySem.W.Fast.tw3640473988936520987:Unit:=()
def PySem.W.Fast.tw2856173916635833835:Unit:=()
def PySem.W.Fast.tw9951625996267040068:Unit:=()
def PySem.W.Fast.tw17078997625931589179:Unit:=()
def PySem.W.Fast.tw7919481123782029988:Unit:=()
def PySem.W.Fast.tw1270045316125288885:Unit:=()
def PySem.W.Fast.tw5567241477611645250:Unit:=()
def PySem.W.Fast.tw7544428530168557329:Unit:=()
def PySem.W.Fast.tw3614287738405348597:Unit:=()
def PySem.W.Fast.tw17569023983843449211:Unit:=()
def PySem.W.Fast.tw18247880226134165833:Unit:=()
def PySem.W.Fast.tw10053537219820027496:Unit:=()
def PySem.W.Fast.tw798735298716901197:Unit:=()
def PySem.W.Fast.tw12343251952728566100:Unit:=()
def PySem.W.Fast.tw8268181942272007105:Unit:=()
def PySem.W.Fast.tw16263254909703491726:Unit:=()
def PySem.W.Fast.tw7616726364027693682:Unit:=()
def PySem.W.Fast.tw13688753030029756740:Unit:=()
def PySem.W.Fast.tw16384559709247129788:Unit:=()
def PySem.W.Fast.tw9828212711607031971:Unit:=()
def PySem.W.Fast.tw9768018872127723558:Unit:=()
def PySem.W.Fast.tw8586364845991542842:Unit:=()
def PySem.W.Fast.tw18214576825402622796:Unit:=()
def PySem.W.Fast.tw4024713567711201954:Unit:=()
def PySem.W.Fast.tw3181143891368664101:Unit:=()
def PySem.W.Fast.tw9668923500147373118:Unit:=()
def PySem.W.Fast.tw15989286813237834406:Unit:=()
def PySem.W.Fast.tw15508862968719752442:Unit:=()
def PySem.W.Fast.tw1357346659570385993:Unit:=()
def PySem.W.Fast.tw3025214045153593557:Unit:=()
def PySem.W.Fast.tw6553482941463149964:Unit:=()
def PySem.W.Fast.tw17016623443859852460:Unit:=()
def PySem.W.Fast.tw7971593537677812105:Unit:=()
def PySem.W.Fast.tw9168023445255704558:Unit:=()
def PySem.W.Fast.tw18206459189296565301:Unit:=()
def PySem.W.Fast.tw10898195926994260057:Unit:=()
def PySem.W.Fast.tw14198428503633250482:Unit:=()
def PySem.W.Fast.tw8953588351028261929:Unit:=()
def PySem.W.Fast.tw1262816610596164814:Unit:=()
def PySem.W.Fast.tw3563199330008629135:Unit:=()
def PySem.W.Fast.tw12563993439923575214:Unit:=()
def PySem.W.Fast.tw2473857367760722059:Unit:=()
def PySem.W.Fast.tw3432200458359835745:Unit:=()
def PySem.W.Fast.tw6498764934645183197:Unit:=()
def PySem.W.Fast.tw13235432468814548222:Unit:=()
def PySem.W.Fast.tw6417140449875632874:Unit:=()
def PySem.W.Fast.tw16321077226975127242:Unit:=()
def PySem.W.Fast.tw3111200460647136577:Unit:=()
def PySem.W.Fast.tw4379171768068652230:Unit:=()
def PySem.W.Fast.tw15163663622406200009:Unit:=()
def PySem.W.Fast.tw1128191536312483775:Unit:=()
def PySem.W.Fast.tw6301411936201746809:Unit:=()
def PySem.W.Fast.tw3894943303146610736:Unit:=()
def PySem.W.Fast.tw4267844664501294221:Unit:=()
def PySem.W.Fast.tw4425906294581779096:Unit:=()
def PySem.W.Fast.tw15421352247959640164:Unit:=()
def PySem.W.Fast.tw5630956800643409705:Unit:=()
def PySem.W.Fast.tw15659887693310910762:Unit:=()
def PySem.W.Fast.tw5520448630065243930:Unit:=()
def PySem.W.Fast.tw11626300099204480354:Unit:=()
def PySem.W.Fast.tw14128181510529357806:Unit:=()
def PySem.W.Fast.tw11867930282915989248:Unit:=()
open PySem PySem.W PyProof.Rows
set_option maxRecDepth 100000 in
set_option maxHeartbeats 0 in
theorem PySem.Challenge.cw_switchsay_k63_tables_refused_holds : PySem.Challenge.rw_switchsay_k63_tables_refused.Holds := by
  w_on;o_law;k_head;(case hw=>w_witness2)
  k_fill
  refine S63.walk (l:=PySem.Challenge.rw_switchsay_k63_tables_refused) rfl rfl (fun w h Y=>PySem.W.kIn_of Y) ?F
  case F=>
    intro w mg fa h KX G hmg;refine' S63.all_mk KX G hmg ?mS ?mF ?lcF ?saF ?gaF ?gtF ?kpF ?mV ?lcV ?saV ?gaV ?gtV ?kpV ?mT ?lcT ?saT ?gaT ?gtT ?kpT ?mP ?lcP ?saP ?gaP ?gtP ?kpP ?mG ?mN ?mR ?mM ?clF ?clV ?clT ?clP ?wga ?wrd ?wfc ?rga ?rrd ?pgM ?hdM ?poM ?saM ?nMletters ?nMways ?mkM ?kpM ?nFfield ?nVvalue ?nTsaying ?nPsaying ?vF ?vV ?vT ?vP ?ttF ?ttV ?ttT ?ttP ?eFF ?eFV ?eFT ?eFP ?eVF ?eVV ?eVT ?eVP ?eTF ?eTV ?eTT ?eTP ?ePF ?ePV ?ePT ?ePP ?xF ?xV ?xT ?xP ?aiF ?liF ?ciF ?kiF ?aiV ?liV ?ciV ?kiV ?aiT ?liT ?ciT ?kiT ?aiP ?liP ?ciP ?kiP ?aiR ?liR ?qiR ?aiM ?liM ?qiM ?amE ?lmE ?qmE ?amF ?lmF ?qmF ?amK ?lmK ?qmK ?l1 ?l2 ?l3 ?l4 ?l5 ?l6 ?l7 ?l8 ?l9 ?l10 ?l11 ?l12 ?l13 ?l14 ?l15 ?l16 ?l17 ?l18 ?l19 ?l20 ?l21 ?l22 ?l23 ?l24 ?l25 ?l26 ?l27 ?l28 ?l29 ?l30 ?l31 ?l32 ?l33 ?l34 ?l35 ?l36 ?l37 ?l38 ?l39 ?l40 ?l41 ?l42 ?l43 ?l44 ?l45 ?l46 ?l47 ?l48 ?l49 ?l50 ?l51 ?l52 ?l53 ?l54 ?a55 ?l55 ?c55 ?k55 ?aaH ?llH ?aaD ?llD ?aaE ?llE ?zrange ?zabs ?zint ?zmax ?zmin ?ztuple ?zlen ?zisinstance ?zenumerate ?zsum ?zall ?zzip ?zreversed ?zset ?zsorted ?zValueError
    case mS|mF|lcF|saF|gaF|gtF|kpF|mV|lcV|saV|gaV|gtV|kpV|mT|lcT|saT|gaT|gtT|kpT|mP|lcP|saP|gaP|gtP|kpP|mG|mN|mR|mM|clF|clV|clT|clP|wga|wrd|wfc|rga|rrd|pgM|hdM|poM|saM|nMletters|nMways|mkM|kpM|nFfield|nVvalue|nTsaying|nPsaying|aiF|liF|ciF|kiF|aiV|liV|ciV|kiV|aiT|liT|ciT|kiT|aiP|liP|ciP|kiP|aiR|qiR|aiM|qiM|amE|qmE|amF|qmF|amK|qmK|a55|l55|c55|k55|aaH|llH|aaD|llD|aaE|llE|zrange|zabs|zint|zmax|zmin|ztuple|zlen|zisinstance|zenumerate|zsum|zall|zzip|zreversed|zset|zsorted|zValueError=>k_is
    case l1|l2|l3|l4|l5|l6|l7|l8|l9|l10|l11|l12|l13|l14|l15|l16|l17|l18|l19|l20|l21|l22|l23|l24|l25|l26|l27|l28|l29|l30|l31|l32|l33|l34|l35|l36|l37|l38|l39|l40|l41|l42|l43|l44|l45|l46|l47|l48|l49|l50|l51|l52|l53|l54=>refine' S63.af_mk ?a ?l ?c ?k;(case a=>k_is);(case l=>k_is);(case c=>k_is);(case k=>k_is)
    case vF|vV|vT|vP|ttF|ttV|ttT|ttP|eFF|eFV|eFT|eFP|eVF|eVV|eVT|eVP|eTF|eTV|eTT|eTP|ePF|ePV|ePT|ePP=>kit_is
    case xF|xV|xT|xP=>kts_exm
    case liR|liM|lmE|lmF|lmK=>refine' S63.at_mk ?l ?c ?k;(case l=>k_is);(case c=>k_is);(case k=>k_is)
