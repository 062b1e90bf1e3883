import PyProof.Rows.All
import Wide.All
import OpenK.AllK
import Wide.FinOn
import PySem.Challenge.RW_switchsay_k24_too_many
set_option bootstrap.genMatcherCode false
set_option genSizeOf false
set_option compiler.extract_closed false
set_option hygiene false in
theorem XZ(h:0=0:=by rfl):0=0:=h
theorem XX(h:0=0:=by decide):0=0:=h
local macro_rules
 | `(⇑$x)=>`(by simpa using $x)
local macro_rules
 | `(↥$x)=>`(autoParam $x XZ._auto_1)
local macro_rules
 | `(↑$x)=>`(autoParam $x XX._auto_1)
local macro_rules
 | `(‹$n:num›)=>`(FnOk P w K mg base CX0 $n)
set_option hygiene false in
local macro_rules
 | `(tactic|exists $F,$c)=>`(tactic|refine ($F).ok $c (fun vs H Q E h=>?_) (fun wL A outer s H vs Q E hr h=>?_))
local macro_rules
 | `(‹$x›)=>`($(x).heap.objs.size)
local macro_rules
 | `(tactic|show $x)=>`(tactic|refine $x)
local macro_rules
 | `({$x:term,$y,*})=>`(⟨$x,$y,*⟩)
local macro_rules
 | `(#v[])=>`(by decide)
 | `(#v[$x,*])=>`(⟨$x,*⟩)
local macro_rules
 | `(())=>`(by lia)
local macro_rules
 | `(∅)=>`(by simp)
local macro_rules
 | `(⋯)=>`(by decide +kernel)
set_option hygiene false in
local macro_rules
 | `(tactic|let $p:term:=$t)=>do
  let rec go:Nat->Lean.Syntax->Lean.MacroM (Lean.TSyntax `rcasesPat)
   |0,_=>Lean.Macro.throwUnsupported
   |n+1,s=>match s with
    | `(⟨$xs,*⟩)=>do
     let ys<-xs.getElems.mapM λx=>do `(Lean.Parser.Tactic.rcasesPatLo|$(<-go n x):rcasesPat)
     `(rcasesPat|⟨$ys,*⟩)
    | `({$x:term,$y,*})=>do go n (<-`(⟨$x,$y,*⟩))
    | `(_)=>`(rcasesPat|_)
    | s=>if s.isIdent then `(rcasesPat|$(⟨s⟩):ident) else if s.isOfKind `choice then go n s[0] else Lean.Macro.throwUnsupported
  let q<-go 9 p
  `(tactic|obtain $q:rcasesPat:=$t)
set_option hygiene false in
local macro_rules
 | `(‹$f:ident $a›)=>if a.raw.isOfKind `num then `($f (i:=$a) hN rfl (aM rfl)) else Lean.Macro.throwUnsupported
 | `(‹$f:ident $a $b $c*›)=>if a.raw.isOfKind `num then if b.raw.isOfKind `num then `($f (i:=$a) (j:=$b) hN rfl (aM rfl) $c*) else `($f (i:=$a) hN rfl (aM rfl) $b $c*) else Lean.Macro.throwUnsupported
abbrev XQ:=List PySem.Str
open Option renaming some->KE,none->MS
open Bool renaming true->MT,false->MU
open PySem renaming Addr->MV,Heap->MW,Expr->MX,Stmt->MY
abbrev MZ:=@if_pos
abbrev M':=@if_neg
abbrev NA:=@decide_eq_false
abbrev NB:=@decide_eq_true
abbrev NC:=@absurd
abbrev WQ:=@PySem.wpAny_pure
abbrev WX:=@decide_eq_true_iff
abbrev NG:=@congrArg
noncomputable abbrev ZZ:XQ:=["letters","ways"]
noncomputable abbrev ZY:XQ:=["range","abs","int","max","min","tuple","list","len","isinstance","enumerate","sum","all","any","zip","reversed","set","sorted","dict","bool"]
noncomputable abbrev ZX:XQ:=["_law_speech_here","_law_saying_here","_law_letter","_law_count"]
noncomputable abbrev ZW:XQ:=["self","rooms","letter"]
noncomputable abbrev ZV:XQ:=["_law_letters_here","_law_row","_law_kind","_law_last_here"]
noncomputable abbrev ZU:XQ:=["_law_letters_here","_law_begun","_law_notes","_law_kind","_law_last_here"]
noncomputable abbrev ZT:XQ:=["_law_speech_here","_law_many","_law_kind","_law_letter","_law_ways"]
noncomputable abbrev ZS:XQ:=["letters","place","value"]
noncomputable abbrev ZR:XQ:=["_law_speech_here"]
noncomputable abbrev ZQ:XQ:=["self","room","letter"]
noncomputable abbrev ZP:XQ:=["first","second"]
noncomputable abbrev ZO:XQ:=["saying"]
noncomputable abbrev ZN:XQ:=["speech","saying","letter","count"]
noncomputable abbrev ZM:XQ:=["speech","letters","part","inner"]
noncomputable abbrev ZL:XQ:=["_law_speech_here","_law_kind","_law_letter"]
noncomputable abbrev ZK:XQ:=["_law_letters_here","_law_many","_law_kind"]
noncomputable abbrev ZJ:XQ:=["self","number","most"]
noncomputable abbrev ZI:XQ:=["one","other"]
noncomputable abbrev ZH:XQ:=["self","letters","ways"]
noncomputable abbrev ZG:XQ:=["_law_saying_here"]
noncomputable abbrev ZF:XQ:=["machine","beginnings","ending"]
noncomputable abbrev ZE:XQ:=["_law_letters_here","_law_many"]
noncomputable abbrev ZD:XQ:=["size"]
noncomputable abbrev ZC:XQ:=["relation"]
noncomputable abbrev ZA:XQ:=["_law_script","_law_k"]
noncomputable abbrev Z':XQ:=["_law_purse_here","_law_many"]
noncomputable abbrev YZ:XQ:=["_law_cell_here","_law_least"]
noncomputable abbrev YY:XQ:=["speech","letters","saying"]
noncomputable abbrev YX:XQ:=["machine","letter","count"]
noncomputable abbrev YW:XQ:=["none","all","is","not","either","then"]
noncomputable abbrev YV:XQ:=["speech","letters","part"]
noncomputable abbrev YU:XQ:=["machine","pairs","layer"]
noncomputable abbrev YT:XQ:=["speech","field","value"]
noncomputable abbrev YS:XQ:=["self","speech","saying"]
noncomputable abbrev YR:XQ:=["mask","relation"]
noncomputable abbrev YQ:XQ:=["letters","mask"]
noncomputable abbrev YO:XQ:=["machine","beginnings"]
noncomputable abbrev YN:XQ:=["_law_one"]
noncomputable abbrev YM:XQ:=["count","value"]
noncomputable abbrev YL:XQ:=["speech","part"]
noncomputable abbrev YK:XQ:=["row","anew","start"]
noncomputable abbrev YJ:XQ:=["speech","saying"]
noncomputable abbrev YI:XQ:=["letters","count"]
noncomputable abbrev YH:XQ:=["machine","count"]
noncomputable abbrev YG:XQ:=["ways"]
noncomputable abbrev YF:XQ:=["_law_cell_here"]
local macro_rules
  | `(tactic| obtain $p:rcasesPatMed := $t) => `(tactic| (refine Classical.byContradiction fun hG_ => ?_; obtain $p:rcasesPatMed : _ := $t; all_goals refine hG_ ?_))
open PySem renaming wpAny_bind->aA,Shared->aG,wpAny->aJ,Value->aL,starEach->aO,Program->aQ,model->aT,World->bC,mainGlobals->bF,Around->bU,wpAny_loadPart_at->cU,cLine->dB,wpAny_field->dD,compareOp->dU,wpAny_mono->dW,backTo->eE,wpAny_pyIter_list->eN,sizeLine_eq->eP,excClassObj->eR,binaryOp->eS,wpAny_callSpecial?_slot->fA,wpAny_newObj_type->fB,wpAny_setField_rec->fH,wpAny_call_entry->fN,bootBuiltins->fR,Builtin->fW,wpAny_pyIter_tuple->gD,FuncData->gG,typeLookup->gH,checkBuiltinCall->gJ,wpAny_holding->gK,intKind->gL,wpAny_seqItems->gN,wpAny_isSubtype_exc->gR,sysModules->gW,wpAny_Call_Name_kw->iE,attributeBase->iP,wpAny_truthy_bool->iV,foldedSetIterable->iW,rawInt->jC,holding->jF,keywordEach->jH,swapsWith->jO,mem_of_lookup->jQ,wpAny_forIn_list->jS,wpAny_passesOwn->kA,call_meets->kK,codeAny_call_builtin->kM,codeAny->kQ,wpAny_typeOf->kX,wpAny_isInstance->kZ,wpAny_getItem_str_slice->lJ,wpAny_standAt->lQ,Scope->lS,wpAny_execs_nil->lT,wpAny_specialOf->lZ,atKey->mB,GenState->mE,backToKw->mG,standAt->mL,codeAny_mono->mM,getMethod->mW,wpAny_rule->nA,IsTupleKey->nD,pyNext->nG,behindInMarks->nH,wpAny_onRaise->nL,IsPair->nM,sliceBounds->nP,relabel->nQ,tupleKind_room_in1->oA,ExcBaseFacts->oC,entryOfKey->oG,assignEach->oH,getItem->oJ,wpAny_setField->oK,storedH->oM,wpAny_dictEntries->oV,assign->oW,IsEnum->pA,bindArgs->pD,Keyword->pH,isSubtype_tuple_tuple->pK,letOwnedTupleGo->pP,wpAny_call->pR,IsPart->pS,PlainAttrs->pU,post_val_or_str->pY,field->pZ,isInstance->qB,unbindBehindTheSuite->qE,wpAny_updateSeq_pair->qF,callWith->qO,callerA->qQ,IsZip->qS,wpAny_tupleItemsOf->rA,wpAny_attempt->rH,wpAny_sequenceKey->rM,typeIs_int->rO,BindsTo->rP,valueAt->rQ,wpAny_execs_cons->rR,wpAny_lookBehind->rS,pastItsLine_dict->rT,NameKind->rV,noFill_tuple_add->rW,preSum->sC,evalEach->sJ,tupleKind->sO,PassesOwn->sP,eqIsQuiet->sS,codeAny_builtin->sU,IsRangeIter->sW,wpAny_letGo->tD,isTrue->tG,typeOf->tH,refuseLoop_ref->tK,wpAny_newTuple->tQ,bindL->tV,bindC->tW,reduceHash->tY,ZipApart->uA,seq_tuple_add->uD,evalPart_none->uE,Within->uJ,storeName->uK,wpAny_nsSet1->uL,concat_meets->uP,onTheHeap->uV,IsEnumOut->uW,getAttr->vD,seqIndex_of->vF,getAttr?->vL,builtinsNs->vN,wpAny_Name->vO,Result->vQ,typeIs_str->vR,call->vT,closureFor->vU,refuseLoop->vW,setItem->vX,setAttr->vY,OsState->vZ
theorem XJ(h:0=0:=by first | show .inl rfl | show .inr rfl | assumption):0=0:=h
theorem XW(h:0=0:=by intro _;rfl):0=0:=h
theorem JX(h:0=0:=by decide +kernel):0=0:=h
theorem JJ(h:0=0:=by show fsN):0=0:=h
theorem JK(h:0=0:=by show aM rfl):0=0:=h
theorem JV(h:0=0:=by intro _;intros;rfl):0=0:=h
theorem JW(h:0=0:=by first | show aM rfl | show eW (aM rfl) | show eW (eW rfl)):0=0:=h
theorem KQ(h:0=0:=by with_unfolding_all rfl):0=0:=h
theorem KW(h:0=0:=by repeat' first | show trivial | with_unfolding_all rfl | constructor):0=0:=h
theorem VQ(h:0=0:=by show λ_ _=>rfl):0=0:=h
open List renaming getElem?_eq_getElem->aB,length_map->aC,length_append->aH,size_toArray->aK,mem_singleton->aN,mem_cons_of_mem->aP,mem_cons_self->aR,length_cons->aS,mem_of_getElem?->aU,getElem?_map->aW,mem_cons->aX,replicate->bB,mem_map->bE,range->bG,length_range->bM,getD_eq_getElem?_getD->bO,append_nil->bP,nil_append->bR,map_append->bT,map_cons->bV,mem_range->bY,getElem?_eq_some_iff->bZ,getElem?_append_left->cE,mem_append_right->cG,take_add_one->cH,length_take->cK,idxOf_lt_length_iff->cM,getElem?_append_right->cQ,take_length->cW,getElem?_range->cY,getElem?_set_ne->cZ,getElem?_set_self->dA,length_replicate->dC,mem_filter->dE,mem_append->dF,map_map->dG,getElem?_eq_none->dI,flatMap_cons->dJ,toArray->dM,getElem?_replicate->dP,length_singleton->dR,not_mem_nil->dS,append_assoc->dX,find?_cons->dY,contains_cons->eB,mem_flatMap->eM,length_drop->eY,nodup_cons->fS,replicate_succ->fX,getElem_idxOf->gE,mem_append_left->gF,flatMap_singleton->gO,length_set->gZ,drop_eq_getElem_cons->hU,length_filter_le->iA,getElem_mem->iH,length_zipIdx->iK,mem_zipIdx_iff_getElem?->iS,filter_congr->iX,filterMap_cons->iZ,length_reverse->jA,flatMap_append->jB,drop_eq_nil_of_le->jE,lookup->jG,getLast?_concat->jK,filterMap_cons_some->jL,flatten_cons->jN,length_eq_zero_iff->jP,dropLast_concat_getLast->jT,filter_eq_nil_iff->jV,length_eq_one_iff->jW,length_nil->kB,filterMap_append->kC,mem_iff_getElem?->kE,any_cons->kI,reverse_cons->kJ,getElem_toArray->kL,dropLast_concat->kP,cons_append->kY,reverse_nil->lB,length_filterMap_le->lC,filterMap_cons_none->lE,map_congr_left->lG,pairwise_singleton->lO,range_succ->lW,take_of_length_le->mH,foldl_append->mI,ext_getElem?->mJ,getElem?_inj->mK,map_nil->mR,take_append_drop->mU,getElem?_zipIdx->nE,flatMap_map->nF,length_flatMap->nR,zip_cons_cons->nX,pairwise_cons->oB,filter_cons_of_pos->oP,filter_cons_of_neg->oQ,flatMap_eq_nil_iff->oR,append_eq_nil_iff->pB,any_eq_true->pF,any_toArray->pG,foldl_cons->pV,filter_map->qC,getElem?_mapIdx->qH,mem_of_mem_take->qI,mem_map_of_mem->qM,mem_filterMap->qX,filterMap_map->qY,map_singleton->rD,all_cons->rE,lookup_cons->rY,filter_cons->sD,map->sF,of_mem_zip->sR,length->sZ,map_id->tF,filterMap->tM,drop_zero->tP,sum_cons->uI,zipWith->uX,flatMap->vC,range'->vJ,foldl->vS
open PySem.W renaming Frag->aE,findIn->bH,nsIn->bS,keepIn->dH,kitOne->dN,kia_one->eV,mg_of->eZ,looks_findIn->fE,fnOf->fM,emptyDict->gP,isFn->iB,instObj->jI,specialIn->jM,callWith_K->jX,codeIn->kR,readsIn->lX,findCls->lY,methodCall_KW->mO,plainGet->mZ,hasDictIn->oS,OpenLaw->oZ,kasC_bind->pM,makesIn->pQ,plainGet_of->qJ,lookIn->qN,methodObj->rJ,plainOver->rK,kitx_list->rL,takerIn->sQ,exmOne->tS,kitAny->tT,kas_cmp->tU,kas_st->vA,kasC_pure->vB
open PySem.Heap renaming get?_push_of_some->aF,lt_size->bA,get?_push_size->bK,size_push->fJ,SameBut->fK,get?_update_other->gM,get?_update_self->hX,get?_none_of_le->mY,IsTuple->qG,get?_update_ne->qL,ExtBut->qR,IsList->qT
open Nat renaming le_refl->aI,le_trans->aV,ne_of_lt->bN,lt_of_lt_of_le->bW,zero_lt_one->cJ,zero_le->eQ,ne_of_gt->fZ,zero_add->gB,lt_succ_self->iC,lt_trans->iG,testBit_succ->iJ,mul_le_mul_right->iR,testBit_and->jJ,add_comm->jY,eq_of_testBit_eq->kN,pow_le_pow_right->kO,le_of_lt->kW,pow_succ->lA,lt_irrefl->lP,mod_two_eq_zero_or_one->nN,not_lt_zero->nS,testBit_two_pow_self->oE,mul_le_mul->oN,le_of_not_lt->pE,succ_mul->pW,two_pow_pos->qA,add_sub_cancel->rB,add_assoc->rF,lt_of_succ_lt->rN,min_le_right->rX,min_self->sG,succ_ne_zero->sH,le_add_right->sM,min_eq_left->sV,le_succ->sY,mul_assoc->uG,mul_comm->uS,sub_zero->uU,pow_zero->uY,mul_one->vH,log2->vM
open Or renaming inl->aM,inr->eW
open Bool renaming false_ne_true->aY,and_eq_true->eG,eq_iff_iff->eJ,false_eq_true->fU,or_true->jZ,not_true->lR,and_true->pC,and_false->tJ
open PySem.Value renaming ref->aZ,none->fO,builtin->fQ,isInt->fV,type->gU,int->nU,bool->oF,str->qV,float->vE
open PySem.PassesOwn renaming never->bJ
open Int renaming toNat_natCast->bQ,natCast_nonneg->nV,one_mul->qU,lt_trans->sI,ediv_one->uQ,le_trans->uZ
open Option.some renaming inj->bX
open PyProof.Rows renaming slot_tuple_getitem->dO,callWith_type1->fP,seqObj->iU,units_in1->jD,IntsAre->mQ,envOfC->nI,AllBare->nO,subscriptTail_builtinR->oY,entry_tuple_getitem->qK,slicePart_none->qP,args_tuple_getitem->qZ,IsTup->sN,subscriptTail->uF,listUpdate_at->uH,seqEpoch_at->vK,boot_range->vP
open PySem.F renaming plainAttrs_list->dQ,slot_list_extend->iM,type_list_extend->iO,slot_list_index->lK,args_tuple_add_2->nY,entry_tuple_add->oO,slot_tuple_add->oX,slot_list_pop->pN,type_list_pop->pO
open PySem.Builtin renaming bitAnd->dZ,bitOr->eI,bitXor->kU,bitNot->tR
open PySem.Str renaming ofString->eA,empty->uM
open PySem.Builtin.SmallTypes renaming nextOf->eC,ownedTupleIsFree->eX,ownedTupleHandOut->iI
open Option renaming map_eq_some_iff->eF,isSome_map->eO,isSome_iff_exists->nW
open Ne renaming symm->eT
open False renaming elim->eU
open PySem.Builtin.Slice renaming slicePlaces->fF,sliceAdjust->gY,sliceApplied->kF
open PySem.Builtin.Tuple renaming tupleHashOf->fG,tupleExact->gA,tupleItemsOf->kG
open PySem.Obj renaming mapSeq->fY,data_mapFields->lV,mapFields->nK,isFreed_of_fields->pJ
open Array renaming length_toList->gQ,forIn_toList->nZ,getElem?_toList->pI
open PySem.Builtin.List renaming listTooLong->iF
open True renaming intro->iQ
open PySem.Heap.SameBut renaming update->jR
open PySem.Shared renaming heap->jU
open Iff renaming rfl->kS
open PySem.Builtin.Int renaming intBits->lF
open PySem.Builtin.Range renaming rangeSize->lH
open PySem.Builtin.Dict renaming updateFrom->lM
open Classical renaming propDecidable->lN
open PySem.Txt renaming slice->lU,slice_le->rZ
open PySem.Heap.IsList renaming push->nB
open List.cons renaming inj->nJ
open List.Pairwise renaming nil->oU
open List.Perm renaming append_left->pL
open ForInStep renaming yield->pX
open PySem.Data renaming cell->qW,fields->sX,seq->wO
open PySem.Code renaming quiet_builtin->rC,isFrame->uO
open PySem.SeqAt.EqAt renaming of_refs->sA,same->uT
open PySem.W.Looks renaming ld->sL
open PySem.SeqAt renaming EqAt->tX
open Prod renaming fst->uB
open PyProof.Rows.SortSt renaming mk'->uC
open PySem.Around renaming under->uN
open PyProof.Rows.IsTup renaming new->uR
open PySem.SeqAt.RcAt renaming tuples->vG
open PySem.Walks renaming list->vV
abbrev LJ:=List (List Int)
abbrev LW:=List (PySem.Str×Nat)
abbrev CW:=List (PySem.Addr×PySem.Obj)
abbrev LQ:=List Int
abbrev AQ:=List Nat
abbrev AZ:=List PySem.Str
abbrev AK:=Option aL
abbrev AW:=List aL
abbrev BV:=Option Int
abbrev BW:=Array aL
abbrev DQ:=Array Nat
abbrev CY:=List PySem.Expr
abbrev DV:=List PySem.Addr
set_option Elab.async false
set_option autoImplicit true
set_option relaxedAutoImplicit true
set_option linter.all false
set_option maxRecDepth 100000
namespace L2
open PySem PySem.Spec PyProof.Rows
abbrev Key:=Sum Int Str
def A9:Key->aL->Bool
 | .inl k,v=>fV k v
 | .inr x,v=>Value.isStrOf x v
def xf (w:bC):Key->Int
 | .inl k=>hashInt k
 | .inr x=>hashStr w x
theorem gj:∀{k v},A9 k v=MT->(∃i t,k=Sum.inl i/\v=nU i t)\/(∃x t,k=Sum.inr x/\v=qV x t)
 | .inl i,v,h=>by
  let{t,e}:=Value.isInt_shape (k:=i) (v:=v) h;show .inl #v[i,t,rfl,e]
 | .inr x,v,h=>by
  let{t,e}:=Value.isStrOf_shape (x:=x) (v:=v) h;show .inr #v[x,t,rfl,e]
def U6 (i:Int)(t:Tok):A9 (.inl i) (.int i t)=MT:=by simp[A9,fV]
def U7 (x:Str)(t:Tok):A9 (.inr x) (.str x t)=MT:=by simp[A9,Value.isStrOf]
def ahv (a b:Int):decide ((Sum.inl a:Key)=Sum.inl b)=(a==b):=by
 by_cases e:a=b;{subst e;simp};{have h:¬(Sum.inl a:Key)=Sum.inl b:=λq=>e (Sum.inl.inj q);rw[NA h];show(beq_eq_false_iff_ne.mpr e).symm}
def ahw (a b:Str):decide ((Sum.inr a:Key)=Sum.inr b)=decide (a=b):=by
 by_cases e:a=b;{subst e;simp};{have h:¬(Sum.inr a:Key)=Sum.inr b:=λq=>e (Sum.inr.inj q);rw[NA h,NA e]}
def ahx (a:Int)(b:Str):decide ((Sum.inl a:Key)=Sum.inr b)=MU:=NA (λq=>nomatch q)
def ahy (a:Str)(b:Int):decide ((Sum.inr a:Key)=Sum.inl b)=MU:=NA (λq=>nomatch q)
def gw (prog:aQ)(w:bC):PySem.KeyKind prog w Key where
 is:=A9
 hash:=xf w
 inj:=λv a b ha hb=>by
  rcases gj ha with⟨i,t,rfl,rfl⟩ | ⟨x,t,rfl,rfl⟩;{rcases gj hb with⟨j,u,rfl,e⟩ | ⟨y,u,rfl,e⟩;{injection e with e1 _;rw[e1]};{show nomatch e}};{rcases gj hb with⟨j,u,rfl,e⟩ | ⟨y,u,rfl,e⟩;{show nomatch e};{injection e with e1 _;rw[e1]}}
 byValue:=λk v h=>by
  rcases gj h with⟨i,t,rfl,rfl⟩ | ⟨x,t,rfl,rfl⟩<;>rfl
 pyHash:=λhv h=>by
  rcases gj hv with⟨i,t,rfl,rfl⟩ | ⟨x,t,rfl,rfl⟩;{show wpAny_pyHash_int h};{show wpAny_pyHash_str h}
 eqBool:=λhu hv h=>by
  rcases gj hu with⟨i,t,rfl,rfl⟩ | ⟨x,t,rfl,rfl⟩;{rcases gj hv with⟨j,u,rfl,rfl⟩ | ⟨y,u,rfl,rfl⟩;{rw[ahv]at h;show wpAny_eqBool_int h};{rw[ahx]at h;show SeqAt.EqAt.int_str i t y u _ _ _ _ h}};{rcases gj hv with⟨j,u,rfl,rfl⟩ | ⟨y,u,rfl,rfl⟩;{rw[ahy]at h;show SeqAt.EqAt.str_int x t j u _ _ _ _ h};{rw[ahw]at h;show wpAny_eqBool_str h}}
 «strs»:=λk x t v h=>by
  rcases gj h with⟨i,u,rfl,e⟩ | ⟨y,u,rfl,e⟩;{show nomatch e};{injection e with e1 _;subst e1;cases v<;>rfl}
def Od (prog:aQ)(w:bC)(i:Int)(t:Tok):(gw prog w).is (.inl i) (.int i t)=MT:=U6 i t
def Oe (prog:aQ)(w:bC)(x:Str)(t:Tok):(gw prog w).is (.inr x) (.str x t)=MT:=U7 x t
inductive V where
 |non | bl (b:Bool) | int (i:Int) | str (x:Str) | byt (b:Array UInt8) | flt (b:UInt64) | ref (a:MV) | ty (n:String)
 deriving DecidableEq
abbrev _root_.EX:=List V
def RelV:V->aL->Prop
 | .non,u=>u=fO
 | .bl b,u=>u=oF b
 | .int i,u=>∃t,u=nU i t
 | .str x,u=>∃t,u=qV x t
 | .byt b,u=>∃t,u=Value.bytes b t
 | .flt b,u=>∃t,u=vE b t
 | .ref a,u=>u=aZ a
 | .ty n,u=>u=gU n
abbrev Vals:EX->AW->Prop:=Paired RelV
theorem Vals.length {xs:EX}{us:AW}(r:Vals xs us):xs.length=us.length:=Paired.length r
theorem Vals.get:∀{xs:EX}{us:AW}{i:Nat}{x:V},Vals xs us->xs[i]?=KE x->∃u,us[i]?=KE u/\RelV x u
 |_,_,_,_,.nil,e=>by simp at e
 |_,_,0,_,.cons r _,e=>by simp at e;subst e;show{_,rfl,r}
 |_,_,i+1,x,.cons _ t,e=>by
  let{u,a,b}:=Vals.get (i:=i) (x:=x) t (⇑e);show{u,by simpa using a,b}
theorem Vals.set (r:RelV x u):∀{xs us} i,Vals xs us->Vals (xs.set i x) (us.set i u)
 |_,_,_,.nil=>.nil
 |_,_,0,.cons _ t=>.cons r t
 |_,_,i+1,.cons q t=>.cons q (Vals.set r i t)
theorem Vals.append:∀{xs ys:EX}{us a:AW},Vals xs us->Vals ys a->Vals (xs++ys) (us++a)
 |_,_,_,_,.nil,s=>s
 |_,_,_,_,.cons r t,s=>.cons r (Vals.append t s)
theorem Vals.take:∀{xs us} n,Vals xs us->Vals (xs.take n) (us.take n)
 |_,_,0,_=>.nil
 |_,_,_+1,.nil=>.nil
 |_,_,n+1,.cons r t=>.cons r (Vals.take n t)
theorem Vals.drop:∀{xs us} n,Vals xs us->Vals (xs.drop n) (us.drop n)
 |_,_,0,r=>r
 |_,_,_+1,.nil=>.nil
 |_,_,n+1,.cons _ t=>Vals.drop n t
def RelO:Option V->AK->Prop
 |some v,KE u=>RelV v u
 |none,MS=>True
 |_,_=>False
def KV {a:Type}:List (a×V)->List (a×aL)->Prop:=Paired λp q=>p.1=q.1/\RelV p.2 q.2
def kV:Key->V
 | .inl i=>.int i
 | .inr x=>.str x
inductive HO where
 |lst (xs:EX)
 |tup (xs:EX)
 |dK (kvs:List (Key×V)) | dT (kvs:List (List Key×V))
 |set (S:Int->Bool) (n:Nat)
 |ins (C dx:MV) (fs:List (Str×V))
 |own (x:MV)
 |xd (fs:List (Str×V))
 |met (f x:MV)
 |rng (lo hi:Int)
 |frz (o:Obj) (u:HO)
 |tbl (ps:BW)
 |ext (φ:MW->Prop)
abbrev Hp:=MV->Option HO
def upd (H:Hp)(a:MV)(o:HO):Hp:=λb=>if b=a then KE o else H b
def ay {H:Hp}{a:MV}{o:HO}:upd H a o a=KE o:=by unfold upd;rw[MZ rfl]
def au {H:Hp}{a b:MV}{o:HO}(h:b≠a):upd H a o b=H b:=by unfold upd;rw[M' h]
def ne_of {H:Hp}{a b:MV}{o u:HO}(h:H a=KE o)(h':H b=KE u)(d:o≠u):a≠b:=by
 intro e;subst e;rw[h]at h';show d (bX h')
def bp {H:Hp}{a b:MV}{o:HO}(h:H a=KE o)(h':H b=MS):a≠b:=by
 intro e;subst e;rw[h]at h';cases h'
section
variable (P:aQ)(w:bC)
def ObjOk (H:Hp)(h:MW)(a:MV):HO->Prop
 | .lst xs=>xs.length<=sizeLine/\∃its n,Vals xs its/\h.get? a=KE {cls:=.type "list",data:=.seq its.toArray n}
 | .tup xs=>xs.length<=sizeLine/\∃its:AW,Vals xs its/\sN h a its.toArray
 | .dK kvs=>kvs.length<=sizeLine/\(a==gW)=MU/\∃vs,KV kvs vs/\h.DictOf (gw P w) a vs
 | .dT kvs=>kvs.length<=sizeLine/\(a==gW)=MU/\∃xs:List (List Key×MV×aL),
   Paired (λp q=>p.1=q.1/\H q.2.1=KE (.tup (p.1.map kV))/\RelV p.2 q.2.2) kvs xs/\
   ∃o e j,h.get? a=KE o/\o.ExactDict/\o.data=.dict e j/\e.toList=xs.map (oG (sO (gw P w)))/\(xs.map (·.1)).Nodup
 | .set S n=>h.SetOf (gL P w) a S n
 | .ins C c fs=>H c=KE (.own a)/\fs.length<=1000/\c≠a/\h.get? a=KE (jI C c)/\
   ∃b,h.Ns1 c b/\(∀f,RelO (fs.lookup f) (b f))/\uJ b (fs.map (·.1))
 | .own _=>∃o,h.get? a=KE o
 | .xd fs=>∃b,h.Ns1 a b/\∀f,RelO (fs.lookup f) (b f)
 | .rng lo hi=>∃t u v,h.get? a=KE {cls:=.type "range",data:=.fields #[.int lo t,.int hi u,.int 1 v]}
 | .frz o u=>h.get? a=KE o/\ObjOk H h a u
 | .tbl ps=>h.get? a=KE {cls:=.none,data:=.fields ps}
 | .met f x=>h.get? a=KE (rJ (.ref f) (.ref x))
 | .ext d=>d h/\(∃o,h.get? a=KE o)/\∀g i:MW,d g->(∀o,g.get? a=KE o->i.get? a=KE o)->d i
def HOk (H:Hp)(h:MW):Prop:=∀a o,H a=KE o->ObjOk P w H h a o
end
section
variable {P:aQ}{w:bC}{H H':Hp}{h h':MW}{a:MV}{o:HO}
theorem ObjOk.lt (x:ObjOk P w H h a o):a<h.objs.size:=by
 cases o with
 |lst xs=>let{_,_,_,_,e}:=x;show bA e
 |tup xs=>let{_,_,_,p}:=x;show p.lt
 |dK kvs=>let{_,_,_,_,o,_,_,e,_}:=x;show bA e
 |dT kvs=>let{_,_,_,_,o,_,_,e,_}:=x;show bA e
 |set S n=>let{o,_,_,_,e,_}:=x;show bA e
 |ins C b fs=>let{_,_,_,e,_}:=x;show bA e
 |own y=>let{_,e}:=x;show bA e
 |xd fs=>let{_,{_,_,_,e,_},_}:=x;show bA e
 |rng lo hi=>let{_,_,_,e}:=x;show bA e
 |frz c u=>let{e,_}:=x;show bA e
 |tbl ps=>show bA (show h.get? a=KE _ from x)
 |met f y=>show bA (show h.get? a=KE _ from x)
 |ext d=>let{_,{_,e},_}:=x;show bA e
theorem Paired.mapP:∀{l₁ c},Paired F l₁ c->(∀a b,F a b->G a b)->Paired G l₁ c
 |_,_,.nil,_=>.nil
 |_,_,.cons r t,f=>.cons (f _ _ r) (Paired.mapP t f)
def ObjOk.stay (x:ObjOk P w H h a o)(k:∀b u,(b=a\/H b=KE (.own a))->h.get? b=KE u->h'.get? b=KE u)
  (s:∀b,H b=KE (.own a)->H' b=KE (.own a)) (A:∀b xs,H b=KE (.tup xs)->H' b=KE (.tup xs)):ObjOk P w H' h' a o:=by
 induction o with
 |lst xs=>let{z,its,n,r,e}:=x;show{z,its,n,r,k _ _ (.inl rfl) e}
 |tup xs=>let{z,its,r,g,e,c}:=x;show{z,its,r,g,k _ _ (.inl rfl) e,c}
 |dK kvs=>let{z,y,vs,r,g,i,j,e,c}:=x;show{z,y,vs,r,g,i,j,k _ _ (.inl rfl) e,c}
 |dT kvs=>
  let{z,y,xs,r,g,i,j,e,c}:=x;show{z,y,xs,Paired.mapP r λp q z=>{z.1,A _ _ z.2.1,z.2.2},g,i,j,k _ _ (.inl rfl) e,c}
 |set S n=>let{g,i,j,t,e,c}:=x;show{g,i,j,t,k _ _ (.inl rfl) e,c}
 |ins C G fs=>
  let{d,z,ne,e,l,{m,i,j,D,c},r}:=x;show{s _ d,z,ne,k _ _ (.inl rfl) e,l,{m,i,j,k _ _ (.inr d) D,c},r}
 |own y=>let{g,e}:=x;show{g,k _ _ (.inl rfl) e}
 |xd fs=>let{l,{m,i,j,e,c},r}:=x;show{l,{m,i,j,k _ _ (.inl rfl) e,c},r}
 |rng lo hi=>let{t,u,v,e}:=x;show{t,u,v,k _ _ (.inl rfl) e}
 |frz g u E=>let{e,q}:=x;show{k _ _ (.inl rfl) e,E q}
 |tbl ps=>
  have e:h.get? a=KE {cls:=.none,data:=.fields ps}:=x;change h'.get? a=KE {cls:=.none,data:=.fields ps};show k a _ (.inl rfl) e
 |met f y=>
  have e:h.get? a=KE (rJ (.ref f) (.ref y)):=x;change h'.get? a=KE (rJ (.ref f) (.ref y));show k a _ (.inl rfl) e
 |ext I=>let{p,{o,e},st}:=x;show{st _ _ p λo q=>k _ _ (.inl rfl) q,{o,k _ _ (.inl rfl) e},st}
theorem HOk.lt (x:HOk P w H h)(e:H a=KE o):a<h.objs.size:=(x a o e).lt
def HOk.fresh (x:HOk P w H h)(e:h.objs.size<=a):H a=MS:=by
 cases q:H a with
 |none=>rfl
 |some u=>show NC (bW (x.lt q) e) (lP _)
def HOk.kept (x:HOk P w H h)(k:∀b u,h.get? b=KE u->h'.get? b=KE u):HOk P w H h':=λa o e=>
 (x a o e).stay (λb u _ q=>k b u q) (λ_ q=>q) λ_ _ q=>q
def HOk.laid (x:HOk P w H h)(k:∀b u,h.get? b=KE u->h'.get? b=KE u)(g:h.objs.size<=a)(new:ObjOk P w (upd H a o) h' a o):HOk P w (upd H a o) h':=λb u e=>by
 have d:=x.fresh g;by_cases f:b=a;{subst f;rw[ay]at e;cases e;show new};{rw[au f]at e;show(x b u e).stay (λc v _ q=>k c v q) (λc q=>by rw[au (bp q d)];show q) λc xs q=>by rw[au (bp q d)];show q}
end
def Rd (H:Hp)(a:MV)(u:HO):Prop:=H a=KE u\/∃o,H a=KE (.frz o u)
def Rd.ok {P:aQ}{w:bC}{H:Hp}{h:MW}{a:MV}{u:HO}(r:Rd H a u)(x:HOk P w H h):ObjOk P w H h a u:=by
 rcases r with r | ⟨o,r⟩;{show x a u r};{let{_,q}:=x a _ r;show q}
def Mut:Option HO->Prop
 |some (.lst _)=>True
 |some (.dK _)=>True
 |some (.dT _)=>True
 |some (.set _ _)=>True
 |some (.ins _ _ _)=>True
 |some (.ext _)=>True
 |_=>False
section
variable {P:aQ}{w:bC}{H:Hp}{h h':MW}{x e:MV}{o':HO}
def HOk.write (ok:HOk P w H h)(d:Mut (H x))(i:e=x\/H e=KE (.own x))(k:∀b u,b≠e->h.get? b=KE u->h'.get? b=KE u)(m:∃u,h'.get? e=KE u)
  (new:ObjOk P w (upd H x o') h' x o'):HOk P w (upd H x o') h':=λb u q=>by
 have j:∀c y,H c=KE (.own y)->c≠x:=λc y r z=>(by subst z;rw[r]at d;show d);have a:∀c xs,H c=KE (.tup xs)->c≠x:=λc xs r z=>(by subst z;rw[r]at d;show d);by_cases f:b=x;{subst f;rw[ay]at q;cases q;show new}
 ·rw[au f]at q;by_cases g:b=e
  ·have l:H b=KE (.own x):=by
    rcases i with z | z;{show NC (g.trans z) f};{rw[g];show z}
   rw[q]at l;cases l;let{v,n}:=m;show{v,by rw[g];show n}
  ·show(ok b u q).stay (λc v hc r=>k c v ?_ r) (λc r=>by rw[au (j c b r)];show r) λc xs r=>(by rw[au (a c xs r)];show r);rcases hc with rfl | hc;{show g};{intro p;subst p;rcases i with z | z;{show j c b hc z};{rw[hc]at z;cases z;show f rfl}}
end
structure Un (fs ex:DV)(H H':Hp)(h h':MW):Prop where
 keep:∀b o,h.get? b=KE o->H b=MS->b ∉ fs->b ∉ ex->h'.get? b=KE o
 slot:∀b o,h.get? b=KE o->H b=MS->b∈fs->b ∉ ex->∃sl,h'.get? b=KE {o with slots:=sl}
 free:∀b o,h.get? b=KE o->H b=MS->b ∉ ex->H' b=MS
 there:∀b o,h.get? b=KE o->b ∉ ex->∃o',h'.get? b=KE o'
 tups:∀b xs,H b=KE (.tup xs)->H' b=KE (.tup xs)
 frzs:∀b o u,H b=KE (.frz o u)->H' b=KE (.frz o u)
 tbls:∀b ps,H b=KE (.tbl ps)->∃BZ,H' b=KE (.tbl (ps++BZ))
section
variable {fs fs' ex ex':DV}{H H1 H2:Hp}{h h1 h2 h':MW}{a x e:MV}{o:HO}
def Un.any (u:Un fs ex H H1 h h1)(q:h.get? b=KE c)(n:H b=MS)(d:b ∉ ex):∃g,h1.get? b=KE {c with slots:=g}:=by
 by_cases f:b∈fs;{show u.slot b c q n f d};{show{c.slots,u.keep b c q n f d}}
def Un.kept (k:∀b u,h.get? b=KE u->h'.get? b=KE u):Un fs ex H H h h':=
 {λb c q _ _ _=>k b c q,λb c q _ _ _=>{c.slots,k b c q},λ_ _ _ n _=>n,λb c q _=>{c,k b c q},λ_ _ q=>q,λ_ _ _ q=>q,λ_ ps q=>{#[],by rw[q];simp}}
def Un.refl:Un fs ex H H h h:=Un.kept λ_ _ q=>q
def Un.laid (k:∀b u,h.get? b=KE u->h'.get? b=KE u)(hp:h.objs.size<=a)(hn:H a=MS):Un fs ex H (upd H a o) h h' where
 keep:=λb u q _ _ _=>k b u q
 slot:=λb u q _ _ _=>{u.slots,k b u q}
 free:=λb u q n _=>by rw[au (bN (bW (bA q) hp))];show n
 there:=λb u q _=>{u,k b u q}
 tups:=λb xs q=>by rw[au (bp q hn)];show q
 frzs:=λb u xs q=>by rw[au (bp q hn)];show q
 tbls:=λb ps q=>{#[],by rw[au (bp q hn),q];simp}
def Un.write (c:Mut (H x))(j:e=x\/H e=KE (.own x))(k:∀b u,b≠e->h.get? b=KE u->h'.get? b=KE u)(l:∃u,h'.get? e=KE u):Un fs ex H (upd H x o) h h':=by
 have f:∀b,H b=MS->b≠x:=λb n z=>(by subst z;rw[n]at c;show c);have g:∀b,H b=MS->b≠e:=λb n z=>by
  subst z;rcases j with r | r;{show f b n r};{rw[n]at r;cases r}
 have d:∀b u,H b=KE u->¬Mut (KE u)->b≠x:=λb u q nm z=>(by subst z;rw[q]at c;show nm c);show{λb u q n _ _=>k b u (g b n) q,λb u q n _ _=>{u.slots,k b u (g b n) q},λb u q n _=>by rw[au (f b n)];show n,λb u q _=>?_,λb xs q=>by rw[au (d b _ q λz=>z)];show q,λb u xs q=>by rw[au (d b _ q λz=>z)];show q,λb ps q=>{#[],by rw[au (d b _ q λz=>z),q];simp}};by_cases i:b=e;{subst i;show l};{show{u,k b u i q}}
end
def trk (h:MW)(H:Hp):DV:=(bG h.objs.size).filter λa=>(H a).isSome
def nq (h:MW)(H:Hp):MW:=PySem.W.hideAll h (trk h H)
def U8 (h:MW)(H:Hp):(nq h H).objs.size=h.objs.size:=PySem.W.hideAll_size _ _
def Cr (e:h.get? b=KE o)(n:H b=MS):(nq h H).get? b=KE o:=
 PySem.W.hideAll_get _ e λa=>by
  have q:(H b).isSome=MT:=(dE.mp a).2;rw[n]at q;simp at q
def Gf (e:(nq h H).get? b=KE o):h.get? b=KE o/\H b=MS:=by
 have a:h.get? b=KE o:=PySem.W.of_hideAll (trk h H) e;show{a,?_};cases q:H b with
 |none=>rfl
 |some x=>
  have c:b∈trk h H:=dE.mpr {bY.mpr (bA a),by simp[q]};have z:(nq h H).get? b=MS:=PySem.W.hideAll_none (trk h H) c;rw[z]at e;cases e
def aed (g h:MW)(L:MV):CW:=(bG h.objs.size).filterMap λa=>if a=L\/(g.get? a).isSome=MT then MS else (h.get? a).map λo=>(a,o)
def rest (g h:MW)(L d:MV):CW:=(aed g h L).filter λp=>decide (p.1≠d)
structure Mod (K:aE)(mg:Str->AK)(base:MW):Prop where
 kin:K.In base
 glob:base.Ns bF mg
 blt:∃mb,base.Ns vN mb/\∀x:Str,x≠"__name__"->mb x=fR x
 nolimit:base.NoLimit
structure Cx where
 p:aQ
 w:bC
 K:aE
 mg:Str->AK
 base:MW
 A:bU
 N:AZ
 s₀:aG
 H₀:Hp
 e:Env
 outer:List Env
 stack:List Env
 ex:DV
 fn:Str->Bool
 calm:Bool
 pn:CW
 xe:aL->aG->Prop
def frs (l:List Env):DV:=l.filterMap (·.frame)
abbrev Cx.fs (X:Cx):DV:=frs X.outer
def Vis (a:lS)(x:Str):Prop:=a.names.lookup x=KE .local\/a.names.lookup x=KE .cell\/a.names.lookup x=KE .free
def Loc (a:lS)(x:Str):Prop:=a.names.lookup x=KE .local\/a.names.lookup x=KE .cell
def Look (env:Env)(h:MW)(m:Str->AK)(x:Str)(u:aL):Prop:=
 (env.kindOf x=KE .local/\m x=KE u)\/((env.kindOf x=KE .cell\/env.kindOf x=KE .free)/\∃c,env.cells.lookup x=KE c/\h.IsCell c (KE u))
structure Cx.Ok (X:Cx):Prop where
 mod:Mod X.K X.mg X.base
 kind:X.e.scope.kind=.function
 glob:X.e.globals=bF
 blt:X.e.builtins=vN
 above:X.s₀.heap.objs.size<=X.e.locals
 inj:∀x y c,X.e.cells.lookup x=KE c->X.e.cells.lookup y=KE c->x=y
 has:∀x,(X.e.kindOf x=KE .cell\/X.e.kindOf x=KE .free)->∃c,X.e.cells.lookup x=KE c
 cab:∀x c,X.fn x=MT->X.e.cells.lookup x=KE c->X.s₀.heap.objs.size<=c
 hd:X.calm=MT->X.A.handled=MS
 frames:X.A.frames=KE X.stack
 stk:X.stack=X.outer\/(X.stack=X.e::X.outer/\X.e.frame=KE X.e.locals)
 exf:∀b∈X.ex,b≠X.e.locals/\∀x c,X.e.cells.lookup x=KE c->c≠b
 bs:∀b o,X.base.get? b=KE o->X.s₀.heap.get? b=KE o/\X.H₀ b=MS
 bsz:X.base.objs.size<=X.s₀.heap.objs.size
 noex:∀b o,X.base.get? b=KE o->b ∉ X.ex
 exfs:∀b∈X.ex,b ∉ X.fs
 funs:X.s₀.heap.FunFrames X.base X.outer
 frf:∀b∈X.fs,X.H₀ b=MS
structure Inv (X:Cx)(j':CW)(σ:List (Option V))(H:Hp)(s:aG):Prop where
 ok:X.Ok
 os:s.os=X.s₀.os
 bare:nO s.gens
 base:Un X.fs X.ex X.H₀ H X.s₀.heap s.heap
 loc:∃m,s.heap.Ns X.e.locals m/\∀(i:Nat)(x:Str) (v:V),X.N[i]?=KE x->σ[i]?=KE (KE v)->Vis X.e.scope x->∃u,RelV v u/\Look X.e s.heap m x u
 cell:∀x c,X.e.cells.lookup x=KE c->∃v,s.heap.IsCell c v
 free:H X.e.locals=MS
 freeC:∀x c,X.e.cells.lookup x=KE c->H c=MS
 pin:∀p∈X.pn++j',s.heap.get? p.1=KE p.2/\H p.1=MS/\p.1≠X.e.locals/\p.1 ∉ X.fs/\∀v,p.2.data≠.cell v
 hok:HOk X.p X.w H s.heap
 len:σ.length=X.N.length
section
variable {X:Cx}{j':CW}{σ:List (Option V)}{H H':Hp}{s:aG}{h':MW}
def Cx.Ok.nofr (ok:X.Ok){b:MV}{o:Obj}(e:X.base.get? b=KE o):b ∉ X.fs:=λa=>by
 have:=(ok.funs.mem a).1;rw[e]at this;cases this
theorem Inv.bs (I:Inv X j' σ H s):∀b o,X.base.get? b=KE o->s.heap.get? b=KE o/\H b=MS:=λb o e=>
 {I.base.keep b o (I.ok.bs b o e).1 (I.ok.bs b o e).2 (I.ok.nofr e) (I.ok.noex b o e),I.base.free b o (I.ok.bs b o e).1 (I.ok.bs b o e).2 (I.ok.noex b o e)}
def Inv.bk (I:Inv X j' σ H s):∀b o,X.base.get? b=KE o->s.heap.get? b=KE o:=λb o e=>(I.bs b o e).1
theorem Inv.mod (I:Inv X j' σ H s):Mod X.K X.mg X.base:=I.ok.mod
def Inv.kIn (I:Inv X j' σ H s):X.K.In s.heap:=I.ok.mod.kin.keeps I.bk
theorem Inv.lt (I:Inv X j' σ H s):X.e.locals<‹s›:=let ⟨_,a,_⟩:=I.loc;a.lt
def Inv.sz (I:Inv X j' σ H s):X.s₀.heap.objs.size<=‹s›:=aV I.ok.above (kW I.lt)
def Inv.nofs (I:Inv X j' σ H s){a:MV}(h:‹s›<=a):a ∉ X.fs:=λb=>by
 let{_,o,c,_}:=I.ok.funs.mem b;show NC (bW (bA c) (aV I.sz h)) (lP _)
def Inv.cne (I:Inv X j' σ H s):∀x c,X.e.cells.lookup x=KE c->c≠X.e.locals:=λx c e z=>by
 let{v,o,a,hd}:=I.cell x c e;let{m,{f,g,i,b,d,_},_}:=I.loc;rw[z,b]at a;cases a;rw[d]at hd;cases hd
theorem Inv.funs (I:Inv X j' σ H s):s.heap.FunFrames X.base X.outer:=by
 have all:∀(l:List Env),(∀b∈frs l,b∈X.fs)->X.s₀.heap.FunFrames X.base l->s.heap.FunFrames X.base l:=by
  intro l
  induction l with
  |nil=>intro _ _;trivial
  |cons env r g=>
   intro f i;let{hk,{L,o,a,j,m,hd},n}:=i;have c:L∈X.fs:=f L (by unfold frs;rw[iZ,a];show aR);let{p,e}:=I.base.slot L o m (I.ok.frf L c) c λz=>I.ok.exfs L z c;show{hk,{L,_,a,j,e,hd},g (λb d=>f b (by unfold frs;rw[iZ,a];show aP _ d)) n}
 show all X.outer (λ_ d=>d) I.ok.funs
theorem Inv.stack (I:Inv X j' σ H s):s.heap.FunFrames X.base X.stack:=by
 rcases I.ok.stk with e | ⟨e,a⟩;{rw[e];show I.funs};{rw[e];let{m,b,_}:=I.loc;show .cons (by rw[I.ok.kind];decide) a b ?_ I.funs;show mY (aV I.ok.bsz I.ok.above)}
def Inv.stkSub (I:Inv X j' σ H s):∀b∈frs X.stack,b∈X.e.locals::X.fs:=λb a=>by
 rcases I.ok.stk with e | ⟨e,c⟩;{rw[e]at a;show aP _ a};{rw[e]at a;unfold frs at a;rw[iZ,c]at a;show a}
def Inv.stkFree (I:Inv X j' σ H s):∀b∈frs X.stack,H b=MS:=λb hb=>by
 rcases aX.mp (I.stkSub b hb)with e | hb;{rw[e];show I.free};{let{_,o,a,_}:=I.ok.funs.mem hb;show I.base.free b o a (I.ok.frf b hb) λz=>I.ok.exfs b z hb}
def Inv.step {g':Array mE}{t':Nat}{d':Drawn}{ch:DV}(I:Inv X j' σ H s)
  (y:∀b∈ch,(b∈X.ex\/X.s₀.heap.objs.size<=b)/\b≠X.e.locals/\(∀x c,X.e.cells.lookup x=KE c->c≠b)/\∀p∈X.pn++j',p.1≠b)
  (keep:∀b o,b≠X.e.locals->b ∉ X.fs->b ∉ ch->s.heap.get? b=KE o->H b=MS->h'.get? b=KE o)
  (slot:∀b o,b≠X.e.locals->b∈X.fs->b ∉ ch->s.heap.get? b=KE o->H b=MS->∃G,h'.get? b=KE {o with slots:=G}) (free:∀b o,b ∉ ch->s.heap.get? b=KE o->H b=MS->H' b=MS)
  (there:∀b o,b ∉ ch->s.heap.get? b=KE o->∃A,h'.get? b=KE A)
  (tups:∀b xs,H b=KE (.tup xs)->H' b=KE (.tup xs)) (frzs:∀b o u,H b=KE (.frz o u)->H' b=KE (.frz o u)) (tbls:∀b ps,H b=KE (.tbl ps)->∃U,H' b=KE (.tbl (ps++U)))
  (ns:∀m,s.heap.Ns X.e.locals m->h'.Ns X.e.locals m) (hok:HOk X.p X.w H' h') (Y:nO g') :
  Inv X j' σ H' {s with heap:=h',gens:=g',drawn:=d',toks:=t'}:=by
 have L:∀b o,X.s₀.heap.get? b=KE o->b≠X.e.locals:=λb o e=>bN (bW (bA e) I.ok.above);have E:∀b o,X.s₀.heap.get? b=KE o->b ∉ X.ex->b ∉ ch:=λb o e a g=>by
  rcases(y b g).1 with z | z;{show a z};{show NC (bW (bA e) z) (lP _)}
 have N:∀x c,X.e.cells.lookup x=KE c->∀v,s.heap.IsCell c v->h'.IsCell c v:=λx c e v ⟨o,j,hd⟩=>by
  have C:c ∉ ch:=λz=>(y c z).2.2.1 x c e rfl;by_cases O:c∈X.fs;{let{G,q}:=slot c o (I.cne x c e) O C j (I.freeC x c e);show{_,q,hd}};{show{o,keep c o (I.cne x c e) O C j (I.freeC x c e),hd}}
 show{I.ok,I.os,Y,{λb o e n g a=>?_,λb o e n g a=>?_,λb o e n a=>?_,λb o e a=>?_,λb xs e=>tups b xs (I.base.tups b xs e),λb o xs e=>frzs b o xs (I.base.frzs b o xs e),λb ps e=>?_},?_,λx c e=>?_,?_,λx c e=>?_,λp Q=>?_,hok,I.len};{show keep b o (L b o e) g (E b o e a) (I.base.keep b o e n g a) (I.base.free b o e n a)};{let{G,f}:=I.base.slot b o e n g a;let{J,D}:=slot b _ (L b o e) g (E b o e a) f (I.base.free b o e n a);show#v[J,D]};{let{A,f}:=I.base.there b o e a;show free b A (E b o e a) f (I.base.free b o e n a)};{let{A,f}:=I.base.there b o e a;show there b A (E b o e a) f};{let{m1,f}:=I.base.tbls b ps e;let{m2,D}:=tbls b _ f;show{m1++m2,by rw[D,Array.append_assoc]}};{let{m,hn,hl}:=I.loc;show{m,ns m hn,λi x v f D e3=>?_};let{u,r,l}:=hl i x v f D e3;show{u,r,?_};rcases l with l | ⟨k,c,e,z⟩;{show .inl l};{show .inr {k,c,e,N x c e _ z}}}
 {let{v,z}:=I.cell x c e;show{v,N x c e v z}};{let{m,{o,_,_,j,_},_}:=I.loc;show free _ o (λz=>(y _ z).2.1 rfl) j I.free};{let{v,o,j,hd}:=I.cell x c e;show free c o (λz=>(y c z).2.2.1 x c e rfl) j (I.freeC x c e)};{let{e,n,ne,T,d}:=I.pin p Q;have C:p.1 ∉ ch:=λz=>(y p.1 z).2.2.2 p Q rfl;show{keep p.1 p.2 ne T C e n,free p.1 p.2 C e n,ne,T,d}}
def Inv.un {t':Nat}(I:Inv X j' σ H s)(u:Un X.fs [] H H' s.heap h')(hok:HOk X.p X.w H' h'):Inv X j' σ H' {s with heap:=h',toks:=t'}:=by
 let{m,{o,p,q,c,r},_}:=id I.loc;let{x,f}:=u.any c I.free ∅;show I.step (g':=s.gens) (d':=s.drawn) (ch:=[]) (λ_ z=>nomatch z) (λb o _ a _ e n=>u.keep b o e n a ∅) (λb o _ a _ e n=>u.slot b o e n a ∅) (λb o _ e n=>u.free b o e n ∅) (λb o _ e=>u.there b o e ∅) u.tups u.frzs u.tbls (λy g=>by
   let{A,i,j,d,l}:=g;rw[c]at d;cases d;show{_,i,j,f,l}) hok I.bare
def Inv.call {t':Nat}{ch:DV}(I:Inv X j' σ H s)(u:Un (frs X.stack) ch H H' s.heap h')(hok:HOk X.p X.w H' h')(j:nO g')
  (f:∀b∈ch,(b∈X.ex\/X.s₀.heap.objs.size<=b)/\b≠X.e.locals/\(∀x c,X.e.cells.lookup x=KE c->c≠b)/\∀p∈X.pn++j',p.1≠b) :
  Inv X j' σ H' {s with heap:=h',gens:=g',drawn:=d',toks:=t'}:=by
 let{m,{o,D,E,g,r},_}:=id I.loc;let{G,d}:=u.any g I.free λz=>(f _ z).2.1 rfl;show I.step (ch:=ch) f (λb o d l a e n=>u.keep b o e n (λz=>(aX.mp (I.stkSub b z)).elim d l) a) (λb o _ _ a e n=>u.any e n a) (λb o a e n=>u.free b o e n a) (λb o a e=>u.there b o e a) u.tups u.frzs u.tbls (λJ q=>by
   let{L,y,A,i,C}:=q;rw[g]at i;cases i;show{_,y,A,d,C}) hok j
def Inv.turned {t':Nat}(I:Inv X j' σ H s)(k:∀b o,b≠it->s.heap.get? b=KE o->h'.get? b=KE o)(g:H it=MS)(d:it≠X.e.locals)
  (i:it∈X.ex\/X.s₀.heap.objs.size<=it) (j:∀x c,X.e.cells.lookup x=KE c->c≠it) (l:∀p∈X.pn++j',p.1≠it):Inv X j' σ H {s with heap:=h',toks:=t'}:=by
 have f:∀b u,H b=KE u->b≠it:=λb u e z=>(by rw[z,g]at e;cases e);show I.step (g':=s.gens) (d':=s.drawn) (ch:=[it]) (λb w=>?_) (λb o _ _ a e _=>k b o (λz=>a (by simp[z])) e) (λb o _ _ a e _=>{o.slots,k b o (λz=>a (by simp[z])) e}) (λ_ _ _ _ n=>n)
  (λb o a e=>{o,k b o (λz=>a (by simp[z])) e}) (λ_ _ e=>e) (λ_ _ _ e=>e) (λb ps e=>{#[],by rw[e];simp}) (λm y=>?_) (λb u e=>?_) I.bare
 {have e:b=it:=(⇑w);subst e;show#v[i,d,j,l]};{let{o,A,C,D,r}:=y;show{o,A,C,k _ o (eT d) D,r}};{show(I.hok b u e).stay (λc v a q=>k c v ?_ q) (λ_ q=>q) λ_ _ q=>q;rcases a with z | z;{rw[z];show f b u e};{show f c _ z}}
def Inv.tok (I:Inv X j' σ H s)(t:Nat):Inv X j' σ H {s with toks:=t}:=I.un (h':=s.heap) (t':=t) Un.refl I.hok
theorem Inv.kept {t':Nat}(I:Inv X j' σ H s)(k:∀b u,s.heap.get? b=KE u->h'.get? b=KE u):Inv X j' σ H {s with heap:=h',toks:=t'}:=I.un (Un.kept k) (I.hok.kept k)
theorem Inv.laid {t':Nat}(I:Inv X j' σ H s)(k:∀b u,s.heap.get? b=KE u->h'.get? b=KE u)(c:‹s›<=a)(new:ObjOk X.p X.w (upd H a o) h' a o) :
  Inv X j' σ (upd H a o) {s with heap:=h',toks:=t'}:=I.un (Un.laid k c (I.hok.fresh c)) (I.hok.laid k c new)
theorem Inv.write {t':Nat}(I:Inv X j' σ H s)(a:Mut (H x))(c:e=x\/H e=KE (.own x))(k:∀b u,b≠e->s.heap.get? b=KE u->h'.get? b=KE u)(d:∃u,h'.get? e=KE u)
  (new:ObjOk X.p X.w (upd H x o) h' x o):Inv X j' σ (upd H x o) {s with heap:=h',toks:=t'}:=I.un (Un.write a c k d) (I.hok.write a c k d new)
def Inv.weak {a:List (Option V)}(I:Inv X j' σ H s)(b:a.length=σ.length)(w:∀(i:Nat) v,a[i]?=KE (KE v)->σ[i]?=KE (KE v)):Inv X j' a H s:=
 ⟨I.ok,I.os,I.bare,I.base,let ⟨m,c,d⟩:=I.loc;{m,c,λi x v e f g=>d i x v e (w i v f) g},I.cell,I.free,I.freeC,I.pin,I.hok,b.trans I.len⟩
def Inv.pins_of {a:CW}(I:Inv X j' σ H s)(h:∀p∈a,s.heap.get? p.1=KE p.2/\H p.1=MS/\p.1≠X.e.locals/\p.1 ∉ X.fs/\∀v,p.2.data≠.cell v):Inv X a σ H s:=
 {I.ok,I.os,I.bare,I.base,I.loc,I.cell,I.free,I.freeC,λp b=>(dF.mp b).elim (λz=>I.pin p (gF _ z)) (h p),I.hok,I.len}
def Cs {N:AZ}(hN:N.Nodup){i j:Nat}(a:N[i]?=KE x)(b:N[j]?=KE x):i=j:=by
 let{e,c}:=bZ.mp a;let{f,d}:=bZ.mp b;show(List.getElem_inj hN).mp (c.trans d.symm)
def Ih {E:aL->aG->Prop}{i:Nat}{Q:Unit->aG->Prop}(I:Inv X j' σ H s)(hN:X.N.Nodup)(hi:X.N[i]?=KE x)(l:Loc X.e.scope x)(r:RelV v u)
  (h:∀s',Inv X j' (σ.set i (KE v)) H s'->(∃a,fK a s.heap s'.heap/\(a=X.e.locals\/X.e.cells.lookup x=KE a))->Q Unit.unit s') (hf:autoParam (X.fn x=MT\/X.e.scope.names.lookup x=KE .local) XJ._auto_1):aJ M A (uK X.e x u) Q E s:=by
 let{m,T,hl}:=id I.loc;have EE:(X.e.scope.kind == .class||(X.e.scope.kind == .module&&X.e.locals != X.e.globals))=MU:=(by rw[I.ok.kind];rfl);have DI:i < σ.length:=(by rw[I.len];show(bZ.mp hi).1);have cne:=I.cne;have BR:∀{a:MV}{h':MW},(∃o,s.heap.get? a=KE o/\H a=MS)->fK a s.heap h'->HOk X.p X.w H h':=λ{a h'} ha f b ob e=>by
  let{_,_,DX}:=ha;show(I.hok b ob e).stay (λc L hc q=>(f.2 c ?_).trans q) (λ_ q=>q) λ_ _ q=>q;intro U;subst U;rcases hc with rfl | hc;{rw[DX]at e;cases e};{rw[DX]at hc;cases hc}
 rcases l with hk | hk
 ·show wpAny_storeName_local hk T (λh' CZ f=>?_) EE;let{oL,_,_,HK,_}:=id T;show h _ {I.ok,I.os,I.bare,{λb o e n D l=>?_,λb o e n D l=>?_,I.base.free,λb o e l=>?_,I.base.tups,I.base.frzs,I.base.tbls},{_,CZ,λj y Y g C e3=>?_},λy c e=>?_,I.free,I.freeC,λp hp=>?_,BR #v[oL,HK,I.free] f,by simpa using I.len} {_,f,.inl rfl};{show(f.2 b (bN (bW (bA e) I.ok.above))).trans (I.base.keep b o e n D l)};{let{sl,g}:=I.base.slot b o e n D l;show{sl,(f.2 b (bN (bW (bA e) I.ok.above))).trans g}};{let{o',g}:=I.base.there b o e l;show{o',(f.2 b (bN (bW (bA e) I.ok.above))).trans g}};{by_cases G:j=i;{subst G;rw[hi]at g;cases g;rw[dA DI]at C;cases C;show{u,r,.inl {hk,by simp}}};{rw[cZ (eT G)]at C;let{u',r',q}:=hl j y Y g C e3;show{u',r',?_};rcases q with⟨k,e⟩ | ⟨k,c,e,z⟩;{show .inl {k,?_};have:y≠x:=λe=>G (Cs hN g (e ▸ hi));simp[this,e]};{show .inr {k,c,e,z.sameBut f (cne y c e)}}}}
  {let{L,z}:=I.cell y c e;show{L,z.sameBut f (cne y c e)}};{let{e,n,ne,nf,d}:=I.pin p hp;show{(f.2 p.1 ne).trans e,n,ne,nf,d}}
 ·have IG:X.fn x=MT:=by
   rcases hf with z | z;{show z};{rw[z]at hk;cases hk}
  let{c,hc}:=I.ok.has x (.inl hk);let{L,z}:=I.cell x c hc;show wpAny_storeName_cell I.ok.kind hk hc z (λh' HL f=>?_);let{oc,KI,J}:=id z;show h {s with heap:=h'} {I.ok,I.os,I.bare,{λb o e n D l=>?_,λb o e n D l=>?_,I.base.free,λb o e l=>?_,I.base.tups,I.base.frzs,I.base.tbls},{m,T.sameBut f (eT (cne x c hc)),λj y Y g C e3=>?_},λy O e=>?_,I.free,I.freeC,λp hp=>?_,BR {oc,KI,I.freeC x c hc} f,by simpa using I.len} {c,f,.inr hc};{show(f.2 b (bN (bW (bA e) (I.ok.cab x c IG hc)))).trans (I.base.keep b o e n D l)};{let{sl,g}:=I.base.slot b o e n D l;show{sl,(f.2 b (bN (bW (bA e) (I.ok.cab x c IG hc)))).trans g}};{let{o',g}:=I.base.there b o e l;show{o',(f.2 b (bN (bW (bA e) (I.ok.cab x c IG hc)))).trans g}};{by_cases G:j=i;{subst G;rw[hi]at g;cases g;rw[dA DI]at C;cases C;show{u,r,.inr {.inl hk,c,hc,HL}}};{rw[cZ (eT G)]at C;let{u',r',q}:=hl j y Y g C e3;show{u',r',?_};rcases q with q | ⟨k,O,e,z'⟩;{show .inl q};{show .inr {k,O,e,z'.sameBut f ?_};intro U;subst U;show G (Cs hN g (I.ok.inj _ _ _ e hc ▸ hi))}}}
  {by_cases KJ:O=c;{subst KJ;show{_,HL}};{let{w2,z2}:=I.cell y O e;show{w2,z2.sameBut f KJ}}};{let{e,n,ne,nf,d}:=I.pin p hp;show{(f.2 p.1 ?_).trans e,n,ne,nf,d};intro q;rw[q,KI]at e;have q':oc=p.2:=bX e;show d L (by rw[<-q'];show J)}
def lh {M:Model}{A:bU}{E:aL->aG->Prop}{i:Nat}{x:Str}{v:V}{u:aL}{Q:Unit->aG->Prop}(I:Inv X j' σ H s)(hN:X.N.Nodup)(hi:X.N[i]?=KE x)(a:Loc X.e.scope x)(r:RelV v u)
  (h:∀s',Inv X j' (σ.set i (KE v)) H s'->Q Unit.unit s') (b:autoParam (X.fn x=MT\/X.e.scope.names.lookup x=KE .local) XJ._auto_1):aJ M A (uK X.e x u) Q E s:=
 Ih I hN hi a r (λs' c _=>h s' c) b
def Inv.call' {s':aG}(I:Inv X j' σ H s)(a:s'.os=s.os)(u:Un (frs X.stack) ch H H' s.heap s'.heap)(hok:HOk X.p X.w H' s'.heap)(d:nO s'.gens)
  (f:∀b∈ch,(b∈X.ex\/X.s₀.heap.objs.size<=b)/\b≠X.e.locals/\(∀x c,X.e.cells.lookup x=KE c->c≠b)/\∀p∈X.pn++j',p.1≠b):Inv X j' σ H' s':=by
 let{h',g',d',t',g}:=s';have e:g=s.os:=a;subst e;show I.call (g':=g') (t':=t') (d':=d') u hok d f
end
abbrev XK:=aL->Option MV->Hp->Prop
abbrev St:=List (Option V)
abbrev VK:=V->Hp->Prop
abbrev TE:=St->Hp->VK->Prop
abbrev TT:=St->Hp->(Bool->Hp->Prop)->Prop
abbrev TA:=St->Hp->(EX->Hp->Prop)->Prop
structure zr where
 nx:St->Hp->Prop
 rt:VK
 bk:St->Hp->Prop:=λ_ _=>False
 ct:St->Hp->Prop:=λ_ _=>False
abbrev TS:=zr->St->Hp->Prop
def EP (X:Cx)(a:CW)(b:St)(Q:VK)(u:aL)(s':aG):Prop:=∃v H',Inv X a b H' s'/\RelV v u/\Q v H'
def TP (X:Cx)(a:CW)(c:St)(Q:Bool->Hp->Prop)(b:Bool)(s':aG):Prop:=∃H',Inv X a c H' s'/\Q b H'
def AP (X:Cx)(a:CW)(b:St)(Q:EX->Hp->Prop)(us:AW)(s':aG):Prop:=∃vs H',Inv X a b H' s'/\Vals vs us/\Q vs H'
def SP (X:Cx)(b:CW)(D:zr)(f:Flow)(s':aG):Prop:=
 match f with
 | .next=>∃a H',Inv X b a H' s'/\D.nx a H'
 | .brk=>∃a H',Inv X b a H' s'/\D.bk a H'
 | .cont=>∃a H',Inv X b a H' s'/\D.ct a H'
 | .ret u=>∃v a H',Inv X b a H' s'/\RelV v u/\D.rt v H'
def PE (X:Cx)(e:MX)(t:TE):Prop:=
 ∀(b:CW)(s:aG) (a:St) (H:Hp) (Q:VK),Inv X b a H s->t a H Q->aJ (aT X.p X.w) X.A (eval e X.e) (EP X b a Q) X.xe s
def PT (X:Cx)(e:MX)(t:TT):Prop:=
 ∀(b:CW)(s:aG) (a:St) (H:Hp) (Q:Bool->Hp->Prop),Inv X b a H s->t a H Q->aJ (aT X.p X.w) X.A (tG e X.e (eval e X.e)) (TP X b a Q) X.xe s
def PW (X:Cx)(e:MX)(t:TT):Prop:=
 ∀(c:Sem aL)(b:CW) (s:aG) (a:St) (H:Hp) (Q:Bool->Hp->Prop),Inv X b a H s->t a H Q->aJ (aT X.p X.w) X.A (tG e X.e c) (TP X b a Q) X.xe s
def PW.pt (h:PW X e t):PT X e t:=h _
def PA (X:Cx)(c:CY)(t:TA):Prop:=
 ∀(pos:Pos)(b:CW) (s:aG) (a:St) (H:Hp) (Q:EX->Hp->Prop),Inv X b a H s->t a H Q->aJ (aT X.p X.w) X.A (spliced (eE pos (aO c X.e))) (AP X b a Q) X.xe s
def PS (X:Cx)(st:MY)(t:TS):Prop:=
 ∀(a:CW)(s:aG) (b:St) (H:Hp) (D:zr),Inv X a b H s->t D b H->aJ (aT X.p X.w) X.A (exec st X.e) (SP X a D) X.xe s
def PSs (X:Cx)(st:List MY)(t:TS):Prop:=
 ∀a s b H D,Inv X a b H s->t D b H->aJ (aT X.p X.w) X.A (execs st X.e) (SP X a D) X.xe s
def thn {b:Type}{t:Sem b}{Q c:b->aG->Prop}{M:Model}{A:bU}{E:aL->aG->Prop}{s:aG}(h:aJ M A t Q E s)(d:∀a s,Q a s->c a s):aJ M A t c E s:=dW h d λ_ _ x=>x
section
variable {X:Cx}
def Sf (i:Nat):TE:=λa H Q=>∃v,a[i]?=KE (KE v)/\Q v H
def tC (v:V):TE:=λ_ H Q=>Q v H
def t5 (hN:X.N[i]?=KE x)(d:Vis X.e.scope x)(hd:↑((x==("__debug__":Str))=MU))(f:↑((x==("__classdict__":Str))=MU)):PE X (.Name x pos) (Sf i):=by
 intro g s j H Q I h;let{v,e,h}:=h;let{m,n,p}:=I.loc;let{u,r,l}:=p i x v hN e d;have fin:EP X g j Q u s:=#v[v,H,I,r,h];rcases l with⟨hk,q⟩ | ⟨hk,c,a,b⟩;{show vO (wpAny_loadName_local I.ok.kind hk n q fin) hd};{rcases hk with hk | hk;{show vO (wpAny_loadName_cell I.ok.kind hk a b fin) hd};{show vO (wpAny_loadName_free I.ok.kind hk a b fin f) hd}}
def zt {i j pos}:PE X (.Constant (.int i) j pos) (tC (.int i)):=λ_ _ _ H _ I h=>wpAny_Constant_int {.int i,H,I.tok _,{_,rfl},h}
def acz:PE X (.Constant (.bool b) j pos) (tC (.bl b)):=λ_ _ _ H _ I h=>Constant_bool {.bl b,H,I,rfl,h}
def U9:PE X (.Constant .none j pos) (tC .non):=λ_ _ _ H _ I h=>Constant_none {.non,H,I,rfl,h}
def aia:PE X (.Constant (.str x) j pos) (tC (.str x)):=λ_ _ _ H _ I h=>Calls.Constant_str {.str x,H,I.tok _,{_,rfl},h}
def Gl (X:Cx)(x:Str):Prop:=X.e.kindOf x=KE .globalImplicit
def mj (I:Inv X c d H s)(a:Gl X x)(b:X.mg x=KE u)(h:Q u s)
  (hd:↑((x==("__debug__":Str))=MU)):aJ (aT X.p X.w) X.A (eval (.Name x pos) X.e) Q E s:=
 Calls.Name_function_global I.ok.kind a (Calls.loadGlobal_global (by rw[I.ok.glob];show I.mod.glob.keeps I.bk) b h) hd
def ny (I:Inv X g i H s)(a:Gl X x)(b:X.mg x=MS)(c:fR x=KE u)(h:Q u s)
  (d:↑(x≠"__name__")) (hd:↑((x==("__debug__":Str))=MU)):aJ (aT X.p X.w) X.A (eval (.Name x pos) X.e) Q E s:=by
 let{j,e,f}:=I.mod.blt;show Calls.Name_function_global I.ok.kind a (Calls.loadGlobal_builtin (by rw[I.ok.glob];show I.mod.glob.keeps I.bk) b (by rw[I.ok.blt];show e.keeps I.bk) ((f x d).trans c) h) hd
def rf (a:Gl X x)(b:X.mg x=KE u)(r:RelV v u)(hd:↑((x==("__debug__":Str))=MU)):PE X (.Name x pos) (tC v):=
 λ_ _ _ H _ I h=>mj I a b #v[v,H,I,r,h] hd
def Pl (a:Gl X x)(b:X.mg x=MS)(c:fR x=KE u)(r:RelV v u)(d:↑(x≠"__name__"))(hd:↑((x==("__debug__":Str))=MU)):PE X (.Name x pos) (tC v):=
 λ_ _ _ H _ I h=>ny I a b c #v[v,H,I,r,h] d hd
variable {a b:MX}{ta tb:TE}{pos:Pos}
def tB (t:TE):TT:=λd H Q=>t d H λx e=>∃c,x=.bl c/\Q c e
def Va {e:MX}(h:PE X e t)(f:autoParam (∀c,tG e X.e c=(do let v <-c;mL e.pos;jF [v] (truthy v))) XW._auto_1):PT X e (tB t):=by
 intro g s i H Q I hw;show isTrue_plain (thn (h g s i H _ I hw) λv r j=>?_) (f _);let{x,l,m,n,p}:=j;let{d,rfl,q}:=p;cases n;show iV #v[l,m,q]
variable {tA HM:TT}{rest:CY}
def tAnd (t u:TT):TT:=λd H Q=>t d H λc e=>if c=MT then u d e Q else Q MU e
def tOr (t u:TT):TT:=λd H Q=>t d H λc e=>if c=MT then Q MT e else u d e Q
def tNot (t:TT):TT:=λd H Q=>t d H λc e=>Q (!c) e
def aee (d:PT X a tA):PW X (.BoolOp .And [a] pos) tA:=by
 intro i f s g H Q I h;show isTrue_and (thn (d f s g H Q I h) λc j e=>?_);cases c with
 |true=>show isTrue_and_nil e
 |false=>show e
def Vb (d:PT X a tA):PW X (.BoolOp .Or [a] pos) tA:=by
 intro i f s g H Q I h;show isTrue_or (thn (d f s g H Q I h) λc j e=>?_);cases c with
 |false=>show isTrue_or_nil e
 |true=>show e
def aib (j:PT X a tA)(l:PW X (.BoolOp .And (b::rest) pos) HM):PW X (.BoolOp .And (a::b::rest) pos) (tAnd tA HM):=by
 intro m d s e H Q I h;show isTrue_and (thn (j d s e H _ I h) λc n p=>?_);let{f,g,i}:=p;cases c with
 |true=>show l m d n e f Q g i
 |false=>show#v[f,g,i]
def ada (j:PT X a tA)(l:PW X (.BoolOp .Or (b::rest) pos) HM):PW X (.BoolOp .Or (a::b::rest) pos) (tOr tA HM):=by
 intro m d s e H Q I h;show isTrue_or (thn (j d s e H _ I h) λc n p=>?_);let{f,g,i}:=p;cases c with
 |true=>show#v[f,g,i]
 |false=>show l m d n e f Q g i
def Kw (d:PT X a tA):PT X (.UnaryOp .Not a pos) (tNot tA):=by
 intro e s f H Q I h;show isTrue_not (d e s f H (λc g=>Q (!c) g) I h)
def tAndV (ta tb:TE):TE:=λd H Q=>ta d H λx e=>∃c,x=.bl c/\if c=MT then tb d e Q else Q (.bl MU) e
def tNotV (ta:TE):TE:=λd H Q=>ta d H λx e=>∃c,x=.bl c/\Q (.bl (!c)) e
def Vc (h:PE X a t):PE X (.BoolOp op [a] pos) t:=λc s d H Q I hw=>BoolOp_one (h c s d H Q I hw)
def Vd (j:PE X a ta)(l:PE X (.BoolOp .And (b::rest) pos) tb):PE X (.BoolOp .And (a::b::rest) pos) (tAndV ta tb):=by
 intro e s f H Q I h;show BoolOp_and (thn (j e s f H _ I h) λv m n=>?_);let{x,g,i,p,d}:=n;let{c,rfl,d}:=d;cases p;show iV ?_;cases c with
 |true=>show l e m f g Q i d
 |false=>show{.bl MU,g,i,rfl,d}
def aic (e:PE X a ta):PE X (.UnaryOp .Not a pos) (tNotV ta):=by
 intro f s g H Q I h;show UnaryOp_ (thn (e f s g H _ I h) λv n i=>?_);let{x,j,l,m,d}:=i;let{c,rfl,d}:=d;cases m;show not_of (iV {.bl (!c),j,l,rfl,d})
def tIf (t:TT)(ta tb:TE):TE:=λd H Q=>t d H λc e=>if c=MT then ta d e Q else tb d e Q
def Y5 {c:MX}(m:PT X c tA)(n:PE X a ta)(p:PE X b tb):PE X (.IfExp c a b pos) (tIf tA ta tb):=by
 intro e s f H Q I h;show wpAny_IfExp (thn (m e s f H _ I h) λd g q=>?_);let{i,j,l}:=q;cases d with
 |true=>show n e g f i Q j l
 |false=>show p e g f i Q j l
end
def SqL (K:aE)(H:Hp)(a:MV)(xs:EX):Prop:=
 Rd H a (.lst xs)\/
  ∃o its n,K.lookup a=KE o/\o.cls=.type "list"/\o.dict=MS/\o.data=.seq its n/\its.size<=sizeLine/\Vals xs its.toList
def SqT (K:aE)(H:Hp)(a:MV)(xs:EX):Prop:=
 Rd H a (.tup xs)\/
  ∃o its n,K.lookup a=KE o/\o.cls=.type "tuple"/\o.data=.seq its n/\its.size<=sizeLine/\Vals xs its.toList
def absV:aL->Option V
 | .none=>KE .non
 | .bool b=>KE (.bl b)
 | .int i _=>KE (.int i)
 | .str x _=>KE (.str x)
 | .bytes b _=>KE (.byt b)
 | .float b _=>KE (.flt b)
 | .ref a=>KE (.ref a)
 | .type n=>KE (.ty n)
 |_=>MS
def RelV.abs (r:RelV x u):absV u=KE x:=by
 cases x with
 |non=>cases r;rfl
 |bl _=>cases r;rfl
 |int _=>let{t,rfl}:=r;rfl
 |str _=>let{t,rfl}:=r;rfl
 |byt _=>let{t,rfl}:=r;rfl
 |flt _=>let{t,rfl}:=r;rfl
 |ref _=>cases r;rfl
 |ty _=>cases r;rfl
def RelV.inj {x y:V}{u:aL}(r:RelV x u)(q:RelV y u):x=y:=bX (r.abs.symm.trans q.abs)
theorem Vals.inj:∀{xs ys:EX}{us:AW},Vals xs us->Vals ys us->xs=ys
 |_,_,_,.nil,.nil=>rfl
 |_,_,_,.cons r t,.cons a t'=>by rw[r.inj a,Vals.inj t t']
section
variable {X:Cx}{j':CW}{σ:St}{H:Hp}{s:aG}{a:MV}{xs ys:EX}
def SqL.of {K:aE}(h:H a=KE (.lst xs)):SqL K H a xs:=.inl (.inl h)
def SqT.of {K:aE}(h:H a=KE (.tup xs)):SqT K H a xs:=.inl (.inl h)
def Inv.list (I:Inv X j' σ H s)(h:SqL X.K H a xs):∃its:AW,Vals xs its/\PlainL s.heap a its.toArray/\xs.length<=sizeLine:=by
 rcases h with h | ⟨o,its,n,hk,b,hd,c,hz,r⟩;{let{z,its,n,r,e}:=h.ok I.hok;show{its,r,{_,n,e,rfl,rfl,rfl},z}};{show{its.toList,r,{o,n,I.kIn a o hk,b,hd,by simpa using c},?_};have e:=r.length;simp only[gQ]at e;lia}
def Inv.tuple (I:Inv X j' σ H s)(h:SqT X.K H a xs):∃its:AW,Vals xs its/\sN s.heap a its.toArray/\xs.length<=sizeLine:=by
 rcases h with h | ⟨o,its,n,hk,b,c,hz,r⟩;{let{z,its,r,p}:=h.ok I.hok;show#v[its,r,p,z]};{show{its.toList,r,{o,I.kIn a o hk,b,n,by simpa using c},?_};have e:=r.length;simp only[gQ]at e;lia}
def Inv.list_inj (I:Inv X j' σ H s)(h:SqL X.K H a xs)(h':SqL X.K H a ys):xs=ys:=by
 let{its,r,{o,n,e,_,_,d},_}:=I.list h;let{its',c,{g,i,b,_,_,d'},_}:=I.list h';rw[e]at b;cases b;rw[d]at d';injection d' with f _;have:its=its':=(⇑(NG Array.toList f));subst this;show r.inj c
def Inv.tuple_inj (I:Inv X j' σ H s)(h:SqT X.K H a xs)(h':SqT X.K H a ys):xs=ys:=by
 let{its,r,{o,e,_,n,d},_}:=I.tuple h;let{its',c,{g,b,_,i,d'},_}:=I.tuple h';rw[e]at b;cases b;rw[d]at d';injection d' with f _;have:its=its':=(⇑(NG Array.toList f));subst this;show r.inj c
end
abbrev Cx.wish (X:Cx)(E:aL->aG->Prop):Cx:={X with xe:=E}
abbrev Cx.nox (X:Cx):Cx:=X.wish λ_ _=>False
theorem Cx.Ok.wish {X:Cx}(ok:X.Ok)(E:aL->aG->Prop):(X.wish E).Ok:=
 #v[ok.mod,ok.kind,ok.glob,ok.blt,ok.above,ok.inj,ok.has,ok.cab,ok.hd,ok.frames,ok.stk,ok.exf,ok.bs,ok.bsz,ok.noex,ok.exfs,ok.funs,ok.frf]
def Cx.Ok.unwish {X:Cx}{E:aL->aG->Prop}(ok:(X.wish E).Ok):X.Ok:=
 #v[ok.mod,ok.kind,ok.glob,ok.blt,ok.above,ok.inj,ok.has,ok.cab,ok.hd,ok.frames,ok.stk,ok.exf,ok.bs,ok.bsz,ok.noex,ok.exfs,ok.funs,ok.frf]
section
variable {X:Cx}{j':CW}{σ:St}{H:Hp}{s:aG}{E:aL->aG->Prop}
theorem Inv.wish (I:Inv X j' σ H s)(E:aL->aG->Prop):Inv (X.wish E) j' σ H s:={I.ok.wish E,I.os,I.bare,I.base,I.loc,I.cell,I.free,I.freeC,I.pin,I.hok,I.len}
theorem Inv.unwish (I:Inv (X.wish E) j' σ H s):Inv X j' σ H s:=#v[I.ok.unwish,I.os,I.bare,I.base,I.loc,I.cell,I.free,I.freeC,I.pin,I.hok,I.len]
theorem SP.unwish (h:SP (X.wish E) j' D f s'):SP X j' D f s':=by
 cases f with
 |next=>let{a,H',I,q}:=h;show#v[a,H',I.unwish,q]
 |brk=>let{a,H',I,q}:=h;show#v[a,H',I.unwish,q]
 |cont=>let{a,H',I,q}:=h;show#v[a,H',I.unwish,q]
 |ret u=>let{v,a,H',I,r,q}:=h;show#v[v,a,H',I.unwish,r,q]
theorem PSs.nox {st:List MY}(h:PSs X.nox st t):PSs X st t:=λj' s σ H D I hw=>
 dW (h j' s σ H D (I.wish _) hw) (λ_ _ q=>q.unwish) λ_ _ z=>eU z
end
section
variable {X:Cx}{st:MY}{rest:List MY}{t u:TS}{e:MX}{te:TE}{pos:Pos}
def tNext:TS:=λD a H=>D.nx a H
def tSeq (t u:TS):TS:=λD a H=>t {D with nx:=u D} a H
def Pn:PSs X [] tNext:=λ_ _ a H _ I h=>lT #v[a,H,I,h]
def jt (c:PS X st t)(d:PSs X rest u):PSs X (st::rest) (tSeq t u):=by
 intro b s g H D I h;show rR (thn (c b s g H {D with nx:=u D} I h) λf i q=>?_);cases f with
 |next=>
  let{a,H',j,q}:=q;show d b i a H' D j q
 |ret v=>show q
 |brk=>show q
 |cont=>show q
def rg (a:PS X st t):PSs X [st] t:=by
 intro b s c H D I h;show rR (thn (a b s c H D I h) λf d q=>?_);cases f with
 |next=>show lT q
 |ret v=>show q
 |brk=>show q
 |cont=>show q
def Inv.quiet {a:CW}{b:St}{H:Hp}{s:aG}(I:Inv X a b H s):interactive X.e=MU:=by simp[interactive,I.ok.kind]
def tDrop (te:TE):TS:=λD a H=>te a H λ_ b=>D.nx a b
def Po (b:PE X e te)(c:↥(jO e MS pos.line X.e=pure MU)):PS X (.Expr e pos) (tDrop te):=by
 intro d s a H D I h;show wpAny_Expr_any (thn (b d s a H _ I h) λv l f=>by let{x,g,i,m,j}:=f;show#v[a,g,i,j]) I.quiet c
def tRet (te:TE):TS:=λD a H=>te a H D.rt
def zu (b:PE X e te):PS X (.Return (KE e) pos) (tRet te):=by
 intro c s a H D I h;show wpAny_Return_some (thn (b c s a H _ I h) λv l d=>by let{x,f,g,i,j}:=d;show#v[x,a,f,g,i,j])
def tIfS (c:TT)(t u:TS):TS:=λD a H=>c a H λb d=>if b=MT then t D a d else u D a d
def Sg {a b:List MY}(n:PT X c p)(q:PSs X a t)(r:PSs X b u):PS X (.If c a b pos) (tIfS p t u):=by
 intro f s g H D I h;show wpAny_If (thn (n f s g H _ I h) λd i w=>?_);let{j,l,m}:=w;cases d with
 |true=>show q f i g j D l m
 |false=>show r f i g j D l m
end
abbrev TG:=V->St->Hp->(St->Hp->Prop)->Prop
abbrev TGs:=EX->St->Hp->(St->Hp->Prop)->Prop
def PG (X:Cx)(a:MX)(t:TG):Prop:=
 ∀c s d H v u Q,Inv X c d H s->RelV v u->t v d H Q->
  aJ (aT X.p X.w) X.A (oW a X.e u) (λ_ s'=>∃b H',Inv X c b H' s'/\Q b H') X.xe s
def PGs (X:Cx)(d:CY)(t:TGs):Prop:=
 ∀b s c H vs us Q,Inv X b c H s->Vals vs us->t vs c H Q->
  aJ (aT X.p X.w) X.A (assignInOrder ((oH d X.e).map (·.2)) us) (λ_ s'=>∃a H',Inv X b a H' s'/\Q a H') X.xe s
abbrev Sh:=V->V->V->Hp->(Hp->Prop)->Prop
def Si (X:Cx)(t:Sh):Prop:=
 ∀a s b H o i v c iv u Q,Inv X a b H s->RelV o c->RelV i iv->RelV v u->t o i v H Q->
  aJ (aT X.p X.w) X.A (vX c iv u) (λ_ s'=>∃H',Inv X a b H' s'/\Q H') X.xe s
abbrev TIp:=V->V->Hp->VK->Prop
def PIp (X:Cx)(op:Operator)(t:TIp):Prop:=
 ∀a s b H x y v u Q,Inv X a b H s->RelV x v->RelV y u->t x y H Q->
  aJ (aT X.p X.w) X.A (inplaceOp op v u) (EP X a b Q) X.xe s
section
variable {X:Cx}{pos:Pos}
def Ba (i:Nat):TG:=λv a H Q=>Q (a.set i (KE v)) H
def uy (hN:X.N.Nodup)(hi:X.N[i]?=KE x)(a:Loc X.e.scope x)(b:autoParam (X.fn x=MT\/X.e.scope.names.lookup x=KE .local) XJ._auto_1):PG X (.Name x pos) (Ba i):=by
 intro d s e H v u Q I r h;show wpAny_assign_Name (lh I hN hi a r (λs' c=>{_,H,c,h}) b)
def Y6:TGs:=λvs a H Q=>vs=[]/\Q a H
def Kl (t:TG)(u:TGs):TGs:=λvs b H Q=>∃v r,vs=v::r/\t v b H λa H'=>u r a H' Q
def Pp:PGs X [] Y6:=by
 intro b s a H vs us Q I r h;let{e,h}:=h;subst e;cases r;show assignInOrder_nil #v[a,H,I,h]
def yp {a:CY}(d:PG X e t)(f:PGs X a u)
  (g:↥((oH (e::a) X.e).map (·.2)=oW e X.e::(oH a X.e).map (·.2))):PGs X (e::a) (Kl t u):=by
 intro c s i H vs us Q I r h;let{v,x,j,h}:=h;subst j;cases r with
 |cons r l=>
  rw[g];show assignInOrder_cons (thn (d c s i H _ _ _ I r h) λ_ m n=>?_);let{b,p,q,w}:=n;show f c m b p _ _ Q q l w
def gTup (K:aE)(n:Nat)(t:TGs):TG:=λv b H Q=>∃a xs,v=.ref a/\SqT K H a xs/\xs.length=n/\t xs b H Q
def Ve (i:X.calm=MT)(h:PGs X c t)
  (j:↥((oH c X.e).length=n)) (l:↥((oH c X.e).findIdx? (·.1)=MS)):PG X (.Tuple c k pos) (gTup X.K n t):=by
 intro d s f H v u Q I r hw;let{a,xs,m,p,q,hw}:=hw;subst m;cases r;let{its,g,w,hz}:=I.tuple p;show assign_Tuple_tuple (I.ok.hd i) w (by simp[j,<-q,g.length]) l λh' x=>?_;have y:Inv X d f H {s with heap:=h'}:=I.kept (t':=s.toks) λb o e=>x b o (bN (bA e)) e;show h d _ f H xs _ Q y (⇑g) hw
def gSub (to b:TE)(t:Sh):TG:=λv a H Q=>to a H λo c=>b a c λi d=>t o i v d λe=>Q a e
def Vf {o i:MX}{to e:TE}{t:Sh}(f:PE X o to)(hi:PE X i e)(g:Si X t)
  (j:∀v,oW (.Subscript o i pos) X.e v=(do
    let a <-jF [v] (eval o X.e)
    let iv <-jF [v,a] (eval i X.e)
    mL pos
    jF [v,a,iv] (vX a iv v)
    release [v,a,iv] []):=by intro _;rfl):PG X (.Subscript o i pos) (gSub to e t):=by
 intro d s c H v u Q I r h;rw[j];show aA (gK (thn (f d s c H _ I h) λa l b=>?_));let{x,m,n,p,q}:=b;show aA (gK (thn (hi d l c m _ n q) λiv w b=>?_));let{y,z,I2,A,C}:=b;show aA (lQ (aA (gK (thn (g d w c z x y v a iv u _ I2 p A r C) λ_ J b=>?_))));let{D,E,G}:=b;show wpAny_release #v[c,D,E,G]
def Y7 (te:TE)(g:TG):TS:=λD a H=>te a H λx b=>g x a b D.nx
def Vg {a e:MX}{te:TE}{g:TG}(d:PE X e te)(f:PG X a g)(i:↥(swapsWithSole [a] e pos.line X.e=pure MU))(hw:↥(swappedStores [a] e X.e=pure MS))
  (j:↥((oH [a] X.e).map (·.2)=[oW a X.e])):PS X (.Assign [a] e pos) (Y7 te g):=by
 intro b s c H D I h;show wpAny_Assign_stores (thn (d b s c H _ I h) λv l m=>?_) i hw;let{x,n,p,r,u}:=m;rw[j];show thn (f b l c n x v _ p r u) λ_ w q=>q
def Ee {i:Nat}{x:Str}{e:MX}{te:TE}{a:Pos}(hN:X.N.Nodup)(hi:X.N[i]?=KE x)(b:Loc X.e.scope x)(c:PE X e te)(d:↥(jO e (KE (.Name x a)) pos.line X.e=pure MU))(f:autoParam (X.fn x=MT\/X.e.scope.names.lookup x=KE .local) XJ._auto_1) :
  PS X (.Assign [.Name x a] e pos) (Y7 te (Ba i)):=by
 intro g s j H D I h;show wpAny_Assign_Name (thn (c g s j H _ I h) λv r l=>?_) d;let{y,m,n,p,q}:=l;show lh n hN hi b p (λu I2=>{_,m,I2,q}) f
def tAug (i:Nat)(te:TE)(b:TIp):TS:=λD a H=>∃x,a[i]?=KE (KE x)/\te a H λy c=>b x y c λz d=>D.nx (a.set i (KE z)) d
def Vh {i:Nat}(hN:X.N.Nodup)(hi:X.N[i]?=KE x)(d:Loc X.e.scope x)(p:PE X e te)(q:PIp X op C)(E:autoParam (X.fn x=MT\/X.e.scope.names.lookup x=KE .local) XJ._auto_1) :
  PS X (.AugAssign (.Name x yD) op e pos) (tAug i te C):=by
 intro f s n H D I h;let{v,G,h}:=h;let{m,J,L}:=I.loc;have g:Vis X.e.scope x:=(by rcases d with k | k;show .inl k;show .inr (.inl k));let{u,r,l}:=L i x v hi G g;show wpAny_AugAssign_Name ?_;have go:aJ (aT X.p X.w) X.A (eval e X.e) (λw a=>aJ (aT X.p X.w) X.A (inplaceOp op u w) (λr b=>aJ (aT X.p X.w) X.A (uK X.e x r) (λ_=>SP X f D .next) X.xe b) X.xe a) X.xe s:=by
  show thn (p f s n H _ I h) λw O j=>?_;let{y,Q,T,U,Y}:=j;show thn (q f O n Q v y u w _ T r U Y) λz s2 j=>?_;let{zv,H2,I2,r2,q2}:=j;show lh I2 hN hi d r2 (λs3 I3=>{_,H2,I3,q2}) E
 rcases l with⟨hk,hm⟩ | ⟨hk,c,hc,BS⟩;{show wpAny_loadName_local I.ok.kind hk J hm go};{rcases hk with hk | hk;{show wpAny_loadName_cell I.ok.kind hk hc BS go};{rcases d with k | k;{have:X.e.scope.names.lookup x=KE .free:=hk;rw[k]at this;cases this};{have:X.e.scope.names.lookup x=KE .free:=hk;rw[k]at this;cases this}}}
def ipI (f:Int->Int->Int):TIp:=λx y H Q=>∃i j,x=.int i/\y=.int j/\Q (.int (f i j)) H
def aif (c:TT)(g:TS):TS:=λD a H=>∃W:Nat->St->Hp->Prop,(∃m,W m a H)/\∀m a H,W m a H->
 c a H λb e=>if b=MT then ∃N:St->Hp->Prop,(∀d H',N d H'->∃f,f<m/\W f d H')/\g {D with nx:=N,ct:=N,bk:=D.nx} a e else D.nx a e
def Y8 {body:List MY}(x:sP (aT X.p X.w) X.A X.e X.xe)(C:PT X c E)(G:PSs X body J):PS X (.While c body [] pos) (aif E J):=by
 intro l s L H D I h;let{W,{O,Q},turn}:=h;show wpAny_While (codeAny_whileLoop (λn s'=>∃e H',Inv X l e H' s'/\W n e H') ?_ O #v[L,H,I,Q]);intro n T U;let{d,y,Y,w1}:=U;show kA x (thn (C l T d y _ Y (turn n d y w1)) λb s2 wD=>?_);let{z,I2,i}:=wD;cases b with
 |true=>
  let{N,hN,i}:=i;rw[MZ rfl];show kA x (thn (G l s2 d z _ I2 i) λf s3 j=>?_);cases f with
  |next=>
   let{a,g,m,p}:=j;let{q,r,u}:=hN a g p;show#v[q,r,a,g,m,u]
  |cont=>
   let{a,g,m,p}:=j;let{q,r,u}:=hN a g p;show#v[q,r,a,g,m,u]
  |brk=>show j
  |ret v=>show j
 |false=>
  rw[M' aY];show lT #v[d,z,I2,i]
end
structure It where
 go:Nat->Hp->Prop
 yld:Nat->Hp->V->Hp->Prop
 stop:Nat->Hp->Prop
def kq (X:Cx)(a:CW)(H:Hp)(b:MV):Prop:=
 H b=MS/\b≠X.e.locals/\b ∉ X.fs/\(b∈X.ex\/X.s₀.heap.objs.size<=b)/\(∀x c,X.e.cells.lookup x=KE c->c≠b)/\∀p∈X.pn++a,p.1≠b
def Inv.fpOk (I:Inv X d i H s)(a:‹s›<=b)(f:H' b=MS):kq X d H' b:=by
 show{f,fZ (bW I.lt a),I.nofs a,.inr (aV I.sz a),λx c e z=>?_,λp g z=>?_};{let{v,q}:=I.cell x c e;show NC (bW q.lt (by rw[z];show a)) (lP _)};{show NC (bW (bA (I.pin p g).1) (by rw[z];show a)) (lP _)}
structure zw (P:aQ)(w:bC)(K:aE)(tg:MX)(J:It)(fp:DV)(it:MV)(tn:Nat->MW->Prop):Prop where
 mem:it∈fp
 obj:∀i h,tn i h->∀b∈fp,∃o,h.get? b=KE o/\∀v,o.data≠.cell v
 keep:∀i h h',tn i h->(∀b∈fp,∀o,h.get? b=KE o->h'.get? b=KE o)->tn i h'
 item:∀X,X.p=P->X.w=w->X.K=K->X.calm=MT->∀i j' s σ H E,Inv X j' σ H s->(∀b∈fp,kq X j' H b)->tn i s.heap->J.go i H->
  aJ (aT P w) X.A (nG (.ref it)) (λr s1=>∃u,r=KE u/\aJ (aT P w) X.A (pP tg (.ref it) u) (λ_ s2=>∃x H',Inv X j' σ H' s2/\RelV x u/\J.yld i H x H'/\tn (i+1) s2.heap/\∀b∈fp,H' b=MS) E s1) E s
 done:∀X,X.p=P->X.w=w->X.K=K->X.calm=MT->∀i j' s σ H E,Inv X j' σ H s->(∀b∈fp,kq X j' H b)->tn i s.heap->J.stop i H->
  aJ (aT P w) X.A (nG (.ref it)) (λr s1=>r=MS/\Inv X j' σ H s1) E s
 self:∀A i s Q E,tn i s.heap->Q (.ref it) s->aJ (aT P w) A (pyIter (.ref it)) Q E s
abbrev TI:=St->Hp->(It->Hp->Prop)->Prop
def PIE (X:Cx)(a:CW)(f:St)(g:MX)(R:It->Hp->Prop)(i:aL)(c:aG):Prop:=
 ∃it d e J H',i=.ref it/\Inv X a f H' c/\zw X.p X.w X.K g J d it e/\e 0 c.heap/\(∀b∈d,kq X a H' b)/\R J H'
def PI (X:Cx)(c iter:MX)(d:TI):Prop:=
 ∀b s a H R,Inv X b a H s->d a H R->
  aJ (aT X.p X.w) X.A (eval iter X.e) (λv e=>aJ (aT X.p X.w) X.A (pyIter v) (PIE X b a c R) X.xe e) X.xe s
def Ef (b:s.heap.get? it=KE o)(c:o.cls=.type n)(hd:o.data=.fields vs)
  (d:["enumerate","zip","dict_itemiterator","dict_reverseitemiterator","odict_iterator","itertools.zip_longest","itertools.pairwise"].contains n=MU) (a:Q Unit.unit s):aJ M A (pP e (.ref it) u) Q E s:=by
 unfold pP;cases e<;>first
  |show WQ a
  | (cases u<;>first
      |show WQ a
      | (show aA (wpAny_load b ?_)
         rw[c,hd];change aJ M A (if (["enumerate","zip","dict_itemiterator","dict_reverseitemiterator","odict_iterator","itertools.zip_longest","itertools.pairwise"].contains n&&vs[0]? == KE (jC _))=MT then _ else _) Q E s
         rw[M' (by intro h;rw[d,Bool.false_and]at h;cases h)];show WQ a))
def Itl (K:aE)(a:MV):It:=
 {λi H=>∃xs x,SqL K H a xs/\xs[i]?=KE x,λi H x H'=>H'=H/\∀xs,SqL K H a xs->xs[i]?=KE x,λi H=>∃xs,SqL K H a xs/\xs.length<=i}
def Itt (K:aE)(a:MV):It:=
 {λi H=>∃xs x,SqT K H a xs/\xs[i]?=KE x,λi H x H'=>H'=H/\∀xs,SqT K H a xs->xs[i]?=KE x,λi H=>∃xs,SqT K H a xs/\xs.length<=i}
def Itr (lo:Int)(n:Nat):It:={λi _=>i<n,λi H x H'=>H'=H/\x=.int (lo+i),λi _=>n<=i}
def Vi {P:aQ}{w:bC}{K:aE}{tg:MX}(a it:MV):zw P w K tg (Itl K a) [it] it (λi h=>h.IsListIter it a i) where
 mem:=by simp
 obj:=λi h st b hb=>by
  have e:b=it:=(⇑hb);subst e;let{o,e,c,d}:=st;show{o,e,λv z=>by rw[d]at z;cases z}
 keep:=λi h h' st k=>st.at λo e=>k it ∅ o e
 item:=by
  intro X hP hw hK hc i j' s σ H E I hf st hg;subst hP hw hK;let{xs,x,hq,hx}:=hg;let{its,rv,p,hz}:=I.list hq;let{u,hu,ru}:=rv.get hx;let{f0,f1,f2,f3,f4,f5}:=hf it ∅;show wpAny_pyNext_list_item st p.isList (x:=u) (⇑hu) λh' AH sb=>?_;have I1:Inv X j' σ H {s with heap:=h'}:=I.turned (t':=s.toks) (λb o hb e=>(sb.2 b hb).trans e) f0 f1 f3 f4 f5;let{o,e,c,d}:=id AH;show⟨u,rfl,Ef (s:={s with heap:=h'}) e c d #v[] {x,H,I1,ru,{rfl,λys hy=>by rw[I.list_inj hy hq];show hx},AH,λb hb=>(hf b hb).1}⟩
 done:=by
  intro X hP hw hK hc i j' s σ H E I hf st hg;subst hP hw hK;let{xs,hq,hx}:=hg;let{its,rv,p,hz}:=I.list hq;let{f0,f1,f2,f3,f4,f5}:=hf it ∅;have hl:=rv.length;show wpAny_pyNext_list_end (I.ok.hd hc) st p.isList (by simp;lia) λh' eb=>{rfl,I.turned (t':=s.toks) (λb o hb e=>eb b o hb e) f0 f1 f3 f4 f5}
 self:=λ_ _ _ _ _ st h=>wpAny_pyIter_listiter st h
def Sj {P:aQ}{w:bC}{K:aE}{tg:MX}(a it:MV):zw P w K tg (Itt K a) [it] it (λi h=>h.IsTupleIter it a i) where
 mem:=by simp
 obj:=λi h st b hb=>by
  have e:b=it:=(⇑hb);subst e;let{o,e,c,d}:=st;show{o,e,λv z=>by rw[d]at z;cases z}
 keep:=λi h h' st k=>st.at λo e=>k it ∅ o e
 item:=by
  intro X hP hw hK hc i j' s σ H E I hf st hg;subst hP hw hK;let{xs,x,hq,hx}:=hg;let{its,rv,p,hz}:=I.tuple hq;let{u,hu,ru}:=rv.get hx;let{f0,f1,f2,f3,f4,f5}:=hf it ∅;show wpAny_pyNext_tuple_item st (show s.heap.IsTuple a its.toArray from p) (x:=u) (⇑hu) λh' AH sb=>?_;have I1:Inv X j' σ H {s with heap:=h'}:=I.turned (t':=s.toks) (λb o hb e=>(sb.2 b hb).trans e) f0 f1 f3 f4 f5;let{o,e,c,d}:=id AH;show⟨u,rfl,Ef (s:={s with heap:=h'}) e c d #v[] {x,H,I1,ru,{rfl,λys hy=>by rw[I.tuple_inj hy hq];show hx},AH,λb hb=>(hf b hb).1}⟩
 done:=by
  intro X hP hw hK hc i j' s σ H E I hf st hg;subst hP hw hK;let{xs,hq,hx}:=hg;let{its,rv,p,hz}:=I.tuple hq;let{f0,f1,f2,f3,f4,f5}:=hf it ∅;have hl:=rv.length;show wpAny_pyNext_tuple_end (I.ok.hd hc) st (show s.heap.IsTuple a its.toArray from p) (by simp;lia) λh' eb=>{rfl,I.turned (t':=s.toks) (λb o hb e=>eb b o hb e) f0 f1 f3 f4 f5}
 self:=λ_ _ _ _ _ st h=>wpAny_pyIter_tupleiter st h
def Sk {P:aQ}{w:bC}{K:aE}{tg:MX}(it:MV)(lo:Int)(n:Nat):zw P w K tg (Itr lo n) [it] it (λi h=>sW h it (lo+(i:Nat)*1) ((n:Int)-(i:Nat)) 1) where
 mem:=by simp
 obj:=λi h st b hb=>by
  have e:b=it:=(⇑hb);subst e;show⟨_,st,λv z=>by
    have z':sX _=qW v:=z;cases z'⟩
 keep:=λi h h' st k=>k it ∅ _ st
 item:=by
  intro X hP hw hK hc i j' s σ H E I hf st hg;subst hP hw hK;let{f0,f1,f2,f3,f4,f5}:=hf it ∅;have W:=Walks.range (prog:=X.p) (w:=X.w) (I.ok.hd hc) it lo 1 n;show W.item i s _ _ hg st λv h' tk hv AH kk=>?_;let{t,rfl}:=hv;have I1:Inv X j' σ H {s with heap:=h',toks:=tk}:=I.turned (λb o hb e=>kk b o (⇑hb) e) f0 f1 f3 f4 f5;show⟨_,rfl,Ef (s:={s with heap:=h',toks:=tk}) (n:="range_iterator") AH rfl rfl #v[] {.int (lo+i),H,I1,{t,?_},#v[rfl,rfl],AH,λb hb=>(hf b hb).1}⟩;rw[Int.mul_one]
 done:=by
  intro X hP hw hK hc i j' s σ H E I hf st hg;subst hP hw hK;let{f0,f1,f2,f3,f4,f5}:=hf it ∅;show wpAny_pyNext_range_end (I.ok.hd hc) st (by have:n<=i:=hg;lia) λh' eb=>{rfl,I.turned (t':=s.toks) (λb o hb e=>eb b o hb e) f0 f1 f3 f4 f5}
 self:=λ_ _ _ _ _ st h=>wpAny_pyIter_rangeiter st h
section
variable {X:Cx}{tg:MX}
def iList (K:aE)(c:TE):TI:=λd H R=>c d H λx b=>∃a,x=.ref a/\(∃xs,SqL K b a xs)/\R (Itl K a) b
def iTup (K:aE)(c:TE):TI:=λd H R=>c d H λx b=>∃a,x=.ref a/\(∃xs,SqT K b a xs)/\R (Itt K a) b
def aef {l:MX}{f:TE}(g:PE X l f):PI X tg l (iList X.K f):=by
 intro i s j H R I h;show thn (g i s j H _ I h) λv c m=>?_;let{x,n,d,r,u}:=m;let{a,e,{xs,w},q}:=u;subst e;cases r;let{its,z,p,hz}:=d.list w;show eN p.isList ?_;show{‹c›,[‹c›],_,_,n,rfl,d.kept (t':=c.toks) λb o e=>aF _ e,Vi a _,{_,bK _ rfl,rfl,rfl},λb y=>?_,q};have e:b=‹c›:=(⇑y);subst e;show d.fpOk (aI _) (d.hok.fresh (aI _))
def aih {l:MX}{f:TE}(g:PE X l f):PI X tg l (iTup X.K f):=by
 intro i s j H R I h;show thn (g i s j H _ I h) λv c m=>?_;let{x,n,d,r,u}:=m;let{a,e,{xs,w},q}:=u;subst e;cases r;let{its,z,p,hz}:=d.tuple w;show gD (show c.heap.IsTuple a its.toArray from p) ?_;show{‹c›,[‹c›],_,_,n,rfl,d.kept (t':=c.toks) λb o e=>aF _ e,Sj a _,{_,bK _ rfl,rfl,rfl},λb y=>?_,q};have e:b=‹c›:=(⇑y);subst e;show d.fpOk (aI _) (d.hok.fresh (aI _))
def Kx {a:CW}{s:aG}{R:It->Hp->Prop}{E:aL->aG->Prop}{lo hi:Int}{c:Nat}(I:Inv X a f H s)(g:-(2 ^ 62)<=lo)(i:lo<2 ^ 62)(j:-(2 ^ 62)<=hi)(l:hi<2 ^ 62)
  (q:R (Itr lo (hi-lo).toNat) H):aJ (aT X.p X.w) X.A (pyIter (.ref ‹s›)) (PIE X a f tg R) E {s with heap:=s.heap.push {cls:=.type "range",data:=.fields #[.int lo t,.int hi u,.int 1 v]},toks:=c}:=by
 show wpAny_pyIter_range (IsRange.new ..) (small_one g i j l) ?_;have d:Inv X a f H {s with heap:=s.heap.push {cls:=.type "range",data:=.fields #[.int lo t,.int hi u,.int 1 v]},toks:=c}:=I.kept λb o e=>aF _ e;show{(s.heap.push {cls:=.type "range",data:=.fields #[.int lo t,.int hi u,.int 1 v]}).objs.size,[(s.heap.push {cls:=.type "range",data:=.fields #[.int lo t,.int hi u,.int 1 v]}).objs.size],_,_,H,rfl,d.kept (t':=c) λb o e=>aF _ e,Sk _ lo (hi-lo).toNat,?_,λb m=>?_,q};{have n:lo+((0:Nat):Int)*1=lo:=∅;have p:(((hi-lo).toNat:Nat):Int)-((0:Nat):Int)=lH lo hi 1:=(by rw[rangeSize_one];split<;>lia);change sW _ _ (lo+((0:Nat):Int)*1) ((((hi-lo).toNat:Nat):Int)-((0:Nat):Int)) 1;rw[n,p];show bK _ rfl};{have e:b=(s.heap.push {cls:=.type "range",data:=.fields #[.int lo t,.int hi u,.int 1 v]}).objs.size:=(⇑m);subst e;show d.fpOk (aI _) (d.hok.fresh (aI _))}
def iRng1 (a:TA):TI:=λb H R=>a b H λvs c=>∃j:Int,vs=[.int j]/\-(2 ^ 62)<=j/\j<2 ^ 62/\R (Itr 0 j.toNat) c
def iRng2 (a:TA):TI:=λb H R=>a b H λvs c=>∃i j:Int,vs=[.int i,.int j]/\(-(2 ^ 62)<=i/\i<2 ^ 62/\-(2 ^ 62)<=j/\j<2 ^ 62)/\R (Itr i (j-i).toNat) c
def Vj {a:MX}{c:TA}{p pos:Pos}(d:Gl X "range")(f:X.mg "range"=MS)(g:PA X [a] c)(i:↥(aO [a] X.e=[(MU,eval a X.e)])):PI X tg (.Call (.Name "range" p) [a] [] pos) (iRng1 c):=by
 intro l s m H R I h;show Call_ (ny I d f vP (fP (thn (g pos l s m H _ I h) λus z n=>?_) i rfl));let{vs,A,u,w,b}:=n;let{j,e,b,x,q}:=b;subst e;cases w with
 |cons r y=>
  cases y;let{t,rfl}:=r;show call_range_1 (Kx u () () b x (⇑q))
def Vk (g:Gl X "range")(l:X.mg "range"=MS)(m:PA X [a,b] n)(u:↥(aO [a,b] X.e=[(MU,eval a X.e),(MU,eval b X.e)]))(f:↥(aO [b] X.e=[(MU,eval b X.e)])) :
  PI X tg (.Call (.Name "range" p) [a,b] [] pos) (iRng2 n):=by
 intro w s x H R I h;show Call_ (ny I g l vP (fP (thn (m pos w s x H _ I h) λus G ⟨vs,J,y,z,c⟩=>?_) (by rw[u,f]) (by rw[f];rfl)));let{i,j,e,{c,A,C,D},q}:=c;subst e;cases z with
 |cons r d=>
  cases d with
  |cons E d=>
   cases d;let{t,rfl}:=r;let{t',rfl}:=E;show call_range_2 (Kx y c A C D q)
def tFor (e:TI)(g:TG)(f:TS):TS:=λD a H=>e a H λJ j=>∃W:Nat->Nat->St->Hp->Prop,(∃m,W 0 m a j)/\∀i m a H,W i m a H->
 (J.stop i H/\D.nx a H)\/(J.go i H/\∃N:St->Hp->Prop,(∀b H',N b H'->∃d,d<m/\W (i+1) d b H')/\∀x H',J.yld i H x H'->g x a H' λc l=>f {D with nx:=N,ct:=N,bk:=D.nx} c l)
def yc (a:DV)(h:MW):CW:=a.filterMap λb=>(h.get? b).map λo=>(b,o)
def mq (a:b∈c)(e:h.get? b=KE o):(b,o)∈yc c h:=List.mem_filterMap.mpr {b,a,by rw[e];rfl}
def Vl (a:p∈yc c h):p.1∈c/\h.get? p.1=KE p.2:=by
 let{b,d,e}:=qX.mp a;cases q:h.get? b with
 |none=>rw[q]at e;cases e
 |some o=>
  rw[q]at e;have f:(b,o)=p:=bX e;subst f;show#v[d,q]
def Inv.pinned (I:Inv X a i H s)(j:∀b∈c,kq X a H b)(l:∀b∈c,∃o,s.heap.get? b=KE o/\∀v,o.data≠.cell v):Inv X (a++yc c s.heap) i H s:=
 I.pins_of λp m=>(dF.mp m).elim (λz=>I.pin p (cG _ z)) λz=>by
  let{f,e}:=Vl z;let{n,q,r,_}:=j p.1 f;let{o,g,d}:=l p.1 f;rw[e]at g;cases g;show#v[e,n,q,r,d]
def Inv.unpinned (I:Inv X (a++pl) b H s):Inv X a b H s:=I.pins_of λp c=>I.pin p (cG _ (gF _ c))
def Vm (E:sP (aT X.p X.w) X.A X.e X.xe)(hc:X.calm=MT)(hi:PI X tg iter wi)(hg:PG X tg g)(c:PSs X body tb)
  (hs:autoParam (∀x,iW iter X.e x=pure x) XW._auto_1):PS X (.For tg iter body [] pos) (tFor wi g tb):=by
 intro z s σ H D I h;show wpAny_For (thn (hi z s σ H _ I h) λv s1 h1=>thn h1 λHN s2 h2=>?_) hs;let{it,G,tn,J,H2,e,I2,T,BG,f2,W,{m0,w0},turn}:=h2;subst e;have Q:∀{H'},(∀b∈G,H' b=MS)->∀b∈G,kq X z H' b:=λhn b c=>{hn b c,(f2 b c).2};show codeAny_forLoop_any (λn s'=>∃i j H',Inv X z j H' s'/\tn i s'.heap/\(∀b∈G,H' b=MS)/\W i n j H') ?_ m0 {0,σ,H2,I2,BG,λb c=>(f2 b c).1,w0};intro n s3 wC;let{i,l,O,I3,DY,FC,w3}:=wC;rcases turn i n l O w3 with⟨stop,qn⟩ | ⟨go,N,hN,step⟩;{show kA E (thn (T.done X rfl rfl rfl hc i z s3 l O X.xe I3 (Q FC) DY stop) λr s4 C=>?_);let{U,I4}:=C;subst U;show lT #v[l,O,I4,qn]}
 ·show kA E (thn (T.item X rfl rfl rfl hc i z s3 l O X.xe I3 (Q FC) DY go) λr s4 C=>?_);let{u,U,h4}:=C;subst U;show kA E (thn h4 λ_ s5 C=>?_);let{x,H5,I5,r5,y5,Y,EF}:=C;have I5':=I5.pinned (Q EF) (T.obj _ _ Y);show kA E (thn (hg _ s5 l H5 x u _ I5' r5 (step x H5 y5)) λ_ s6 C=>?_);let{σ6,H6,I6,q6}:=C;show kA E (thn (c _ s6 σ6 H6 _ I6 q6) λf s7 y=>?_);have again:∀{a p},Inv X (z++yc G s5.heap) a p s7->N a p->∃m,m<n/\∃i j H',Inv X z j H' s7/\tn i s7.heap/\(∀b∈G,H' b=MS)/\W i m j H':=λ{a p} q L=>by
   let{m',hm,w7}:=hN a p L;show{m',hm,i+1,a,p,q.unpinned,T.keep _ _ _ Y λb c o e=>(q.pin (b,o) (cG _ (cG _ (mq c e)))).1,λb c=>?_,w7};let{o,e,d}:=T.obj _ _ Y b c;show(q.pin (b,o) (cG _ (cG _ (mq c e)))).2.1
  cases f with
  |next=>let{a,p,q,L}:=y;show again q L
  |cont=>let{a,p,q,L}:=y;show again q L
  |brk=>let{a,p,q,y}:=y;show#v[a,p,q.unpinned,y]
  |ret v=>let{x7,a,p,q,r7,y}:=y;show#v[x7,a,p,q.unpinned,r7,y]
end
abbrev R2:=V->V->Hp->VK->Prop
def OpR (X:Cx)(f:aL->aL->Sem aL)(r:R2):Prop:=
 ∀a s b H x y v u Q,Inv X a b H s->RelV x v->RelV y u->r x y H Q->
  aJ (aT X.p X.w) X.A (f v u) (EP X a b Q) X.xe s
def UnR (X:Cx)(f:aL->Sem aL)(r:V->Hp->VK->Prop):Prop:=
 ∀a s b H x v Q,Inv X a b H s->RelV x v->r x H Q->
  aJ (aT X.p X.w) X.A (f v) (EP X a b Q) X.xe s
def ia (X:Cx)(f:aL)(r:EX->Hp->VK->Prop):Prop:=
 ∀a s b H xs us Q,Inv X a b H s->Vals xs us->r xs H Q->
  aJ (aT X.p X.w) X.A (call f us) (EP X a b Q) X.xe s
def TruR (X:Cx)(r:V->Hp->(Bool->Hp->Prop)->Prop):Prop:=
 ∀a s b H x v Q,Inv X a b H s->RelV x v->r x H Q->
  aJ (aT X.p X.w) X.A (truthy v) (TP X a b Q) X.xe s
def tOp (r:R2)(b c:TE):TE:=λa H Q=>b a H λx d=>c a d λy e=>r x y e Q
def tUn (r:V->Hp->VK->Prop)(a:TE):TE:=λb H Q=>a b H λx c=>r x c Q
def rI (C:Int->Int->Prop)(g:Int->Int->V):R2:=λx y H Q=>∃i j,x=.int i/\y=.int j/\C i j/\Q (g i j) H
def rI0 (g:Int->Int->V):R2:=λx y H Q=>∃i j,x=.int i/\y=.int j/\Q (g i j) H
def rU (g:Int->V):V->Hp->VK->Prop:=λx H Q=>∃i,x=.int i/\Q (g i) H
section
variable {X:Cx}{a b c:MX}{ta tb tc:TE}{pos:Pos}
def Y9 (p:PE X a ta)(q:PE X b tb){j:CW}{s:aG}{d:St}{H:Hp}{R:V->V->Hp->Prop}(I:Inv X j d H s)
  (h:ta d H λx m=>tb d m λy e=>R x y e) {Q:aL->aG->Prop}{f:aL->aL->Sem aL}
  (r:∀v u l x y e,Inv X j d e l->RelV x v->RelV y u->R x y e->aJ (aT X.p X.w) X.A (f v u) Q X.xe l) :
  aJ (aT X.p X.w) X.A (eval a X.e) (λv g=>aJ (aT X.p X.w) X.A (eval b X.e) (λu i=>aJ (aT X.p X.w) X.A (f v u) Q X.xe i) X.xe g) X.xe s:=by
 show thn (p j s d H _ I h) λv z n=>?_;let{x,m,C,D,E}:=n;show thn (q j z d m _ C E) λu l n=>?_;let{y,e,I2,G,J}:=n;show r v u l x y e I2 D G J
def pe_op {op:Operator}{r:R2}(d:OpR X (eS op) r)(e:PE X a ta)(f:PE X b tb):PE X (.BinOp a op b pos) (tOp r ta tb):=by
 intro g s i H Q I h;show wpAny_BinOp (Y9 e f I h λv u j x y l I2 m n q=>d g j i l x y v u Q I2 m n q)
def pe_un (f:UnR X (unaryOp op) r)(g:PE X a ta):PE X (.UnaryOp op a pos) (tUn r ta):=by
 intro d s e H Q I h;show UnaryOp_ (thn (g d s e H _ I h) λv i j=>by let{x,l,m,n,p}:=j;show f d i e l x v Q m n p)
def opI {f:aL->aL->Sem aL}{C:Int->Int->Prop}{g:Int->Int->Int}
  (rule:∀(i j:Int)(t u:Tok) (s:aG) (Q:aL->aG->Prop) (E:aL->aG->Prop),C i j->Q (.int (g i j) s.toks) {s with toks:=s.toks+1}->aJ (aT X.p X.w) X.A (f (.int i t) (.int j u)) Q E s) :
  OpR X f (rI C λi j=>.int (g i j)):=by
 intro m s n H x y v u Q I d e h;let{i,j,rfl,rfl,l,q}:=h;let{t,rfl}:=d;let{t',rfl}:=e;show rule i j t t' s _ _ l {.int (g i j),H,I.tok _,{_,rfl},q}
def Sl {f:aL->aL->Sem aL}{g:Int->Int->Int}
  (rule:∀(i j:Int)(t u:Tok) (s:aG) (Q:aL->aG->Prop) (E:aL->aG->Prop),Q (.int (g i j) s.toks) {s with toks:=s.toks+1}->aJ (aT X.p X.w) X.A (f (.int i t) (.int j u)) Q E s) :
  OpR X f (rI0 λi j=>.int (g i j)):=by
 intro l s m H x y v u Q I d e h;let{i,j,rfl,rfl,q}:=h;let{t,rfl}:=d;let{t',rfl}:=e;show rule i j t t' s _ _ {.int (g i j),H,I.tok _,{_,rfl},q}
def Za {f:aL->aL->Sem aL}{g:Int->Int->Bool}
  (rule:∀(i j:Int)(t u:Tok) (s:aG) (Q:aL->aG->Prop) (E:aL->aG->Prop),Q (.bool (g i j)) s->aJ (aT X.p X.w) X.A (f (.int i t) (.int j u)) Q E s) :
  OpR X f (rI0 λi j=>.bl (g i j)):=by
 intro l s m H x y v u Q I d e h;let{i,j,rfl,rfl,q}:=h;let{t,rfl}:=d;let{t',rfl}:=e;show rule i j t t' s _ _ {.bl (g i j),H,I,rfl,q}
def Ky (i j:Int):Prop:=0<j/\j<1073741824
def Ct (i j:Int):Prop:=0<=j/\j<=1000000/\i.natAbs<2 ^ 64
def CMul (i j:Int):Prop:=(-(2 ^ 64)<i/\i<2 ^ 64)\/(-(2 ^ 64)<j/\j<2 ^ 64)
def CMul.ok {i j:Int}(h:CMul i j):IntMulOk i j:=by
 rcases h with⟨d,e⟩ | ⟨d,e⟩;{show .of_left (intBits_le_64 d e)};{show .of_right (intBits_le_64 d e)}
def Sm (k:Nat):(0:Int)<=2 ^ k:=by
 rw[two_pow_cast];show nV _
def aii:OpR X (eS .Add) (rI0 λi j=>.int (i+j)):=Sl λ_ _ _ _ _ _ _ q=>add_int q
def aij:OpR X (eS .Sub) (rI0 λi j=>.int (i-j)):=Sl λ_ _ _ _ _ _ _ q=>sub_int q
def aik:OpR X (eS .Mult) (rI CMul λi j=>.int (i*j)):=opI λ_ _ _ _ _ _ _ d q=>mul_int q d.ok
def aeg:OpR X (eS .FloorDiv) (rI Ky λi j=>.int (i / j)):=opI λi j _ _ _ _ _ d q=>by
 have e:(0:Int)<j:=d.1;have f:j<1073741824:=d.2;show floordiv_int () (by rw[Int.fdiv_eq_ediv_of_nonneg i ()];show q) (.inl (PyProof.noPylong_small ()))
def ail:OpR X (eS .Mod) (rI (λ_ j=>0<j) λi j=>.int (i % j)):=opI λi j _ _ _ _ _ d q=>by
 have e:(0:Int)<j:=d;show mod_int' () (by rw[Int.fmod_eq_emod_of_nonneg i ()];show q)
def aim:OpR X (eS .LShift) (rI Ct λi j=>.int (i*2 ^ j.toNat)):=opI λ_ _ _ _ _ _ _ d q=>lshift_int_small d.1 d.2.1 d.2.2 q
def ain:OpR X (eS .RShift) (rI (λ_ j=>0<=j) λi j=>.int (i / 2 ^ j.toNat)):=opI λi j _ _ _ _ _ d q=>
 rshift_int d (by rw[Int.fdiv_eq_ediv_of_nonneg i (Sm _)];show q)
def aio:OpR X (eS .BitAnd) (rI0 λi j=>.int (dZ i j)):=Sl λ_ _ _ _ _ _ _ q=>and_int q
def op_or:OpR X (eS .BitOr) (rI0 λi j=>.int (eI i j)):=Sl λ_ _ _ _ _ _ _ q=>or_int q
def unI {f:aL->Sem aL}{g:Int->Int}
  (rule:∀(i:Int)(t:Tok) (s:aG) (Q:aL->aG->Prop) (E:aL->aG->Prop),Q (.int (g i) s.toks) {s with toks:=s.toks+1}->aJ (aT X.p X.w) X.A (f (.int i t)) Q E s) :
  UnR X f (rU λi=>.int (g i)):=by
 intro e s j H x v Q I d h;let{i,rfl,q}:=h;let{t,rfl}:=d;show rule i t s _ _ {.int (g i),H,I.tok _,{_,rfl},q}
def aip:UnR X (unaryOp .USub) (rU λi=>.int (-i)):=unI λ_ _ _ _ _ q=>neg_int q
end
def Zb:V->V->Bool
 | .non,.non=>MT | .non,.int _=>MT | .int _,.non=>MT | .non,.bl _=>MT | .bl _,.non=>MT | .non,.str _=>MT | .str _,.non=>MT
 | .int _,.int _=>MT | .bl _,.bl _=>MT | .str _,.str _=>MT | .byt _,.byt _=>MT
 | .int _,.str _=>MT | .str _,.int _=>MT | .bl _,.str _=>MT | .str _,.bl _=>MT
 |_,_=>MU
def rEq:R2:=λx y H Q=>Zb x y=MT/\Q (.bl (decide (x=y))) H
def rNe:R2:=λx y H Q=>Zb x y=MT/\Q (.bl (!decide (x=y))) H
def Pq:decide (V.int i=V.int j)=(i==j):=by
 rw[eJ];simp
def Vn:decide (V.bl i=V.bl j)=(i==j):=by
 rw[eJ];simp
def Pt:decide (V.str i=V.str j)=(i==j):=by
 rw[eJ];simp
def Pu:decide (V.byt i=V.byt j)=(i.toList==j.toList):=by
 rw[eJ];cases i;cases j;simp
section
variable {X:Cx}{a b c:MX}{ta tb tc:TE}{pos:Pos}
def cg (I:Inv X d f H s)(q:Q (.bl k) H)(e:k=g):EP X d f Q (.bool g) s:=by
 subst e;show{.bl k,H,I,rfl,q}
def op_eq:OpR X (dU .Eq) rEq:=by
 intro g s l H x y v u Q I f d h;let{e,q}:=h;cases x with
 |non=>
  cases f;cases y with
  |non=>cases d;show PySem.EqNone.eq_none_none (cg I q ∅)
  |bl j=>cases d;show PySem.EqNone.eq_none_bool (cg I q ∅)
  |int j=>let{t',rfl}:=d;show PySem.EqNone.eq_none_int (cg I q ∅)
  |str j=>let{t',rfl}:=d;show PySem.EqNone.eq_none_str (cg I q ∅)
  |_=>show NC (show MU=MT from e) aY
 |bl i=>
  cases f;cases y with
  |non=>cases d;show PySem.EqNone.eq_bool_none (cg I q ∅)
  |bl j=>cases d;show eq_bool (cg I q Vn)
  |str j=>let{t',rfl}:=d;show PySem.EqMixed.eq_bool_str (cg I q ∅)
  |_=>show NC (show MU=MT from e) aY
 |int i=>
  let{t,rfl}:=f;cases y with
  |non=>cases d;show PySem.EqNone.eq_int_none (cg I q ∅)
  |int j=>let{t',rfl}:=d;show eq_int (cg I q Pq)
  |str j=>let{t',rfl}:=d;show PySem.EqMixed.eq_int_str (cg I q ∅)
  |_=>show NC (show MU=MT from e) aY
 |str i=>
  let{t,rfl}:=f;cases y with
  |non=>cases d;show PySem.EqNone.eq_str_none (cg I q ∅)
  |bl j=>cases d;show PySem.EqMixed.eq_str_bool (cg I q ∅)
  |int j=>let{t',rfl}:=d;show PySem.EqMixed.eq_str_int (cg I q ∅)
  |str j=>let{t',rfl}:=d;show eq_str (cg I q Pt)
  |_=>show NC (show MU=MT from e) aY
 |byt i=>
  let{t,rfl}:=f;cases y with
  |byt j=>let{t',rfl}:=d;show PySem.W.eq_bytes (cg I q Pu)
  |_=>show NC (show MU=MT from e) aY
 |_=>cases y<;>show NC (show MU=MT from e) aY
def op_ne:OpR X (dU .NotEq) rNe:=by
 intro g s l H x y v u Q I f d h;let{e,q}:=h;cases x with
 |non=>
  cases f;cases y with
  |non=>cases d;show PySem.EqNone.ne_none_none (cg I q ∅)
  |bl j=>cases d;show PySem.EqNone.ne_none_bool (cg I q ∅)
  |int j=>let{t',rfl}:=d;show PySem.EqNone.ne_none_int (cg I q ∅)
  |str j=>let{t',rfl}:=d;show PySem.EqNone.ne_none_str (cg I q ∅)
  |_=>show NC (show MU=MT from e) aY
 |bl i=>
  cases f;cases y with
  |non=>cases d;show PySem.EqNone.ne_bool_none (cg I q ∅)
  |bl j=>cases d;show ne_bool (cg I q (NG not Vn))
  |str j=>let{t',rfl}:=d;show PySem.EqMixed.ne_bool_str (cg I q ∅)
  |_=>show NC (show MU=MT from e) aY
 |int i=>
  let{t,rfl}:=f;cases y with
  |non=>cases d;show PySem.EqNone.ne_int_none (cg I q ∅)
  |int j=>let{t',rfl}:=d;show ne_int (cg I q (NG not Pq))
  |str j=>let{t',rfl}:=d;show PySem.EqMixed.ne_int_str (cg I q ∅)
  |_=>show NC (show MU=MT from e) aY
 |str i=>
  let{t,rfl}:=f;cases y with
  |non=>cases d;show PySem.EqNone.ne_str_none (cg I q ∅)
  |bl j=>cases d;show PySem.EqMixed.ne_str_bool (cg I q ∅)
  |int j=>let{t',rfl}:=d;show PySem.EqMixed.ne_str_int (cg I q ∅)
  |str j=>let{t',rfl}:=d;show ne_str (cg I q (NG not Pt))
  |_=>show NC (show MU=MT from e) aY
 |byt i=>
  let{t,rfl}:=f;cases y with
  |byt j=>let{t',rfl}:=d;show PySem.W.ne_bytes (cg I q (NG not Pu))
  |_=>show NC (show MU=MT from e) aY
 |_=>cases y<;>show NC (show MU=MT from e) aY
def op_lt:OpR X (dU .Lt) (rI0 λi j=>.bl (decide (i<j))):=Za λ_ _ _ _ _ _ _ q=>lt_int q
def op_gt:OpR X (dU .Gt) (rI0 λi j=>.bl (decide (j<i))):=Za λ_ _ _ _ _ _ _ q=>gt_int q
def op_ge:OpR X (dU .GtE) (rI0 λi j=>.bl (decide (j<=i))):=Za λ_ _ _ _ _ _ _ q=>ge_int q
def Eg:OpR X (dU .Is) (λx y H Q=>y=.non/\Q (.bl (decide (x=.non))) H):=by
 intro f s g H x y v u Q I d e h;let{rfl,q}:=h;cases e;show is_none_gen (cg I q ?_);cases x<;>first
  | (cases d;rfl)
  | (let{t,rfl}:=d;rfl)
def Bb:OpR X (dU .IsNot) (λx y H Q=>y=.non/\Q (.bl (!decide (x=.non))) H):=by
 intro f s g H x y v u Q I d e h;let{rfl,q}:=h;cases e;show isnot_none_gen (cg I q ?_);cases x<;>first
  | (cases d;rfl)
  | (let{t,rfl}:=d;rfl)
def OpR.or (h:OpR X f r)(h':OpR X f j):OpR X f (λx y H Q=>r x y H Q\/j x y H Q):=by
 intro d s e H x y v u Q I g i q;rcases q with q | q;{show h d s e H x y v u Q I g i q};{show h' d s e H x y v u Q I g i q}
def aiq (b:MX)(h:↑(op≠.In))(d:↑(op≠.NotIn)):nH op b=MU:=by
 have e:(op==CmpOp.In)=MU:=by cases op<;>first | rfl | show NC rfl h
 have f:(op==CmpOp.NotIn)=MU:=by cases op<;>first | rfl | show NC rfl d
 cases b<;>simp[nH,e,f]
def Pv {op:CmpOp}{r:R2}(d:OpR X (dU op) r)(e:PE X a ta)(f:PE X b tb)(g:nH op b=MU):PE X (.Compare a [op] [b] pos) (tOp r ta tb):=by
 intro i s j H Q I h;show wpAny_Compare1 (Y9 e f I h λv u l x y m I2 n p q=>d i l j m x y v u Q I2 n p q) g
def tTest (t:TE):TT:=λd H Q=>t d H λx H'=>∃k,x=.bl k/\Q k H'
def aeh (g:OpR X (dU op) r)(i:PE X a ta)(j:PE X b tb)(l:nH op b=MU):PT X (.Compare a [op] [b] pos) (tTest (tOp r ta tb)):=by
 intro d s f H Q I h;show wpAny_isTrue_Compare1 (thn (i d s f H _ I h) λv m ⟨x,n,p,q,w⟩=>thn (j d m f n _ p w) λu A ⟨y,C,I2,D,E⟩=>
   thn (g d A f C x y v u _ I2 q D E) λc O ⟨z,G,J,L,k,e,N⟩=>?_) l
 subst e;cases L;show iV #v[G,J,N]
def Zc (K:aE)(x:V)(H:Hp)(k:Bool):Prop:=
 match x with
 | .non=>k=MU
 | .bl b=>k=b
 | .int i=>k=(i != 0)
 | .str y=>y.length<=sizeLine/\k=((y.length:Int) != 0)
 | .byt y=>y.size<=sizeLine/\k=((y.size:Int) != 0)
 | .ref p=>(∃xs,SqL K H p xs/\k=!xs.isEmpty)\/(∃xs,SqT K H p xs/\k=!xs.isEmpty)\/∃kvs,H p=KE (.dK kvs)/\k=!kvs.isEmpty
 |_=>False
def Sn {d:Type}{kvs:List (d×V)}{vs:List (d×aL)}(r:KV kvs vs):(!vs.isEmpty)=!kvs.isEmpty:=by
 cases r<;>rfl
def Eh {xs:EX}{its:AW}(r:Vals xs its):(!its.toArray.isEmpty)=!xs.isEmpty:=by
 cases r<;>simp
def n8:(sizeLine:Nat)<2 ^ 63:=by rw[eP];decide
def air:TruR X (λx H Q=>∃k,Zc X.K x H k/\Q k H):=by
 intro u s z H x v Q I f h;let{k,e,q}:=h;have A:=n8;have C:sizeLine=16777216:=eP;cases x with
 |non=>
  cases f;have d:k=MU:=e;subst d;show truthy_none #v[H,I,q]
 |bl b=>
  cases f;have d:k=b:=e;subst d;show iV #v[H,I,q]
 |int i=>
  let{t,rfl}:=f;have d:k=(i != 0):=e;subst d;show PySem.P.truthy_int #v[H,I,q]
 |str y=>
  let{t,rfl}:=f;obtain⟨l,d⟩:y.length<=sizeLine/\k=((y.length:Int) != 0):=e;subst d;show PySem.P.truthy_str () {H,I.tok _,q}
 |byt y=>
  let{t,rfl}:=f;obtain⟨l,d⟩:y.size<=sizeLine/\k=((y.size:Int) != 0):=e;subst d;show PySem.W.truthy_bytes () {H,I.tok _,q}
 |ref p=>
  cases f;have d:(∃xs,SqL X.K H p xs/\k=!xs.isEmpty)\/(∃xs,SqT X.K H p xs/\k=!xs.isEmpty)\/∃kvs,H p=KE (.dK kvs)/\k=!kvs.isEmpty:=e;rcases d with⟨xs,g,d⟩ | ⟨xs,g,d⟩ | ⟨kvs,g,d⟩;{subst d;let{its,r,pl,hz}:=I.list g;have j:=r.length;show wpAny_truthy_list pl.isList (by simp only[aK];lia) {H,I.tok _,by rw[Eh r];show q}};{subst d;let{its,r,pl,hz}:=I.tuple g;have j:=r.length;show truthy_tuple pl (by simp only[aK];lia) {H,I.tok _,by rw[Eh r];show q}};{subst d;obtain⟨hz,n,vs,r,m⟩:kvs.length<=sizeLine/\(p==gW)=MU/\∃vs,KV kvs vs/\s.heap.DictOf (gw X.p X.w) p vs:=I.hok p _ g;have j:kvs.length=vs.length:=Paired.length r;show wpAny_truthy_dict n m () {H,I.tok _,by rw[Sn r];show q}}
 |_=>show(show False from e).elim
def Zd (g:PE X a ta)(i:∀e,tG a X.e e=(do let v <-e;mL a.pos;jF [v] (truthy v))) :
  PT X a (λd H Q=>ta d H λx H'=>∃k,Zc X.K x H' k/\Q k H'):=by
 intro f s d H Q I h;show isTrue_plain (thn (g f s d H _ I h) λv j l=>by let{x,m,n,p,q}:=l;show air f j d m x v Q n p q) (i _)
def So:OpR X (eS .Add) (λx y H Q=>∃i j,x=.str i/\y=.str j/\i.length+j.length<=sizeLine/\Q (.str (i++j)) H):=by
 intro f s g H x y v u Q I d e h;let{i,j,rfl,rfl,hz,q}:=h;let{t,rfl}:=d;let{t',rfl}:=e;show add_str (λt' l=>{.str (i++j),H,I.tok _,{_,rfl},q}) hz
def jf (r:Vals [x] us):∃u,us=[u]/\RelV x u:=by
 cases r with
 |cons d e=>cases e;show{_,rfl,d}
def wo (r:Vals [x,y] us):∃u d,us=[u,d]/\RelV x u/\RelV y d:=by
 cases r with
 |cons e f=>
  cases f with
  |cons g i=>cases i;show{_,_,rfl,e,g}
def Ze:ia X (.builtin "abs") (λxs H Q=>∃i,xs=[.int i]/\Q (.int (if i<0 then -i else i)) H):=by
 intro d s e H xs us Q I r h;let{i,rfl,q}:=h;let{u,rfl,t,rfl}:=jf r;show call_abs_int λu f=>{.int (if i<0 then -i else i),H,I.tok _,{_,rfl},q}
def Vo (e:X.calm=MT):ia X (.builtin "max") (λxs H Q=>∃i j,xs=[.int i,.int j]/\Q (.int (if j > i then j else i)) H):=by
 intro f s g H xs us Q I r h;let{i,j,rfl,q}:=h;let{u,l,rfl,{t,rfl},{t',rfl}}:=wo r;show max_two_ints (I.ok.hd e) λh' m k=>{_,H,I.kept k,?_,q};by_cases d:j > i;{rw[MZ d,MZ d];show{_,rfl}};{rw[M' d,M' d];show{_,rfl}}
def Vp (e:X.calm=MT):ia X (.builtin "min") (λxs H Q=>∃i j,xs=[.int i,.int j]/\Q (.int (if j<i then j else i)) H):=by
 intro f s g H xs us Q I r h;let{i,j,rfl,q}:=h;let{u,l,rfl,{t,rfl},{t',rfl}}:=wo r;show min_two_ints (I.ok.hd e) λh' m k=>{_,H,I.kept k,?_,q};by_cases d:j<i;{rw[MZ d,MZ d];show{_,rfl}};{rw[M' d,M' d];show{_,rfl}}
def Ii:ia X (.type "int") (λxs H Q=>(∃i,xs=[.int i]/\Q (.int i) H)\/∃k,xs=[.bl k]/\Q (.int (if k then 1 else 0)) H):=by
 intro e s f H xs us Q I r h;rcases h with⟨i,rfl,q⟩ | ⟨k,rfl,q⟩;{let{u,rfl,t,rfl}:=jf r;show call_int_int {.int i,H,I,{_,rfl},q}};{let{u,rfl,d}:=jf r;cases d;show call_int_bool {.int (if k then 1 else 0),H,I.tok _,{_,rfl},q}}
end
structure ObjM (h:MW)(x dx C:MV)(mA:Str->AK):Prop where
 obj:h.get? x=KE (jI C dx)
 ns:h.Ns1 dx mA
 ne:dx≠x
def Vq {h:MW}(n:h.Ns1 f g):∃c,h.get? f=KE c/\∀name,qN name c=KE (g name):=by
 let{o,d,p,i,hd,hk,_,j}:=n;show{o,i,λname=>?_};have e:=j name;unfold nsFind findBy at e;rw[<-Array.find?_toList]at e;unfold qN;rw[hd];dsimp only
 split
 ·rename_i y q
  rw[q]at e;show NG KE e
 ·rename_i q
  rw[q]at e;have a:d.toList.any (·.refKey)=MU:=by
   rw[List.any_eq_false];intro y l;let{z,t,b}:=hk y (Array.mem_toList_iff.mp l);simp[DictEntry.refKey,b]
  have m:¬d.toList.any (·.refKey)=MT:=(by rw[a];show aY);rw[M' m];show NG KE e
def ObjM.look (I:ObjM h x b C c):∃a,PySem.W.InstAt h x (jI C b) C (KE a)/\∀name,qN name a=KE (c name):=
 let ⟨a,d,e⟩:=Vq I.ns
 {a,#v[I.obj,rfl,rfl,d],e}
section
variable {prog:aQ}{w:bC}{A:bU}{E:aL->aG->Prop}{s:aG}{K:aE}{x dx C f:MV}{mA:Str->AK}{name:Str}{v:aL}
def aei (X:K.In s.heap)(I:ObjM s.heap x dx C mA)(b:mZ K C name=MT)(c:oS K C=MT)
  (d:bH K (.ref C) name=KE MS) (e:mA name=KE v) (a:PySem.W.handedIn v=MT) (h:Q v {s with toks:=s.toks+1}) :
  aJ (aT prog w) A (vD (.ref x) name expr) Q E s:=by
 let{i,J,g}:=I.look;show PySem.W.get_value X J (qJ b).1 (PySem.W.findObj_own c d rfl (by rw[g,e])) a h
def Zf (X:K.In s.heap)(I:ObjM s.heap x dx C mA)(a:mZ K C name=MT)
  (b:bH K (.ref C) name=KE (KE (.ref f))) (c:iB K (.ref f)=MT) (d:mA name=MS) (h:Q (.ref f,[.ref x]) s) :
  aJ (aT prog w) A (mW (.ref x) name pl) Q E s:=by
 let{e,J,g}:=I.look;show PySem.W.method_fn X J (qJ a).1 (qJ a).2 b (beq_iff_eq.mp c) (by change(qN name e).map (·.isSome)=KE MU;rw[g,d];rfl) h
def aej (X:K.In s.heap)(I:ObjM s.heap x dx C mA)
  (e:bH K (.ref C) "__setattr__"=KE (KE (.builtin "object.__setattr__"))) (g:rK K C=MT) (i:sQ K C name=KE MS) (j:oS K C=MT)
  (hw:uJ mA ns) (hsz:ns.length<=sizeLine)
  (h:∀h',ObjM h' x dx C (λy=>if y=name then KE v else mA y)->fK dx s.heap h'->Q Unit.unit {s with heap:=h',toks:=s.toks+2}) :
  aJ (aT prog w) A (vY (.ref x) name v) Q E s:=by
 let{z,J,D}:=I.look;show PySem.W.set_plain X J e (PySem.W.osa_open (s:={s with toks:=s.toks+1}) (r:=MS) X J g i λb=>?_);let{cd,l,m}:=PySem.W.any_some j;have n:s.heap.get? x=KE ⟨.ref C,KE dx,.plain,#[]⟩:=I.obj;show aA (WQ (aA (aA (wpAny_loadPart n (aA (PySem.W.Looks.here (s:={s with toks:=s.toks+1}) (PySem.W.looks_clsIn X l) ?_))))));rw[m];show WQ (a:=KE dx) (aA (WQ (aA ?_)));show uL (s:={s with toks:=s.toks+1}) I.ns λh' c d=>?_;let{G,H,KM,p,q,u}:=c.count (PySem.Within.cons name v hw);show aA (rS p (by rw[q];show rT (aV u (by rw[aS];lia))) ?_);show WQ (h _ {(d.2 _ (eT I.ne)).trans I.obj,c,I.ne} d)
def Zg (X:K.In s.heap)(b:pQ K C=MT)
  (hi:bH K (.ref C) "__init__"=KE (KE (.ref f))) (c:PySem.W.typeIn K (.ref f)=KE (.type "function"))
  (h:kQ (aT prog w) (A.under (.builtin "type.__call__" {.ref C::vs,a})) (.call (.ref f) {.ref (‹s›+1)::vs,a}) (PySem.W.InitBack (‹s›+1) R) {s with heap:=(s.heap.push gP).push (jI C ‹s›)}) :
  kQ (aT prog w) A (.call (.ref C) #v[vs,a]) R s:=by
 let{e,g,d,t,os}:=s;show PySem.W.make_core (PySem.W.makes_of X b) (fE X hi) (λself=>PySem.W.bind_fn X self c) (.inl rfl) h
end
def ir (f:Str)(v:V):List (Str×V)->List (Str×V)
 | []=>[(f,v)]
 | (g,x)::r=>if g=f then (g,v)::r else (g,x)::ir f v r
theorem xh (f g:Str)(v:V):∀fs:List (Str×V),(ir f v fs).lookup g=if g=f then KE v else fs.lookup g
 | []=>by
  change jG g [(f,v)]=_;by_cases h:g=f;{have a:(g==f)=MT:=beq_iff_eq.mpr h;simp only[jG,a,MZ h]};{have a:(g==f)=MU:=beq_eq_false_iff_ne.mpr h;simp only[jG,a,M' h]}
 | (k,x)::r=>by
  have b:=xh f g v r;rw[show ir f v ((k,x)::r)=(if k=f then (k,v)::r else (k,x)::ir f v r)from rfl]
  by_cases hk:k=f;{rw[MZ hk];by_cases h:g=k;{have a:(g==k)=MT:=beq_iff_eq.mpr h;simp only[jG,a,MZ (h.trans hk)]};{have a:(g==k)=MU:=beq_eq_false_iff_ne.mpr h;simp only[jG,a,M' (λe:g=f=>h (e.trans hk.symm))]}};{rw[M' hk];by_cases h:g=k;{have a:(g==k)=MT:=beq_iff_eq.mpr h;simp only[jG,a,M' (λe:g=f=>hk (h.symm.trans e))]};{have a:(g==k)=MU:=beq_eq_false_iff_ne.mpr h;simp only[jG,a];show b}}
theorem zx (f:Str)(v:V):∀fs:List (Str×V),f∈(ir f v fs).map (·.1)/\∀g,g∈fs.map (·.1)->g∈(ir f v fs).map (·.1)
 | []=>{by simp[ir],λg h=>by simp at h}
 | (k,x)::r=>by
  let{a,b}:=zx f v r;rw[show ir f v ((k,x)::r)=(if k=f then (k,v)::r else (k,x)::ir f v r)from rfl]
  by_cases hk:k=f;{rw[MZ hk];subst hk;show{by simp,λg h=>by simpa using h}};{rw[M' hk];show{?_,λg h=>?_};{rw[bV];show aP _ a};{rw[bV]at h ⊢;rcases aX.mp h with e | e;{show List.mem_cons.mpr (.inl e)};{show aP _ (b g e)}}}
theorem Cj (f:Str)(v:V):∀fs:List (Str×V),(ir f v fs).length<=fs.length+1
 | []=>by simp[ir]
 | (k,x)::r=>by
  have a:=Cj f v r;rw[show ir f v ((k,x)::r)=(if k=f then (k,v)::r else (k,x)::ir f v r)from rfl]
  by_cases hk:k=f;{rw[MZ hk,aS,aS];lia};{rw[M' hk,aS,aS];lia}
def RelO.some_of (r:RelO (KE v) o):∃u,o=KE u/\RelV v u:=by
 cases o with
 |none=>show(show False from r).elim
 |some u=>show#v[u,rfl,r]
def RelO.none_of (r:RelO MS o):o=MS:=by
 cases o with
 |none=>rfl
 |some u=>show(show False from r).elim
def Ij (r:RelV v u):PySem.W.handedIn u=MT:=by
 cases v with
 |non=>cases(show u=fO from r);rfl
 |bl b=>cases(show u=oF b from r);rfl
 |int i=>let{t,e}:=(show ∃t,u=nU i t from r);cases e;rfl
 |str x=>let{t,e}:=(show ∃t,u=qV x t from r);cases e;rfl
 |byt b=>let{t,e}:=(show ∃t,u=Value.bytes b t from r);cases e;rfl
 |flt b=>let{t,e}:=(show ∃t,u=vE b t from r);cases e;rfl
 |ref a=>cases(show u=aZ a from r);rfl
 |ty n=>cases(show u=gU n from r);rfl
section
variable {P:aQ}{w:bC}{H H':Hp}{h h':MW}{a C dx:MV}{fs fs':List (Str×V)}
def Bc (hok:HOk P w H h)(e:H a=KE (.ins C dx fs)):∃b,ObjM h a dx C b/\(∀f,RelO (fs.lookup f) (b f))/\uJ b (fs.map (·.1))/\fs.length<=1000/\H dx=KE (.own a):=by
 let{d,z,ne,c,b,n,r,q}:=(show ObjOk P w H h a (.ins C dx fs)from hok a _ e);show{b,#v[c,n,ne],r,q,z,d}
end
structure Cls (K:aE)(C:MV):Prop where
 pg:mZ K C uM=MT
 hd:oS K C=MT
 po:rK K C=MT
 sa:bH K (.ref C) "__setattr__"=KE (KE (.builtin "object.__setattr__"))
def Cls.get {K:aE}{C:MV}(c:Cls K C)(f:Str):mZ K C f=MT:=c.pg
def NoAttr (K:aE)(C:MV)(f:Str):Prop:=bH K (.ref C) f=KE MS
def NoAttr.taker {K:aE}{C:MV}{f:Str}(n:NoAttr K C f):sQ K C f=KE MS:=by
 unfold sQ;rw[show bH K (.ref C) f=KE MS from n];rfl
structure Kz (K:aE)(C:MV)(m:Str)(f:MV):Prop where
 at_:bH K (.ref C) m=KE (KE (.ref f))
 fn:iB K (.ref f)=MT
 kp:dH K (.ref f)=MT
section
variable {X:Cx}{j':CW}{σ:St}{H:Hp}{s:aG}{a C dx:MV}{fs:List (Str×V)}{f:Str}{v:V}{A:bU}{E:aL->aG->Prop}
def Sr (I:Inv X j' σ H s)(e:H a=KE (.ins C dx fs))(c:Cls X.K C)(n:NoAttr X.K C f)(l:fs.lookup f=KE v)
  (h:∀u s',Inv X j' σ H s'->RelV v u->Q u s'):aJ (aT X.p X.w) A (vD (.ref a) f b) Q E s:=by
 let{g,O,r,_,_,_}:=Bc I.hok e;let{u,i,d}:=RelO.some_of (v:=v) (o:=g f) (by rw[<-l];show r f);show aei I.kIn O (c.get f) c.hd n i (Ij d) (h u _ (I.tok _) d)
def Ei (I:Inv X j' σ H s)(e:H a=KE (.ins C dx fs))(c:Cls X.K C)(k:Kz X.K C m g)(l:fs.lookup m=MS)
  (h:Q (.ref g,[.ref a]) s):aJ (aT X.p X.w) A (mW (.ref a) m pl) Q E s:=by
 let{b,O,r,_,_,_}:=Bc I.hok e;have d:b m=MS:=RelO.none_of (by rw[<-l];show r m);show Zf I.kIn O (c.get m) k.at_ k.fn d h
def Ss (I:Inv X j' σ H s)(e:H a=KE (.ins C dx fs))(c:Cls X.K C)(n:NoAttr X.K C f)(L:fs.length<1000)(m:RelV y u)
  (h:∀s',Inv X j' σ (upd H a (.ins C dx (ir f y fs))) s'->Q Unit.unit s'):aJ (aT X.p X.w) A (vY (.ref a) f u) Q E s:=by
 let{i,O,r,j,_,l}:=Bc I.hok e;have hz:(fs.map (·.1)).length<=sizeLine:=(by rw[aC,eP];lia);show aej I.kIn O c.sa c.po n.taker c.hd j hz λh' d p=>h _ ?_;have hd:∃o,h'.get? dx=KE o:=let ⟨o,_,_,D,_⟩:=d.ns;#v[o,D];show I.write (x:=a) (e:=dx) (by rw[e];show iQ) (.inr l) (λb q G z=>(p.2 b G).trans z) hd ?_;show{by rw[au O.ne];show l,?_,O.ne,d.obj,_,d.ns,λg=>?_,λg J=>?_};{have:=Cj f y fs;lia}
 ·change RelO ((ir f y fs).lookup g) (if g=f then KE u else i g)
  rw[xh];by_cases q:g=f;{rw[MZ q,MZ q];show m};{rw[M' q,M' q];show r g}
 ·by_cases q:g=f;{rw[q];show(zx f y fs).1}
  ·show(zx f y fs).2 g (j g λz=>J ?_);change(if g=f then KE u else i g)=MS
   rw[M' q];show z
def Inv.made (I:Inv X j' σ H s):Inv X j' σ (upd (upd H ‹s› (.own (‹s›+1))) (‹s›+1) (.ins C ‹s› []))
  {s with heap:=(s.heap.push gP).push (jI C ‹s›)}:=by
 have c:(s.heap.push gP).get? ‹s›=KE gP:=bK s.heap rfl;have d:((s.heap.push gP).push (jI C ‹s›)).get? (‹s›+1)=KE (jI C ‹s›):=by
  have:=bK (s.heap.push gP) (o:=jI C ‹s›) rfl
  rwa [fJ]at this
 have g:(s.heap.push gP).Ns ‹s› (λ_=>MS):={gP,#[],_,c,rfl,(λe i=>NC i ∅),λ_=>rfl};have j:=I.laid (a:=‹s›) (o:=.own (‹s›+1)) (h':=s.heap.push gP) (t':=s.toks) (λb u q=>aF _ q) (aI _) {_,c};show j.laid (a:=‹s›+1) (o:=.ins C ‹s› []) (t':=s.toks) (λb u q=>aF _ q) (Nat.le_of_eq (fJ _ _)) ?_;have ne:‹s›≠‹s›+1:=bN (iC _);show{by rw[au ne,ay],eQ _,ne,d,λ_=>MS,(Heap.Ns1.of_empty g).at λo q=>aF _ q,λ_=>iQ,λy l=>NC rfl l}
def Pw (c:iP e f env (eval e env)=eval e env)
  (h:aJ (aT prog w) A (eval e env) (λo b=>aJ (aT prog w) A (vD o f MT) Q E b) E s):aJ (aT prog w) A (eval (.Attribute e f pos) env) Q E s:=
 Attribute_any_ h (by rw[arm_eval_Attribute,c])
end
def tFld (K:aE)(c:TE)(f:Str):TE:=λd H Q=>c d H λx b=>∃a C e fs v,x=.ref a/\b a=KE (.ins C e fs)/\Cls K C/\NoAttr K C f/\fs.lookup f=KE v/\Q v b
def sFld (K:aE)(e g:TE)(f:Str):TS:=λD b H=>g b H λy i=>e b i λx c=>∃a C d fs,x=.ref a/\c a=KE (.ins C d fs)/\Cls K C/\NoAttr K C f/\fs.length<1000/\
 D.nx b (upd c a (.ins C d (ir f y fs)))
section
variable {X:Cx}{o e value:MX}{f:Str}{pos yD AX:Pos}{ta tv:TE}
def ais (b:PE X e ta)(d:iP e f X.e (eval e X.e)=eval e X.e):PE X (.Attribute e f pos) (tFld X.K ta f):=by
 intro g s i H Q I h;show Pw d (thn (b g s i H _ I h) λu z j=>?_);let{x,m,p,r,a,C,A,fs,v,ex,w,c,n,l,q}:=j;subst ex;obtain rfl:u=aZ a:=r;show Sr p w c n l λD E I2 y=>#v[v,m,I2,y,q]
def ait (i:PE X o ta)(j:PE X value tv)(m:jO value (KE (.Attribute o f yD)) pos.line X.e=pure MU):PS X (.Assign [.Attribute o f yD] value pos) (sFld X.K ta tv f):=by
 intro g s b H D I h;show plainObj_wpAny_Assign_Attribute (thn (j g s b H _ I h) λu p d=>?_) m;let{y,r,w,z,q}:=d;show thn (i g p b r _ w q) λA N d=>?_;let{x,O,I2,E,a,C,Q,fs,ex,G,c,n,l,J}:=d;subst ex;obtain rfl:A=aZ a:=E;show Ss I2 G c n l z λT L=>{b,_,L,J}
end
section
variable {X:Cx}{j':CW}{σ:St}{H:Hp}{s:aG}{A:bU}{E:aL->aG->Prop}{Q:aL->aG->Prop}{c:aL}{b:Bool}
inductive rh (K:aE)(H:Hp):V->aL->Prop where
 |non:rh K H .non (.type "NoneType")
 |bl (x:Bool):rh K H (.bl x) (.type "bool")
 |int (i:Int):rh K H (.int i) (.type "int")
 |str (x:Str):rh K H (.str x) (.type "str")
 |flt (x:UInt64):rh K H (.flt x) (.type "float")
 |lst {a:MV}{xs:EX}(e:H a=KE (.lst xs)):rh K H (.ref a) (.type "list")
 |frz {a:MV}{o:Obj}{xs:EX}(e:H a=KE (.frz o (.lst xs))):rh K H (.ref a) (.type "list")
 |tup {a:MV}{xs:EX}(e:H a=KE (.tup xs)):rh K H (.ref a) (.type "tuple")
 |dK {a:MV}{kvs:List (Key×V)}(e:H a=KE (.dK kvs)):rh K H (.ref a) (.type "dict")
 |dT {a:MV}{kvs:List (List Key×V)}(e:H a=KE (.dT kvs)):rh K H (.ref a) (.type "dict")
 |ins {a C dx:MV}{fs:List (Str×V)}(e:H a=KE (.ins C dx fs)) (cl:Cls K C) (ha:bH K (.ref C) "__class__"=KE (KE (.builtin "object.__class__")))
   (hn:jM K (.builtin "object.__class__") "__get__"=KE (KE (.builtin "getset_descriptor.__get__"))) (KN:PySem.W.takesIn K (.builtin "object.__class__")=KE MT)
   (hm:PySem.W.mroIn K C (.type "object")=KE MT):rh K H (.ref a) (.ref C)
def Vr (I:Inv X j' σ H s)(d:RelV x u)(ty:rh X.K H x t)(e:dN X.K t c=KE b)(h:∀l,Q (.bool b) {s with toks:=l}) :
  aJ (aT X.p X.w) A (call (.builtin "isinstance") [u,c]) Q E s:=by
 cases ty with
 |non=>cases(show u=fO from d);show eV PySem.W.kitx_none I.kIn iQ e (λz=>nomatch z) h
 |bl y=>cases(show u=oF y from d);show eV PySem.W.kitx_bool I.kIn iQ e (λz=>nomatch z) h
 |int i=>let{t,q}:=(show ∃t,u=nU i t from d);cases q;show eV PySem.W.kitx_int I.kIn iQ e (λz=>nomatch z) h
 |str y=>let{t,q}:=(show ∃t,u=qV y t from d);cases q;show eV PySem.W.kitx_str I.kIn iQ e (λz=>nomatch z) h
 |flt y=>let{t,q}:=(show ∃t,u=vE y t from d);cases q;show eV PySem.W.kitx_float I.kIn iQ e (λz=>nomatch z) h
 |@lst a xs f=>
  cases(show u=aZ a from d);let{_,_,n,_,g}:=(show ObjOk X.p X.w H s.heap a (.lst xs)from I.hok a _ f);show eV rL I.kIn {_,g,rfl} e (λz=>nomatch z) h
 |@frz a m xs f=>
  cases(show u=aZ a from d);let{_,_,_,n,_,g}:=(show ObjOk X.p X.w H s.heap a (.frz m (.lst xs))from I.hok a _ f);show eV rL I.kIn {_,g,rfl} e (λz=>nomatch z) h
 |@tup a xs f=>
  cases(show u=aZ a from d);let{_,_,_,p}:=(show ObjOk X.p X.w H s.heap a (.tup xs)from I.hok a _ f);let{o,g,j,_}:=p;show eV PySem.W.kitx_tuple I.kIn #v[o,g,j] e (λz=>nomatch z) h
 |@dK a kvs f=>
  cases(show u=aZ a from d);let{_,_,vs,_,p}:=(show ObjOk X.p X.w H s.heap a (.dK kvs)from I.hok a _ f);let{o,r,D,g,j,_}:=p;show eV PySem.W.kitx_dict I.kIn #v[o,g,j.1] e (λz=>nomatch z) h
 |@dT a kvs f=>
  cases(show u=aZ a from d);let{_,_,xs,_,o,r,D,g,j,_}:=(show ObjOk X.p X.w H s.heap a (.dT kvs)from I.hok a _ f);show eV PySem.W.kitx_dict I.kIn #v[o,g,j.1] e (λz=>nomatch z) h
 |@ins a C U fs f cl G L N T=>
  cases(show u=aZ a from d);let{Y,O,_}:=Bc I.hok f;let{od,J,_}:=O.look;show eV (PySem.W.kitx_own (cl.get _) cl.hd G L N T) I.kIn J e (λz=>nomatch z) h
end
structure Room (k:Nat)(A:bU):Prop where
 hd:A.handled=MS
 dp:A.depth+3*k+5<recursionLimit
 un:A.units+16*k+200<dB
def Room.mono (r:Room k A)(h:j<=k):Room j A:=⟨r.hd,by have:=r.dp;lia,by have:=r.un;lia⟩
theorem Room.deeper (r:Room (k+1) A)(env:Env):Room k (A.deeper env):=
 ⟨r.hd,by have:=r.dp;change A.depth+1+3*k+5<_;lia,by have:=r.un;change A.units+3+16*k+200<_;lia⟩
def Su {A:bU}:(A.under (.builtin "type.__call__" {.ref C::us,a})).depth=A.depth+1:=by
 first | rfl | simp[uN,Code.weight,Code.isCreation,Code.isGuard,Code.isCaller,Code.frames,uO,guardIds]
def Sv {A:bU}:(A.under (.builtin "type.__call__" {.ref C::us,a})).units=A.units+1:=by
 first | rfl | simp[uN,Code.cUnits,Code.frames,uO]
def Room.make (r:Room (k+1) A)(C:MV)(us:AW)(a:List (Str×aL)):Room k (A.under (.builtin "type.__call__" {.ref C::us,a})):=
 ⟨r.hd,by have:=r.dp;rw[Su];lia,by have:=r.un;rw[Sv];lia⟩
theorem Room.depth (r:Room k A):A.depth<recursionLimit:=by have:=r.dp;lia
theorem Room.units (r:Room k A):A.units+64<dB:=by have:=r.un;lia
def Zh:TA:=λ_ H Q=>Q [] H
def tCons (b:TE)(tr:TA):TA:=λa H Q=>b a H λx c=>tr a c λxs d=>Q (x::xs) d
section
variable {X:Cx}{e:MX}{es:CY}{te:TE}{t:TA}{pos:Pos}
def n9:PA X [] Zh:=λ_ _ _ _ H Q I h=>Calls.spliced_nil {[],H,I,.nil,h}
def df (d:PE X e te)(f:PA X es t)(g:↥(aO (e::es) X.e=(MU,eval e X.e)::aO es X.e)):PA X (e::es) (tCons te t):=by
 intro pos b s c H Q I h;rw[g];change aJ _ _ (spliced ((MU,eval e X.e)::eE pos (aO es X.e))) _ _ s;show Calls.spliced_cons (thn (d b s c H _ I h) λu i a=>?_);let{x,j,l,m,n}:=a;show thn (f pos b i c j _ l n) λus w a=>by let{xs,p,I2,q,r}:=a;show{x::xs,p,I2,.cons m q,r}
def tTup (t:TA):TE:=λb H Q=>t b H λxs a=>xs.length<=sizeLine/\∀p,a p=MS->Q (.ref p) (upd a p (.tup xs))
def tLst (t:TA):TE:=λb H Q=>t b H λxs a=>xs.length<=sizeLine/\∀p,a p=MS->Q (.ref p) (upd a p (.lst xs))
def Vs (h:PA X es t):PE X (.Tuple es l pos) (tTup t):=by
 intro f s g H Q I i;show wpAny_Tuple_spliced (thn (h pos f s g H _ I i) λus a ⟨xs,c,d,r,z,q⟩=>{by rw[<-r.length];show z,?_});have j:c ‹a›=MS:=d.hok.fresh (aI _);show{.ref ‹a›,upd c ‹a› (.tup xs),d.laid (t':=a.toks) (λb u e=>aF _ e) (aI _) ?_,rfl,q _ j};show{z,us,r,{_,bK _ rfl,rfl,_,rfl}}
def K2 (h:PA X es t):PE X (.List es pos) (tLst t):=by
 intro f s g H Q I i;show wpAny_List_spliced (thn (h pos f s g H _ I i) λus a ⟨xs,c,d,r,z,q⟩=>{by rw[<-r.length];show z,?_});have j:c ‹a›=MS:=d.hok.fresh (aI _);show{.ref ‹a›,upd c ‹a› (.lst xs),d.laid (t':=a.toks) (λb u e=>aF _ e) (aI _) ?_,rfl,q _ j};show{z,us,0,r,bK _ rfl}
end
abbrev Sp:=EX->Hp->VK->XK->Prop
abbrev CXT:=List Env->Hp->aG->XK->aL->aG->Prop
structure Env0 (P:aQ)(w:bC)(K:aE)(mg:Str->AK)(base:MW)(A:bU)(outer:List Env)(s:aG)(H:Hp):Prop where
 frames:A.frames=KE outer
 mod:Mod K mg base
 bs:∀b o,base.get? b=KE o->s.heap.get? b=KE o/\H b=MS
 bsz:base.objs.size<=‹s›
 funs:s.heap.FunFrames base outer
 frf:∀b∈frs outer,H b=MS
 hok:HOk P w H s.heap
 bare:nO s.gens
def CE (outer:List Env)(P:aQ)(w:bC)(H:Hp)(s:aG)(Q:VK)(u:aL)(s':aG):Prop:=
 ∃v H',s'.os=s.os/\nO s'.gens/\Un (frs outer) [] H H' s.heap s'.heap/\HOk P w H' s'.heap/\RelV v u/\Q v H'
def CR (CX:CXT)(outer:List Env)(P:aQ)(w:bC)(H:Hp)(s:aG)(Q:VK)(E:XK)(r:vQ)(s':aG):Prop:=
 match r with
 | .ok (.ret u)=>CE outer P w H s Q u s'
 | .ok _=>False
 | .error e=>CX outer H s E e s'
structure fq (P:aQ)(w:bC)(K:aE)(mg:Str->AK)(base:MW)(CX:CXT)(k:Nat)(f:MV)(fd:gG)(ps:AZ)(sp:Sp):Prop where
 len:∀vs H Q E,sp vs H Q E->vs.length=ps.length
 run:∀A outer s H args us vs Q E,Room k A->Env0 P w K mg base A outer s H->rP s fd args (ps.zip us)->Vals vs us->sp vs H Q E->
  kQ (aT P w) A (.call (.ref f) args) (CR CX outer P w H s Q E) s
def Env0.make {P:aQ}{w:bC}{K:aE}{mg:Str->AK}{base:MW}{A:bU}{outer:List Env}{s:aG}{H:Hp}(e:Env0 P w K mg base A outer s H)(C:MV)(us:AW)(a:List (Str×aL)) :
  Env0 P w K mg base (A.under (.builtin "type.__call__" {.ref C::us,a})) outer s H:=⟨by first | show e.frames | (simpa[uN,Code.envs,uO,pushEnvs]using e.frames),e.mod,e.bs,e.bsz,e.funs,e.frf,e.hok,e.bare⟩
section
variable {X:Cx}{j':CW}{σ:St}{H:Hp}{s s':aG}
def Inv.env0 (I:Inv X j' σ H s):Env0 X.p X.w X.K X.mg X.base X.A X.stack s H:=
 {I.ok.frames,I.ok.mod,I.bs,aV I.ok.bsz I.sz,I.stack,I.stkFree,I.hok,I.bare}
def Inv.after (I:Inv X j' σ H s)(h:CE X.stack X.p X.w H s Q u s'):EP X j' σ Q u s':=by
 let{v,H',os,bare,un,hok,r,q}:=h;let{c,g,d,t,a}:=s';obtain rfl:a=s.os:=os;show{v,H',I.call (h':=c) (g':=g) (d':=d) (t':=t) (ch:=[]) un hok bare (λb z=>NC z ∅),r,q}
end
def Sw (sp:Sp)(a:EX)(E:XK)(t:TA):TE:=λb H Q=>t b H λvs c=>sp (vs++a) c Q E
def adb (C:MV)(m:Str)(sp:Sp)(d:EX)(E:XK)(e:TE)(t:TA):TE:=λb H Q=>e b H λx c=>∃a f fs,x=.ref a/\c a=KE (.ins C f fs)/\fs.lookup m=MS/\
 t b c λvs g=>sp (x::(vs++d)) g Q E
def tMake (C:MV)(sp:Sp)(c:EX)(E:XK)(t:TA):TE:=λd H Q=>t d H λvs b=>∀x a,b x=MS->b a=MS->a≠x->
 sp (.ref x::(vs++c)) (upd (upd b a (.own x)) x (.ins C a [])) (λv e=>v=.non/\Q (.ref x) e) E
def Binds (K:aE)(fd:gG)(ps:AZ)(ds:AW):Prop:=
 ∀s us,K.In s.heap->(us++ds).length=ps.length->rP s fd {us,[]} (ps.zip (us++ds))
def Binds.all {K:aE}{fd:gG}{ps:AZ}(h:∀us:AW,us.length=ps.length->pD fd {us,[]}=pure (ps.zip us)):Binds K fd ps []:=λs us _ a=>by
 rw[bP]at a ⊢;show .of_eq (h us a)
def oa (CX:CXT)(X:Cx)(E:XK):Prop:=∀a b H s e s',Inv X a b H s->CX X.stack H s E e s'->X.xe e s'
section
variable {X:Cx}{CX:CXT}{k:Nat}{f C:MV}{fd:gG}{ps:AZ}{sp:Sp}{AG:EX}{ds:AW}{E:XK}{x m:Str}{p pos xF:Pos}{e o:MX}{es:CY}{ta:TE}{t:TA}
def zy (F:fq X.p X.w X.K X.mg X.base CX k f fd ps sp)(g:Room k X.A)(i:Binds X.K fd ps ds)(hd:Vals AG ds)(j:oa CX X E)
  (I:Inv X b c H s) (r:Vals vs us) (h:sp (vs++AG) H Q E):aJ (aT X.p X.w) X.A (call (.ref f) us) (EP X b c Q) X.xe s:=by
 have d:Vals (vs++AG) (us++ds):=r.append hd;have l:(us++ds).length=ps.length:=(by rw[<-d.length];show F.len _ _ _ _ h);show pR (mM (F.run X.A X.stack s H {us,[]} (us++ds) (vs++AG) Q E g I.env0 (i s us I.kIn l) d h) λr s' a=>?_);cases r with
 |error e=>show j b c H s e s' I a
 |ok n=>
  cases n with
  |ret u=>show I.after a
  |next=>show eU a
  |brk=>show eU a
  |cont=>show eU a
def Gg (F:fq X.p X.w X.K X.mg X.base CX k f fd ps sp)(b:Room k X.A)(c:Gl X x)(d:X.mg x=KE (.ref f))(hk:dH X.K (.ref f)=MT)(g:Binds X.K fd ps ds)(hd:Vals AG ds)(i:oa CX X E)
  (j:PA X (e::es) t) (l:↑((x==("__debug__":Str))=MU)) (n:↥(aO (e::es) X.e=(MU,eval e X.e)::aO es X.e)) (u:↥((eE pos (aO es X.e)).any (·.1)=MU)) :
  PE X (.Call (.Name x p) (e::es) [] pos) (Sw sp AG E t):=by
 intro y s z H Q I h;show iE (mj I c d ?_ l);show jX (h₀:=X.base) I.ok.mod.kin hk (thn (j pos y s z H _ I h) λus G D=>?_) n u;let{vs,J,a,r,q}:=D;show{a.kIn,?_};show zy F b g hd i a r q
def Zi (F:fq X.p X.w X.K X.mg X.base CX k f fd ps sp)(a:Room k X.A)(b:Gl X x)(c:X.mg x=KE (.ref f))(hk:dH X.K (.ref f)=MT)(d:Binds X.K fd ps ds)(hd:Vals AG ds)(g:oa CX X E)
  (i:↑((x==("__debug__":Str))=MU)):PE X (.Call (.Name x p) [] [] pos) (Sw sp AG E Zh):=by
 intro j s l H Q I h;show iE (mj I b c ?_ i);show PySem.W.callWith_K0 I.kIn hk (zy (us:=[]) F a d hd g I .nil h)
def aek (y:PE X o ta)(c:Cls X.K C)(d:Kz X.K C m f)(F:fq X.p X.w X.K X.mg X.base CX k f fd ps sp)(z:Room k X.A)(D:Binds X.K fd ps ds)(hd:Vals AG ds)(G:oa CX X E)(J:PA X (e::es) t)
  (L:↥(aO (e::es) X.e=(MU,eval e X.e)::aO es X.e)) (N:↥((eE pos (aO es X.e)).any (·.1)=MU))
  (O:eval (.Call (.Attribute o m xF) (e::es) [] pos) X.e=(do
    let g <-eval o X.e
    mL xF.atName
    let (f,first) <-jF [g] (mW g m pl)
    qO pos f first (eE pos (aO (e::es) X.e)) (mG pos (jH [] X.e))):=by rfl) :
  PE X (.Call (.Attribute o m xF) (e::es) [] pos) (adb C m sp AG E ta t):=by
 intro i s j H Q I h;show mO (pl:=pl) (thn (y i s j H _ I h) λu T b=>?_) O;let{x,U,n,Y,a,dx,fs,ex,ea,l,q}:=b;subst ex;obtain rfl:u=aZ a:=Y;show Ei n ea c d l ?_;show jX (first:=[.ref a]) (h₀:=X.base) I.ok.mod.kin d.kp (thn (J pos i T j U _ n q) λus s2 b=>?_) L N
 let{vs,H2,I2,r,q2}:=b;show{I2.kIn,?_};show zy (us:=.ref a::us) (vs:=.ref a::vs) F z D hd G I2 (.cons rfl r) q2
def Zj (i:PE X o ta)(c:Cls X.K C)(d:Kz X.K C m f)(F:fq X.p X.w X.K X.mg X.base CX k f fd ps sp)(j:Room k X.A)(n:Binds X.K fd ps ds)(hd:Vals AG ds)(r:oa CX X E)
  (y:eval (.Call (.Attribute o m xF) [] [] pos) X.e=(do
    let g <-eval o X.e
    mL xF.atName
    let (f,first) <-jF [g] (mW g m pl)
    qO pos f first (eE pos (aO [] X.e)) (mG pos (jH [] X.e))):=by rfl) :
  PE X (.Call (.Attribute o m xF) [] [] pos) (adb C m sp AG E ta Zh):=by
 intro z s D H Q I h;show mO (pl:=pl) (thn (i z s D H _ I h) λu N G=>?_) y;let{x,O,b,J,a,T,fs,ex,L,l,q}:=G;subst ex;obtain rfl:u=aZ a:=J;show Ei b L c d l ?_;show PySem.W.callWith_K0 (first:=[.ref a]) b.kIn d.kp (zy (us:=[.ref a]) (vs:=[.ref a]) F j n hd r b (.cons rfl .nil) q)
structure Mk (K:aE)(C f:MV):Prop where
 makes:pQ K C=MT
 init:bH K (.ref C) "__init__"=KE (KE (.ref f))
 fn:iB K (.ref f)=MT
 kp:dH K (.ref C)=MT
def Zk (M:Mk X.K C f)(F:fq X.p X.w X.K X.mg X.base CX k f fd ps sp)(j:Room (k+1) X.A)(l:Binds X.K fd ps ds)(hd:Vals AG ds)
  (n:oa CX X E) (I:Inv X c d H s) (r:Vals vs us)
  (h:∀x b,H x=MS->H b=MS->b≠x->sp (.ref x::(vs++AG)) (upd (upd H b (.own x)) x (.ins C b [])) (λv q=>v=.non/\Q (.ref x) q) E) :
  aJ (aT X.p X.w) X.A (call (.ref C) us) (EP X c d Q) X.xe s:=by
 have g:=h (‹s›+1) ‹s› (I.hok.fresh (sY _)) (I.hok.fresh (aI _)) (bN (iC _));have I2:=Inv.made (C:=C) I;have i:Vals (V.ref (‹s›+1)::(vs++AG)) (aZ (‹s›+1)::(us++ds)):=.cons rfl (r.append hd);have y:(aZ (‹s›+1)::us++ds).length=ps.length:=by
  have e:=i.length;rw[F.len _ _ _ _ g]at e;show e.symm
 show pR (Zg (f:=f) I.kIn M.makes M.init (beq_iff_eq.mp M.fn) (mM (F.run _ X.stack _ _ {aZ (‹s›+1)::us,[]} (aZ (‹s›+1)::(us++ds)) _ _ E (j.make C us []) (I2.env0.make C us []) (l _ (aZ (‹s›+1)::us) I2.kIn y) i g) λr s' a=>?_));cases r with
 |error e=>show n c d _ _ e s' I2 a
 |ok z=>
  cases z with
  |ret u=>
   let{v,H',D,G,J,L}:=I2.after a;subst J;show{G,{V.ref (‹s›+1),H',D,rfl,L}}
  |next=>show eU a
  |brk=>show eU a
  |cont=>show eU a
def ael (M:Mk X.K C f)(F:fq X.p X.w X.K X.mg X.base CX k f fd ps sp)(b:Room (k+1) X.A)(c:Gl X x)(d:X.mg x=KE (.ref C))(g:Binds X.K fd ps ds)(hd:Vals AG ds)(i:oa CX X E)
  (j:PA X (e::es) t) (l:↑((x==("__debug__":Str))=MU)) (n:↥(aO (e::es) X.e=(MU,eval e X.e)::aO es X.e)) (u:↥((eE pos (aO es X.e)).any (·.1)=MU)) :
  PE X (.Call (.Name x p) (e::es) [] pos) (tMake C sp AG E t):=by
 intro y s z H Q I h;show iE (mj I c d ?_ l);show jX (h₀:=X.base) I.ok.mod.kin M.kp (thn (j pos y s z H _ I h) λus G D=>?_) n u;let{vs,J,a,r,q}:=D;show{a.kIn,?_};show Zk M F b g hd i a r q
end
structure cz (N P:AZ)(sc:lS):Prop where
 kind:sc.kind=.function
 co:sc.isCoroutine=MU
 gen:sc.isGenerator=MU
 nd:N.Nodup
 pre:N.take P.length=P
 par:∀x∈P,sc.names.lookup x=KE .local\/sc.names.lookup x=KE .cell
 nofree:∀y∈sc.names,y.2≠.free
theorem Ik {kindOf:Str->Option rV}:∀{binds:List (Str×aL)}{m:Str->AK},(∀v,(x,v) ∉ binds)->tV kindOf binds m x=m x
 | [],_,_=>rfl
 | (n,v)::r,m,h=>by
  unfold tV;rw[Ik λw hw=>h w (aP _ hw)]
  split;{have:x≠n:=(by rintro rfl;show h v aR);simp[this]};{rfl}
theorem Il {kindOf:Str->Option rV}:∀{binds:List (Str×aL)}{m:Str->AK},(∀v,(x,v) ∉ binds)->tW kindOf binds m x=m x
 | [],_,_=>rfl
 | (n,v)::r,m,h=>by
  unfold tW;rw[Il λw hw=>h w (aP _ hw)]
  split;{rfl};{have:x≠n:=(by rintro rfl;show h v aR);simp[this]}
theorem Im {kindOf:Str->Option rV}:∀{P:AZ}{vs:AW}{i:Nat}{m:Str->AK},P.Nodup->P[i]?=KE x->vs[i]?=KE v->kindOf x=KE .local->
  tV kindOf (P.zip vs) m x=KE v
 | [],_,_,_,_,h,_,_=>by simp at h
 |_::_,[],_,_,_,_,h,_=>by simp at h
 |p::P,w::vs,0,m,nd,a,b,hk=>by
  simp at a b;subst a;subst b;change tV kindOf ((p,w)::P.zip vs) m p=_;unfold tV;rw[Ik λv c=>(fS.mp nd).1 (sR c).1,MZ hk];simp
 |p::P,w::vs,i+1,m,nd,a,b,hk=>by
  change tV kindOf ((p,w)::P.zip vs) m x=_;unfold tV;show Im (i:=i) (fS.mp nd).2 (⇑a) (⇑b) hk
theorem Io {kindOf:Str->Option rV}:∀{P:AZ}{vs:AW}{i:Nat}{m:Str->AK},P.Nodup->P[i]?=KE x->vs[i]?=KE v->kindOf x≠KE .local->
  tW kindOf (P.zip vs) m x=KE v
 | [],_,_,_,_,h,_,_=>by simp at h
 |_::_,[],_,_,_,_,h,_=>by simp at h
 |p::P,w::vs,0,m,nd,a,b,hk=>by
  simp at a b;subst a;subst b;change tW kindOf ((p,w)::P.zip vs) m p=_;unfold tW;rw[Il λv c=>(fS.mp nd).1 (sR c).1,M' hk];simp
 |p::P,w::vs,i+1,m,nd,a,b,hk=>by
  change tW kindOf ((p,w)::P.zip vs) m x=_;unfold tW;show Io (i:=i) (fS.mp nd).2 (⇑a) (⇑b) hk
def start (N:AZ)(vs:EX):St:=vs.map KE++bB (N.length-vs.length) MS
def rj (CX:CXT)(P:aQ)(w:bC)(K:aE)(mg:Str->AK)(base:MW)(N:AZ)(wF:Str)(scope:lS)(f:MV)(cd:aL)(A:bU)(outer:List Env)(s:aG)(H:Hp)(E:XK):Cx where
 p:=P
 w:=w
 K:=K
 mg:=mg
 base:=base
 A:=A.deeper (nI wF scope ‹s› f cd)
 N:=N
 s₀:=s
 H₀:=H
 e:=nI wF scope ‹s› f cd
 outer:=outer
 stack:=nI wF scope ‹s› f cd::outer
 ex:=[]
 calm:=MT
 fn:=λ_=>MT
 pn:=[]
 xe:=λe s'=>aJ (aT P w) (A.deeper (nI wF scope ‹s› f cd)) (leaving (nI wF scope ‹s› f cd) e) (λ_ IH=>CX outer H s E e IH) (λe' IH=>CX outer H s E e' IH) s'
def K3 {a:lS}(h:a.names.lookup x=KE .cell):∃c,(cellsFrom n a.names []).lookup x=KE c:=by
 have q:=PySem.W.cellsFrom_some a.names n [] (.inl h);show nW.mp q
def Vt {CX:CXT}{P:aQ}{w:bC}{K:aE}{mg:Str->AK}{base:MW}{N ps:AZ}{l:Str}{d:lS}{f:MV}{cd:aL}{A:bU}{outer:List Env}{s D:aG}{H:Hp}{E:XK}{us:AW}{vs:EX}
  (S:cz N ps d) (hd:A.handled=MS) (e0:Env0 P w K mg base A outer s H) (O:vs.length=ps.length) (r:Vals vs us)
  (x:InCallC s ‹s› (tV (nI l d ‹s› f cd).kindOf (ps.zip us) λ_=>MS) (cellsFrom (‹s›+1) d.names []) (tW (nI l d ‹s› f cd).kindOf (ps.zip us) λ_=>MS) D) :
  Inv (rj CX P w K mg base N l d f cd A outer s H E) [] (start N vs) H D:=by
 have Q:ps.length<=N.length:=(by have:=NG sZ S.pre;rw[cK]at this;lia);let{m,T,rfl,hk}:=x.done;have C:∀b:MV,b ∉ (rj CX P w K mg base N l d f cd A outer s H E).ex:=λb z=>NC (show b∈([]:DV)from z) ∅;show⟨{e0.mod,S.kind,rfl,rfl,aI _,λy z c m g=>?_,λy hy=>?_,λy c _ h=>?_,λ_=>hd,Around.frames_deeper e0.frames,.inr #v[rfl,rfl],λb z=>NC z (C b),e0.bs,e0.bsz,λb _ _=>C b,λb z=>NC z (C b),e0.funs,e0.frf},
   rfl,e0.bare,Un.kept hk,{_,x.toInCall.ns,λi y v m g U=>?_},λy c h=>{_,x.cell y c h},e0.hok.fresh (aI _),λy c h=>?_,λp j=>NC (show p∈([]:CW)from j) ∅,e0.hok.kept hk,?_⟩
 ·show name_of_addr x.apart (jQ m) (jQ g)
 {have hy:d.names.lookup y=KE .cell\/d.names.lookup y=KE .free:=hy;rcases hy with hy | hy;{show K3 hy};{show NC rfl (S.nofree _ (jQ hy))}};{show kW (x.above y c (jQ h))}
 ·have hi:i<vs.length:=by
   unfold start at g;by_cases hi:i<vs.length;{show hi}
   ·rw[cQ (⇑hi)]at g;rw[dP]at g
    split at g<;>cases g
  have J:vs[i]?=KE v:=by
   unfold start at g;rw[cE (⇑hi),aW]at g;cases e:vs[i]? with
   |none=>rw[e]at g;cases g
   |some a=>rw[e]at g;cases g;rfl
  let{u,G,L}:=r.get J;have j:ps[i]?=KE y:=by
   rw[<-S.pre,List.getElem?_take_of_lt ()];show m
  have I:ps.Nodup:=(by rw[<-S.pre];show S.nd.sublist (List.take_sublist _ _));show{u,L,?_};rcases S.par y (aU j)with k | k;{show .inl {k,Im I j G k}};{let{c,e}:=K3 (n:=‹s›+1) k;show .inr {.inl k,c,e,?_};have q:=x.cell y c e;rw[Io I j G (by change d.names.lookup y≠_;rw[k];decide)]at q;show q}
 {show e0.hok.fresh (kW (x.above y c (jQ h)))};{unfold start;change _=N.length;rw[aH,aC,dC];lia}
def ade {CX:CXT}{P:aQ}{w:bC}{K:aE}{mg:Str->AK}{base:MW}{k:Nat}{f:MV}{name g:Str}{c:Arguments}{body:List MY}{a:lS}{C kV D G i ct U:aL}{L Y:Option MV}
  {CI:Array AK}{N ps:AZ}{sp:Sp}(lk:K.lookup f=KE {U,Y,.func (fM name g c body a C kV D G L i ct),CI}) (AB:kR K i g=MT) (S:cz N ps a)
  (len:∀vs H Q E,sp vs H Q E->vs.length=ps.length)
  (AY:∀(A:bU)(outer:List Env) (s:aG) (H:Hp) (vs:EX) (Q:VK) (E:XK),Room k (A.deeper (nI g a ‹s› f i))->sp vs H Q E->∃t,PSs (rj CX P w K mg base N g a f i A outer s H E) body t/\t {nx:=λ_ H'=>Q .non H',rt:=Q} (start N vs) H) :
  fq P w K mg base CX (k+1) f (fM name g c body a C kV D G L i ct) ps sp:=by
 show{len,λA outer s H args us vs Q E m e0 hb r O=>?_};have hl:=len _ _ _ _ O;have KX:K.In s.heap:=e0.mod.kin.keeps λb o e=>(e0.bs b o e).1;have p:s.heap.NoLimit:=e0.mod.nolimit.keeps λb o e=>(e0.bs b o e).1;have j:∀y∈ps.zip us,a.names.lookup y.1=KE .local\/(a.names.lookup y.1=KE .cell/\((cellsFrom (‹s›+1) a.names []).lookup y.1).isSome=MT):=λ⟨n,v⟩ hy=>by
  rcases S.par n (sR hy).1 with q | q;{show .inl q};{show .inr {q,PySem.W.cellsFrom_some _ _ _ (.inl q)}}
 show codeAny_call_function m.depth (KX _ _ lk) rfl S.co S.gen rfl (PySem.W.codeRec_of KX AB) (hb _ _ _ _ ?_);show wpAny_newFunctionEnv_cells S.kind j λenv he T x=>?_;subst he;show{p.keeps x.toInCall.keep,codeAny_func ?_};let{t,ht,hq}:=AY A outer s H vs Q E (m.deeper _) O;have I:Inv (rj CX P w K mg base N g a f i A outer s H E) [] (start N vs) H T:=Vt S m.hd e0 hl r x;show dW (ht [] T (start N vs) H _ I hq) (λfl s' l=>?_) λe s' l=>l;have fin:∀{d:St}{H':Hp}{v:V}{u:aL},Inv (rj CX P w K mg base N g a f i A outer s H E) [] d H' s'->RelV v u->Q v H'->CE outer P w H s Q u s':=
  λ{d H' v u} J z q=>#v[v,H',J.os,J.bare,J.base,J.hok,z,q]
 cases fl with
 |ret u=>
  let{v,d,H',J,z,q}:=l;show fin J z q
 |next=>
  let{d,H',J,q}:=l;show fin (v:=V.non) (u:=fO) J rfl q
 |brk=>
  let{_,_,_,q}:=l;show eU q
 |cont=>
  let{_,_,_,q}:=l;show eU q
section
variable {X:Cx}{x:Str}{p pos:Pos}{e:MX}{es:CY}{t:TA}{id T:String}{r:EX->Hp->VK->Prop}
def tCB (r:EX->Hp->VK->Prop)(t:TA):TE:=λa H Q=>t a H λvs b=>r vs b Q
def vd (c:ia X (.builtin id) r)(d:Gl X x)(f:X.mg x=MS)(g:fR x=KE (.builtin id))(i:PA X (e::es) t)(j:↑(x≠"__name__"))(l:↑((x==("__debug__":Str))=MU))
  (m:↥(aO (e::es) X.e=(MU,eval e X.e)::aO es X.e)) (n:↥((eE pos (aO es X.e)).any (·.1)=MU)):PE X (.Call (.Name x p) (e::es) [] pos) (tCB r t):=by
 intro a s b H Q I h;show iE (ny I d f g ?_ j l);show PyProof.Rows.callWith_builtin1 (thn (i pos a s b H _ I h) λus q u=>by let{vs,w,y,z,A}:=u;show c a q b w vs us Q y z A) m n
def Vu (c:ia X (.type T) r)(d:Gl X x)(f:X.mg x=MS)(g:fR x=KE (.type T))(i:PA X (e::es) t)(j:↑(x≠"__name__"))(l:↑((x==("__debug__":Str))=MU))
  (m:↥(aO (e::es) X.e=(MU,eval e X.e)::aO es X.e)) (n:↥((eE pos (aO es X.e)).any (·.1)=MU)):PE X (.Call (.Name x p) (e::es) [] pos) (tCB r t):=by
 intro a s b H Q I h;show iE (ny I d f g ?_ j l);show fP (thn (i pos a s b H _ I h) λus q u=>by let{vs,w,y,z,A}:=u;show c a q b w vs us Q y z A) m n
end
end L2
namespace HT
open PySem PyProof.Rows
def lexLt:LQ->LQ->Bool
 | [],[]=>MU
 | [],_::_=>MT
 |_::_,[]=>MU
 |x::xs,y::ys=>if x=y then lexLt xs ys else decide (x<y)
def lexLt_cons (x y:Int)(xs ys:LQ):lexLt (x::xs) (y::ys)=if x=y then lexLt xs ys else decide (x<y):=rfl
def Jo:lexLt [] []=MU:=rfl
def Gh (y:Int)(ys:LQ):lexLt [] (y::ys)=MT:=rfl
def Gi (x:Int)(xs:LQ):lexLt (x::xs) []=MU:=rfl
def Zl (A:bU)(s:aG)(a:Int)(t:Tok)(c:Int)(u:Tok):∃e,tX A s (.int a t) (.int c u) e/\(e=MT↔a=c):=
 {(a==c),SeqAt.EqAt.int_int a t c u,by simp}
def Zm (A:bU)(s:aG)(a:Int)(t:Tok)(c:Int)(u:Tok)(prog:aQ)(w:bC)(E:aL->aG->Prop)(Q:aL->aG->Prop)(h:Q (.bool (decide (a<c))) s) :
  aJ (aT prog w) A (richCompare .Lt (.int a t) (.int c u)) Q E s:=
 (PyProof.Rows.lt_int h:aJ (aT prog w) A (dU .Lt (.int a t) (.int c u)) Q E s)
section
open PySem.SeqAt
open PySem.AutoSeq1 (wpAny_loadPart')
open PySem.MeetsSeq PySem.MeetsSeq2 PySem.MeetsSeq3
def Jp (l b:MV)(items items2:BW)(n n2:Nat)(dd Y:Option MV)(sl CJ:Array AK)(ns z:LQ)(hi:mQ items.toList ns)(Q:mQ items2.toList z) :
  Meets (fW.«tuple.__lt__» {[.ref l,.ref b],[]})
   (λ_ R s=>s.heap.get? l=KE {cls:=.type "tuple",dict:=dd,data:=.seq items n,slots:=sl}/\s.heap.get? b=KE {cls:=.type "tuple",dict:=Y,data:=.seq items2 n2,slots:=CJ}/\R (.ok (.ret (.bool (lexLt ns z)))) s):=
 .of_wp λprog w A R s h=>by
  let{C,g,d,D,os}:=s;let{hl,hb,h}:=h;have f2:=AutoSeq1.sub_tuple_tuple;have z1:items.size=ns.length:=(by rw[<-hi.length];simp);have z2:items2.size=z.length:=by rw[<-Q.length];simp
  wp_walk using wpAny_loadPart' hl,wpAny_loadPart' hb,jS _ (λrest b s'=>b.1=MS/\s'=#v[C,g,d,D,os]/\∃vs E i j,rest=vs.zip E/\mQ vs i/\mQ E j/\i.length+items2.size=j.length+items.size/\R (.ok (.ret (.bool (lexLt i j)))) #v[C,g,d,D,os]) _
  case turn=>
   intro H rest b s' I;let{y,x}:=H;let{J,rfl,vs,E,i,j,hz,L,G,m,f}:=I;cases L with
   |nil=>rw[List.zip_nil_left]at hz;cases hz
   |cons a t p=>
    cases G with
    |nil=>rw[List.zip_nil_right]at hz;cases hz
    |cons c u r=>
     rw[nX]at hz;injection hz with N hrest;injection N with hy hx;subst hy hx;rw[lexLt_cons]at f;simp only[aS]at m;let{e,he,T}:=Zl A.in1 #v[C,g,d,D,os] a t c u;show aA (he prog w _ _ ?_);cases e with
     |true=>
      rw[MZ (T.mp rfl)]at f
      wp_walk
      show{rfl,rfl,_,_,_,_,hrest,p,r,(),f}
     |false=>
      rw[M' (λq=>NC (T.mpr q) aY)]at f;have O:=Zm A.in1 #v[C,g,d,D,os] a t c u prog w
      wp_walk using O
      show{_,rfl,by simpa using f}
  case fin=>
   intro H s' I;let{b1,b2}:=H;let{J,rfl,vs,E,i,j,hz,L,G,m,f}:=I;simp only at J;subst J;have U:lexLt i j=decide (items.size<items2.size):=by
    cases L with
    |nil=>
     cases G with
     |nil=>
      simp only[kB]at m;rw[Jo];show(NA ()).symm
     |cons c u hw=>
      simp only[kB,aS]at m;rw[Gh];show(NB ()).symm
    |cons a t U=>
     cases G with
     |nil=>
      simp only[kB,aS]at m;rw[Gi];show(NA ()).symm
     |cons c u hw=>
      rw[nX]at hz;cases hz
   rw[U]at f
   wp_walk
   show{_,rfl,by simpa[Builtin.Tuple.tupleCompareSizes]using f}
  case h=>
   show{rfl,rfl,items.toList,items2.toList,ns,z,rfl,hi,Q,(),h}
end
section
variable {prog:aQ}{w:bC}{A:bU}{E:aL->aG->Prop}{s:aG}
def lt_tupInts (j:sN s.heap l items)(m:sN s.heap b items2)(hi:mQ items.toList ns)(p:mQ items2.toList a)
  (q:A.units<dB) (h:Q (.bool (lexLt ns a)) s):aJ (aT prog w) A (dU .Lt (.ref l) (.ref b)) Q E s:=by
 let{{cls,dd,data,r},c,d,n,hd}:=id j;let{{e,u,data2,y},f,g,n2,i}:=id m;simp only at d hd g i;subst d hd g i;show richCompare_meets_room (op:=.Lt) {_,c,rfl} {_,f,rfl} PySem.F.slot_tuple_lt PySem.F.entry_tuple_lt (PySem.F.args_tuple_lt_2 _ _) (Jp l b items items2 n n2 dd u r y ns a hi p)
  {c,f,show oF (lexLt ns a)≠Value.notImplemented/\Q (.bool (lexLt ns a)) s from{(λx=>nomatch x),h}} q
def cat_tup (r:sN s.heap t vs.toArray)(u:sN s.heap b a.toArray)(f:vs≠[])
  (x:a=[]->Q (.ref t) s) (y:a≠[]->Q (.ref ‹s›) {s with heap:=s.heap.push {cls:=.type "tuple",data:=.seq (vs++a).toArray} })
  (hsz:vs.length+a.length<=sizeLine):aJ (aT prog w) A (eS .Add (.ref t) (.ref b)) Q E s:=by
 let{{cls,dd,data,g},c,i,n,hd}:=id r;let{{j,l,data2,m},d,p,n2,q}:=id u;simp only at i hd p q;subst i hd p q;have e:vs.toArray++a.toArray=(vs++a).toArray:=∅;by_cases hw:a=[]
 ·show uP {_,c,rfl} {_,d,rfl} rW uD oX oO (nY _ _)
   (tuple_addW1 t b vs.toArray a.toArray n n2 dd l g m (⇑f) (by simp[hw])) {c,d,x hw}
 ·show uP {_,c,rfl} {_,d,rfl} rW uD oX oO (nY _ _)
   (tuple_addW2 t b vs.toArray a.toArray n n2 dd l g m (⇑f) (⇑hw) (by rw[aK,aK];show hsz)) {c,d,?_}
  rw[e];show y hw
def sIx (n d:Nat):BV->Nat
 |none=>d
 |some v=>if v<0 then (v+(n:Int)).toNat else min v.toNat n
def aiu (n d:Nat)(hd:d<=n)(o:BV):sIx n d o<=n:=by
 cases o with
 |none=>show hd
 |some v=>
  change(if v<0 then (v+(n:Int)).toNat else min v.toNat n)<=n
  by_cases a:v<0;{rw[MZ a];lia};{rw[M' a];show rX _ _}
def Py (v:Int)(n d:Nat):(if v<0 then max (v+(n:Int)) 0 else min v (n:Int))=((sIx n d (KE v):Nat):Int):=by
 change(if v<0 then max (v+(n:Int)) 0 else min v (n:Int))=(((if v<0 then (v+(n:Int)).toNat else min v.toNat n):Nat):Int)
 by_cases a:v<0;{simp only[MZ a];lia};{simp only[M' a];lia}
def Sx (lo hi:BV)(n:Nat):gY lo hi 1 (n:Int)=(((sIx n 0 lo:Nat):Int),((sIx n n hi:Nat):Int)):=by
 have a:¬((1:Int)<0):=();unfold gY;simp only[a,if_false];show Prod.ext ?_ ?_
 ·cases lo with
  |none=>rfl
  |some v=>show Py v n 0
 ·cases hi with
  |none=>rfl
  |some v=>show Py v n n
def Sy (i j:Nat):fF (i:Int) (j:Int) 1=j-i:=by
 unfold fF;have a:(1:Int) > 0:=();simp only[a,if_true,uQ]
 split<;>lia
def Ej (p:pS v o)(h:Q o s):aJ (aT prog w) A (Builtin.Slice.slicePartIndex v) Q E s:=by
 cases p with
 |none=>show qP h
 |int i t=>show slicePart_int h
def vg {lo hi:BV}{n:Nat}{Q:Int×Int×Nat->aG->Prop}(e:s.heap.IsSliceOf f c d .none)(pl:pS c lo)(g:pS d hi)
  (h:Q (((sIx n 0 lo:Nat):Int),1,sIx n n hi-sIx n 0 lo) s):aJ (aT prog w) A (kF (.ref f) (pure (n:Int))) Q E s:=by
 let{os,a,i,b}:=id e;unfold kF Builtin.Slice.sliceFields;show aA (aA (dD a b (x:=c) rfl (aA (dD a b (x:=d) rfl (aA (dD a b (x:=.none) rfl (WQ ?_)))))));show aA (qP ?_);change aJ _ _ (if ((1:Int)==0)=MT then _ else _) _ _ s
 rw[M' #v[]];show aA (Ej pl (aA (Ej g (aA (WQ ?_)))));change aJ _ _ (match gY lo hi 1 (n:Int)with | (lo,hi)=>pure (lo,(1:Int),fF lo hi 1)) _ _ s
 rw[Sx lo hi n];change aJ _ _ (pure (((sIx n 0 lo:Nat):Int),(1:Int),fF ((sIx n 0 lo:Nat):Int) ((sIx n n hi:Nat):Int) 1)) _ _ s;rw[Sy];show WQ h
def Zn (xs:BW)(i k:Nat):((bG k).filterMap λ(m:Nat)=>xs[((i:Int)+(m:Int)*1).toNat]?).toArray=((xs.toList.drop i).take k).toArray:=by
 have e:(λ(m:Nat)=>xs[((i:Int)+(m:Int)*1).toNat]?)=λm=>xs[i+m]?:=by
  funext m
  have:((i:Int)+(m:Int)*1).toNat=i+m:=();rw[this]
 rw[e];have:=pick_run xs i k;rw[qY]at this;have a:((λx=>xs[x]?)∘λx=>i+x)=λm=>xs[i+m]?:=rfl;rw[a]at this;rw[this]
def getItem_tuple_cut {items:BW}{lo hi:BV}{Q:aL->aG->Prop}(a:sN s.heap t items)(d:s.heap.IsSliceOf e f g .none)(pl:pS f lo)(i:pS g hi)
  (hw:¬(sIx items.size 0 lo=0/\sIx items.size items.size hi=items.size))
  (h:Q (.ref ‹s›) {s with heap:=s.heap.push {cls:=.type "tuple",data:=.seq ((items.toList.drop (sIx items.size 0 lo)).take (sIx items.size items.size hi-sIx items.size 0 lo)).toArray} })
  (hsz:items.size<=sizeLine):aJ (aT prog w) A (oJ (.ref t) (.ref e)) Q E s:=by
 have b:sizeOk (.seq ((items.toList.drop (sIx items.size 0 lo)).take (sIx items.size items.size hi-sIx items.size 0 lo)).toArray):=by
  change((items.toList.drop (sIx items.size 0 lo)).take (sIx items.size items.size hi-sIx items.size 0 lo)).toArray.size<=sizeLine;rw[aK,cK,eY,gQ];lia
 have p:sIx items.size items.size hi<=items.size:=aiu _ _ (aI _) hi;let{os,j,l,r}:=id d;have n:s.TypeIs (.ref e) "slice":=#v[os,j,l];unfold oJ
 try with_reducible show gK ?_
 first | show aA (WQ ?_) | skip
 show aA (rM a.typeIs #v[] ?_);show aA (fA (name:=eA "__getitem__") a.typeIs dO (fN dO a.typeIs qK ?_ (qZ _ _)));change aJ _ _ (kG (.ref t) >>= _) _ _ s;show aA (tupleItemsOf_ a ?_);show aA (kX n ?_);rw[MZ #v[]];show aA (vg d pl i ?_);have c:¬((((sIx items.size 0 lo:Nat):Int)==0&&(1:Int)==1&&(sIx items.size items.size hi-sIx items.size 0 lo)==items.size)=MT):=by
  intro q;rw[eG,eG]at q;have u:((sIx items.size 0 lo:Nat):Int)=0:=eq_of_beq q.1.1;have x:sIx items.size items.size hi-sIx items.size 0 lo=items.size:=eq_of_beq q.2;show hw {(),()}
 change aJ _ _ (if (((sIx items.size 0 lo:Nat):Int)==0&&(1:Int)==1&&(sIx items.size items.size hi-sIx items.size 0 lo)==items.size)=MT then _ else _) _ _ s
 rw[M' c,Zn]
 first
  |show aA (m:=gA _) (fB (WQ {_,rfl,WQ h}) b)
  |show aA (m:=gA _) (fB (aA (WQ (WQ {_,rfl,WQ h}))) b)
  |show aA (aA (m:=gA _) (fB (WQ (WQ {_,rfl,WQ h})) b))
  |show aA (aA (m:=gA _) (fB (WQ {_,rfl,WQ h}) b))
end
end HT
namespace L2
open PySem PySem.Spec PyProof.Rows
abbrev TO:=St->Hp->(BV->Hp->Prop)->Prop
def PO (X:Cx)(e:Option MX)(t:TO):Prop:=
 ∀b s a H Q,Inv X b a H s->t a H Q->
  aJ (aT X.p X.w) X.A (evalPart e X.e) (λu s'=>∃o H',Inv X b a H' s'/\pS u o/\Q o H') X.xe s
def aem:TO:=λ_ H Q=>Q MS H
def tPart (t:TE):TO:=λa H Q=>t a H λx b=>∃i,x=.int i/\Q (KE i) b
section
variable {X:Cx}{e:MX}{te:TE}{lo hi:Option MX}{tl th:TO}{pos p2:Pos}
def aen:PO X MS aem:=by
 intro a s b H Q I h;rw[uE];show WQ {MS,H,I,.none,h}
def aeo (h:PE X e te):PO X (KE e) (tPart te):=by
 intro a s b H Q I hw;rw[evalPart_some];show thn (h a s b H _ I hw) λu l c=>?_;let{x,d,f,g,j}:=c;let{i,rfl,q}:=j;let{t,rfl}:=g;show{KE i,d,f,.int i t,q}
def SlR (X:Cx)(r:V->BV->BV->Hp->VK->Prop):Prop:=
 ∀a s b H x v c d lo hi f Q,Inv X a b H s->RelV x v->s.heap.IsSliceOf f c d .none->pS c lo->pS d hi->r x lo hi H Q->
  ∃T id,gH (.type T) "__getitem__"=pure (KE (.builtin id))/\s.TypeIs v T/\aJ (aT X.p X.w) X.A (oJ v (.ref f)) (EP X a b Q) X.xe s
def tSl (r:V->BV->BV->Hp->VK->Prop)(te:TE)(tl th:TO):TE:=λa H Q=>te a H λx b=>tl a b λl c=>th a c λu d=>r x l u d Q
def Zo (m:SlR X r)(n:PE X e te)(p:PO X lo tl)(y:PO X hi th):PE X (.Subscript e (.Slice lo hi MS p2) pos) (tSl r te tl th):=by
 intro c s d H Q I h;show Subscript_ (thn (n c s d H _ I h) λv z f=>?_);let{x,C,D,E,G}:=f;show wpAny_Slice (thn (p c z d C _ D G) λg J f=>?_);let{l,L,I2,pl,N}:=f;show thn (y c J d L _ I2 N) λi a f=>?_;let{u,j,O,U,Y}:=f;rw[uE];show WQ ?_;have I4:Inv X c d j {a with heap:=a.heap.push {cls:=.type "slice",data:=.fields #[g,i,.none]} }:=O.kept (t':=a.toks) λb ob q=>aF _ q;let{T,id,hT,ht,hg}:=m c {a with heap:=a.heap.push {cls:=.type "slice",data:=.fields #[g,i,.none]} } d j x v g i l u ‹a› Q I4 E (Heap.IsSliceOf.new ..) pl U Y;change aJ (aT X.p X.w) X.A (uF e (.Slice lo hi MS p2) v (.ref ‹a›)) (EP X c d Q) X.xe {a with heap:=a.heap.push {cls:=.type "slice",data:=.fields #[g,i,.none]} };show tail_any (ops:=[.ref ‹a›,v]) ht hT hg (by with_unfolding_all rfl)
def xi (xs:EX)(lo hi:BV):EX:=(xs.drop (HT.sIx xs.length 0 lo)).take (HT.sIx xs.length xs.length hi-HT.sIx xs.length 0 lo)
def Ck (xs:EX)(lo hi:BV):(xi xs lo hi).length<=xs.length:=by
 unfold xi;rw[cK,eY];lia
def rSlT (K:aE):V->BV->BV->Hp->VK->Prop:=λx lo hi H Q=>∃a xs,x=.ref a/\SqT K H a xs/\
 ¬(HT.sIx xs.length 0 lo=0/\HT.sIx xs.length xs.length hi=xs.length)/\∀p,H p=MS->Q (.ref p) (upd H p (.tup (xi xs lo hi)))
def aiv:SlR X (rSlT X.K):=by
 intro l s m H x v n p lo hi u Q I f g pl i h;let{a,xs,rfl,j,hw,q}:=h;cases f;let{its,r,d,hz}:=I.tuple j;have c:its.toArray.size=xs.length:=(by rw[aK];show r.length.symm);show{"tuple",_,dO.lookup,d.typeIs,?_};show HT.getItem_tuple_cut d g pl i (by rw[c];show hw) ?_ (by rw[c];show hz);rw[c];show⟨.ref ‹s›,_,I.laid (t':=s.toks) (o:=.tup (xi xs lo hi)) (λb w q=>aF _ q) (aI _) ?_,rfl,q _ (I.hok.fresh (aI _))⟩;show{aV (Ck xs lo hi) hz,_,(r.drop (HT.sIx xs.length 0 lo)).take (HT.sIx xs.length xs.length hi-HT.sIx xs.length 0 lo),uR _ _}
def adf (K:aE):R2:=λx y H Q=>∃a b xs ys,x=.ref a/\y=.ref b/\SqT K H a xs/\SqT K H b ys/\xs≠[]/\xs.length+ys.length<=sizeLine/\
 (ys=[]->Q (.ref a) H)/\(ys≠[]->∀p,H p=MS->Q (.ref p) (upd H p (.tup (xs++ys))))
def Vals.nil_iff (r:Vals xs us):us=[]↔xs=[]:=by
 cases r with
 |nil=>simp
 |cons _ _=>simp
def aep:OpR X (eS .Add) (adf X.K):=by
 intro r s A H x y v u Q I f g h;let{a,b,xs,ys,rfl,rfl,i,j,l,hz,m,n}:=h;cases f;cases g;let{its,d,p,_}:=I.tuple i;let{C,c,p2,_}:=I.tuple j;show HT.cat_tup p p2 (λz=>l (d.nil_iff.mp z)) (λz=>{.ref a,H,I,rfl,m (c.nil_iff.mp z)}) (λz=>?_) (by rw[<-d.length,<-c.length];show hz);show⟨.ref ‹s›,_,I.laid (t':=s.toks) (o:=.tup (xs++ys)) (λb D q=>aF _ q) (aI _) ?_,rfl,n (λw=>z (c.nil_iff.mpr w)) _ (I.hok.fresh (aI _))⟩;show{by rw[aH];show hz,_,d.append c,uR _ _}
end
def ixN (n:Nat)(i:Int):Option Nat:=if 0<=i then (if i<n then KE i.toNat else MS)else if -(n:Int)<=i then KE (i+n).toNat else MS
def atI {a:Type}(xs:List a)(i:Int):Option a:=(ixN xs.length i).bind λj=>xs[j]?
def Gj (h:ixN n i=KE j):seqIndex? i n=KE j/\j<n/\-(n:Int)<=i/\i<n:=by
 unfold ixN at h;by_cases h0:0<=i;{rw[MZ h0]at h;by_cases a:i<n;{rw[MZ a]at h;have e:i.toNat=j:=bX h;show{by rw[vF h0 a,e],(),(),a}};{rw[M' a]at h;cases h}};{rw[M' h0]at h;by_cases a:-(n:Int)<=i;{rw[MZ a]at h;have e:(i+n).toNat=j:=bX h;show{by rw[seqIndex_neg () a,e],(),a,()}};{rw[M' a]at h;cases h}}
def Gk {a:Type}{xs:List a}{i:Int}{v:a}(h:atI xs i=KE v):∃j,seqIndex? i xs.length=KE j/\xs[j]?=KE v/\j<xs.length/\-(xs.length:Int)<=i/\i<xs.length:=by
 unfold atI at h;cases e:ixN xs.length i with
 |none=>rw[e]at h;cases h
 |some j=>
  rw[e]at h;let{b,c,d,f}:=Gj e;show#v[j,b,h,c,d,f]
def Gm (b:MX):Prop:=∀o i,subscripted b MU o i=operate [o,i] (oJ o i)
def IxR (X:Cx)(r:R2):Prop:=
 ∀value slice a s b H x y v u Q,Inv X a b H s->RelV x v->RelV y u->r x y H Q->
  subscripted slice MU v u=operate [v,u] (oJ v u)->aJ (aT X.p X.w) X.A (uF value slice v u) (EP X a b Q) X.xe s
def MtR (X:Cx)(id:String)(r:V->EX->Hp->VK->Prop):Prop:=
 ∀a s b H x xs v us Q,Inv X a b H s->RelV x v->Vals xs us->r x xs H Q->
  aJ (aT X.p X.w) X.A (call (.builtin id) (v::us)) (EP X a b Q) X.xe s
section
variable {X:Cx}{a b:MX}{ta tb:TE}{pos:Pos}
def Sz {r:R2}(c:IxR X r)(d:PE X a ta)(e:PE X b tb)(f:Gm b):PE X (.Subscript a b pos) (tOp r ta tb):=by
 intro g s i H Q I h;show Subscript_ (Y9 d e I h λv u j x y l I2 m n q=>c a b g j i l x y v u Q I2 m n q (f _ _))
def rIxL (K:aE):R2:=λx y H Q=>∃p xs i v,x=.ref p/\y=.int i/\SqL K H p xs/\atI xs i=KE v/\Q v H
def rIxT (K:aE):R2:=λx y H Q=>∃p xs i v,x=.ref p/\y=.int i/\SqT K H p xs/\atI xs i=KE v/\Q v H
def rIxS:R2:=λx y H Q=>∃z i c,x=.str z/\y=.int i/\z.length<=sizeLine/\atI z.cps.toList i=KE c/\Q (.str #v[#[c]]) H
def Gn:IxR X (rIxL X.K):=by
 intro value slice e s f H x y v u Q I m n h g;let{p,xs,i,z,rfl,rfl,A,C,q}:=h;cases m;let{t,rfl}:=n;let{its,r,pl,hz}:=I.list A;let{j,c,D,N,E,G}:=Gk C;let{w,l,J}:=r.get D;have L:=r.length;have O:=n8;have fin:EP X e f Q w s:=#v[z,H,I,J,q];by_cases h0:0<=i
 ·have d:i.toNat=j:=by
   rw[vF h0 G]at c;show bX c
  show item_listR pl.isList h0 () (by rw[d];simpa using l) fin g
 ·have d:(i+(its.toArray.size:Int)).toNat=j:=by
   rw[seqIndex_neg () E]at c;rw[aK,<-L];show bX c
  show oY (x:=w) pl.isList.typeIs slot_list_getitem.lookup
   (wpAny_getItem_list_neg (Q:=λr s'=>r=w/\EP X e f Q r s') pl.isList () (by rw[aK]<;>lia) () (by rw[d];simpa using l) #v[rfl,fin]) g
def aix:IxR X (rIxT X.K):=by
 intro value slice c s d H x y v u Q I e f h g;let{p,xs,i,z,rfl,rfl,l,m,q}:=h;cases e;let{t,rfl}:=f;let{its,r,pl,hz}:=I.tuple l;let{j,n,A,G,J,L}:=Gk m;let{w,C,D}:=r.get A;have E:=r.length;have N:=n8;have fin:EP X c d Q w s:=#v[z,H,I,D,q];show oY (x:=w) pl.typeIs slot_tuple_getitem.lookup
  (getItem_tuple (j:=j) (Q:=λr s'=>r=w/\EP X c d Q r s') pl () () (by rw[aK,<-E];show n) (⇑C) #v[rfl,fin]) g
def aiy:IxR X rIxS:=by
 intro value slice C s D H x y v u Q I e f h g;let{z,i,c,rfl,rfl,hz,l,q}:=h;let{t,rfl}:=e;let{t',rfl}:=f;let{j,d,m,E,n,p}:=Gk l;have r:z.cps.toList.length=z.length:=(by simp[Str.length]);rw[r]at d n p;have G:=n8;show tail_any (vR s z t) slot_str_getitem.lookup (getItem_str (c:=c) (by
   have w:decide (i < -(2 ^ 63:Int))=MU:=NA ();have A:decide (i>=2 ^ 63)=MU:=NA ();rw[w,A,Bool.or_false]) (by rw[d];simpa using m) {.str #v[#[c]],H,I.tok _,{_,rfl},q}) g
def S0 (its:AW)(n j:Nat)(u:aL):fY (·.setIfInBounds j u) {cls:=.type "list",data:=.seq its.toArray n}={cls:=.type "list",data:=.seq (its.set j u).toArray n}:=by
 simp[fY]
theorem Inv.lst {c:CW}{d:St}{H:Hp}{s:aG}{p:MV}{xs:EX}(I:Inv X c d H s)(h:H p=KE (.lst xs)) :
  ∃its n,Vals xs its/\s.heap.get? p=KE {cls:=.type "list",data:=.seq its.toArray n}/\xs.length<=sizeLine:=by
 let{z,its,n,r,e}:=I.hok p _ h;show#v[its,n,r,e,z]
def Inv.lstUpd {s:aG}{xs ys:EX}{its its':AW}(I:Inv X g i H s)(h:H p=KE (.lst xs))
  (j:s.heap.get? p=KE {cls:=.type "list",data:=.seq its.toArray n}) (c:f {cls:=.type "list",data:=.seq its.toArray n}={cls:=.type "list",data:=.seq its'.toArray d}) (r:Vals ys its') (hz:ys.length<=sizeLine) (t:Nat) :
  Inv X g i (upd H p (.lst ys)) {s with heap:=s.heap.update p f,toks:=t}:=by
 have e:(s.heap.update p f).get? p=KE {cls:=.type "list",data:=.seq its'.toArray d}:=by
  rw[hX f j (by rw[c]<;>rfl),c]
 show I.write (x:=p) (e:=p) (by rw[h];trivial) (.inl rfl) (λb u l q=>(gM _ _ (eT l)).trans q) {_,e} ?_;show#v[hz,its',d,r,e]
def adg:V->V->V->Hp->(Hp->Prop)->Prop:=λo i v H Q=>∃p xs k j,o=.ref p/\i=.int k/\H p=KE (.lst xs)/\ixN xs.length k=KE j/\Q (upd H p (.lst (xs.set j v)))
def K4:Si X adg:=by
 intro w s x H o i v D iv u Q I y z A h;let{p,xs,k,j,rfl,rfl,f,C,q}:=h;cases y;let{t,rfl}:=z;let{its,n,r,d,hz}:=I.lst f;let{c,E,g,l}:=Gj C;have e:=r.length;have G:=n8;have m:Inv X w x (upd H p (.lst (xs.set j v))) {s with heap:=s.heap.update p (fY (·.setIfInBounds j u))}:=
  I.lstUpd f d (S0 its n j u) (r.set A j) (by rw[gZ];show hz) s.toks
 by_cases h0:0<=k
 ·have hk:k.toNat=j:=by
   rw[vF h0 l]at c;show bX c
  show PySem.W.ki_setAt d h0 () (by rw[aK,<-e];show l) (by rw[hk];show{_,m,q})
 ·have hk:(k+(its.toArray.size:Int)).toNat=j:=by
   rw[seqIndex_neg () g]at c;rw[aK,<-e];show bX c
  show PySem.W.ki_setBack d () (by rw[aK,<-e];show g) () (by rw[hk];show{_,m,q})
def K5 (lo hi:BV)(n:Nat):(nP lo hi MS n).1=((HT.sIx n 0 lo:Nat):Int)/\(nP lo hi MS n).2.1=((HT.sIx n n hi:Nat):Int)/\(nP lo hi MS n).2.2=1:=by
 show{?_,?_,rfl}
 ·cases lo with
  |none=>simp[nP,HT.sIx]
  |some i=>
   simp only[nP,HT.sIx,Option.getD_none,show(1:Int) > 0 by decide,if_true];by_cases h:i<0;{simp only[h,if_true]<;>lia};{simp only[h,if_false]<;>lia}
 ·cases hi with
  |none=>simp[nP,HT.sIx]
  |some i=>
   simp only[nP,HT.sIx,Option.getD_none,show(1:Int) > 0 by decide,if_true];by_cases h:i<0;{simp only[h,if_true]<;>lia};{simp only[h,if_false]<;>lia}
def Jq (its:AW)(lo hi:BV):slicePick its.toArray lo hi MS=((its.drop (HT.sIx its.length 0 lo)).take (HT.sIx its.length its.length hi-HT.sIx its.length 0 lo)).toArray:=by
 let{c,d,e}:=K5 lo hi its.toArray.size;unfold slicePick;rw[c,d,e];simp only[sliceRange_one,pick_run,aK]<;>rfl
def rSlL (K:aE):V->BV->BV->Hp->VK->Prop:=λx lo hi H Q=>∃a xs,x=.ref a/\SqL K H a xs/\∀p,H p=MS->Q (.ref p) (upd H p (.lst (xi xs lo hi)))
def Pz:SlR X (rSlL X.K):=by
 intro j s l H x v m n lo hi p Q I d e pl f h;let{a,xs,rfl,g,q}:=h;cases d;let{its,r,c,hz}:=I.list g;have i:=r.length;show{"list",_,slot_list_getitem.lookup,c.isList.typeIs,?_};show wpAny_getItem_list_slice c.isList e pl f .none ∅ ?_ (by rw[aK]<;>lia);rw[Jq,<-i];show⟨.ref ‹s›,_,I.laid (t':=s.toks) (o:=.lst (xi xs lo hi)) (λb u q=>aF _ q) (aI _) ?_,rfl,q _ (I.hok.fresh (aI _))⟩;show{aV (Ck xs lo hi) hz,_,0,(r.drop (HT.sIx xs.length 0 lo)).take (HT.sIx xs.length xs.length hi-HT.sIx xs.length 0 lo),bK _ rfl}
def oq:V->Bool
 | .non=>MT
 | .bl _=>MT
 | .int _=>MT
 | .str _=>MT
 |_=>MU
def eqV:V->V->Bool
 | .non,.non=>MT
 | .bl a,.bl b=>a==b
 | .bl a,.int b=>(if a then 1 else 0)==b
 | .int a,.bl b=>a==(if b then 1 else 0)
 | .int a,.int b=>a==b
 | .str a,.str b=>a==b
 |_,_=>MU
def K6 (d:RelV y u)(c:RelV x v)(f:oq y=MT)(e:oq x=MT):tX A s u v (eqV y x):=by
 cases y with
 |non=>
  cases d;cases x with
  |non=>cases c;show SeqAt.EqAt.same _
  |bl b=>cases c;show SeqAt.EqAt.none_bool b
  |int b=>let{t,rfl}:=c;show SeqAt.EqAt.none_int b t
  |str b=>let{t,rfl}:=c;show SeqAt.EqAt.none_str b t
  |_=>show NC (show MU=MT from e) aY
 |bl a=>
  cases d;cases x with
  |non=>cases c;show SeqAt.EqAt.bool_none a
  |bl b=>cases c;show SeqAt.EqAt.bool_bool a b
  |int b=>let{t,rfl}:=c;show SeqAt.EqAt.bool_int a b t
  |str b=>let{t,rfl}:=c;show SeqAt.EqAt.bool_str a b t
  |_=>show NC (show MU=MT from e) aY
 |int a=>
  let{t',rfl}:=d;cases x with
  |non=>cases c;show SeqAt.EqAt.int_none a t'
  |bl b=>cases c;show SeqAt.EqAt.int_bool a t' b
  |int b=>let{t,rfl}:=c;show SeqAt.EqAt.int_int a t' b t
  |str b=>let{t,rfl}:=c;show SeqAt.EqAt.int_str a t' b t
  |_=>show NC (show MU=MT from e) aY
 |str a=>
  let{t',rfl}:=d;cases x with
  |non=>cases c;show SeqAt.EqAt.str_none a t'
  |bl b=>cases c;show SeqAt.EqAt.str_bool a t' b
  |int b=>let{t,rfl}:=c;show SeqAt.EqAt.str_int a t' b t
  |str b=>let{t,rfl}:=c;show SeqAt.EqAt.str_str a t' b t
  |_=>show NC (show MU=MT from e) aY
 |_=>show NC (show MU=MT from f) aY
def eqU (x:V)(u:aL):Bool:=match u with
 | .none=>eqV .non x
 | .bool b=>eqV (.bl b) x
 | .int i _=>eqV (.int i) x
 | .str z _=>eqV (.str z) x
 |_=>MU
def Vv (r:RelV y u)(f:oq y=MT):eqU x u=eqV y x:=by
 cases y with
 |non=>cases r;rfl
 |bl b=>cases r;rfl
 |int i=>let{t,rfl}:=r;rfl
 |str z=>let{t,rfl}:=r;rfl
 |_=>show NC (show MU=MT from f) aY
theorem K7 (c:RelV x v)(d:oq x=MT):∀{xs us},Vals xs us->xs.all oq=MT->∀u∈us,tX A s u v (eqU x u)
 |_,_,.nil,_=>λu hu=>by cases hu
 |y::xs,u::us,.cons r t,f=>λe hu=>by
  rw[rE,eG]at f;rcases aX.mp hu with rfl | hu;{rw[Vv r f.1];show K6 r c f.1 d};{show K7 c d t f.2 e hu}
def vh:ia X (.builtin "len") (λxs H Q=>∃p ys,xs=[.ref p]/\(SqL X.K H p ys\/SqT X.K H p ys)/\Q (.int ys.length) H):=by
 intro f s g H xs us Q I r h;let{p,ys,rfl,hq,q}:=h;let{u,rfl,e}:=jf r;cases e;have i:=n8;rcases hq with hq | hq;{let{its,c,pl,hz}:=I.list hq;have d:=c.length;show Calls.call_len_list pl.isList (by simp only[aK]<;>lia) {.int ys.length,H,I.tok _,{s.toks+1,by rw[aK,d]},q}};{let{its,c,pl,hz}:=I.tuple hq;have d:=c.length;show len_tuple pl (by simp only[aK]<;>lia) {.int ys.length,H,I.tok _,{s.toks+1,by rw[aK,d]},q}}
def K8:ia X (.builtin "len") (λxs H Q=>∃z,xs=[.str z]/\z.length<=sizeLine/\Q (.int z.length) H):=by
 intro c s d H xs us Q I r h;let{z,rfl,hz,q}:=h;let{u,rfl,t,rfl}:=jf r;have e:=n8;show len_str () {.int z.length,H,I.tok _,{_,rfl},q}
def z6:ia X (.type "list") (λxs H Q=>∃p ys,xs=[.ref p]/\(SqL X.K H p ys\/SqT X.K H p ys)/\∀l,H l=MS->Q (.ref l) (upd H l (.lst ys))):=by
 intro j s m H xs us Q I r h;let{p,ys,rfl,hq,q}:=h;let{u,rfl,x}:=jf r;cases x;have fin:∀its,Vals ys its->ys.length<=sizeLine->∀h' c,(∀b i,s.heap.get? b=KE i->h'.get? b=KE i)->
   h'.get? ‹s›=KE {cls:=.type "list",dict:=MS,data:=.seq its.toArray c,slots:=#[]}->EP X j m Q (.ref ‹s›) {s with heap:=h'}:=λits d hz h' c kp e=>
  {.ref ‹s›,_,I.laid (t':=s.toks) kp (aI _) (show ObjOk X.p X.w _ h' _ (.lst ys)from#v[hz,its,c,d,e]),rfl,q _ (I.hok.fresh (aI _))}
 rcases hq with hq | hq;{let{its,d,pl,hz}:=I.list hq;have y:=d.length;let{o,f,g,n,hd}:=pl.isList;show call_list_seq p (.inl rfl) f g hd (λh' c kp e=>fin its d hz h' c kp e) (by simp only[aK]<;>lia)};{let{its,d,pl,hz}:=I.tuple hq;have y:=d.length;let{o,f,g,n,hd}:=pl;show call_list_seq p (.inr rfl) f g hd (λh' c kp e=>fin its d hz h' c kp e) (by simp only[aK]<;>lia)}
def zp:ia X (.type "tuple") (λxs H Q=>∃p ys,xs=[.ref p]/\((SqL X.K H p ys/\∀l,H l=MS->Q (.ref l) (upd H l (.tup ys)))\/(SqT X.K H p ys/\Q (.ref p) H))):=by
 intro f s g H xs us Q I r h;let{p,ys,rfl,h}:=h;let{u,rfl,j}:=jf r;cases j;rcases h with⟨c,q⟩ | ⟨c,q⟩
 ·let{its,d,pl,hz}:=I.list c;have m:=d.length;show call_tuple_list pl.isList (λh' kp=>?_) (by simp only[aK]<;>lia);have i:Inv X f g H {s with heap:=h'}:=I.kept (t':=s.toks) kp;have I2:Inv X f g (upd H h'.objs.size (.tup ys)) {s with heap:=h'.push {cls:=.type "tuple",data:=.seq its.toArray} }:=
   i.laid (t':=s.toks) (λb o e=>aF _ e) (aI _) (show ObjOk X.p X.w _ _ _ (.tup ys)from{hz,its,d,uR _ _})
  show{.ref h'.objs.size,_,I2,rfl,q _ (i.hok.fresh (aI _))}
 ·let{its,d,pl,hz}:=I.tuple c;show call_tuple_same pl {.ref p,H,I,rfl,q}
def tyV (K:aE)(T:String)(x:V)(H:Hp):Prop:=match x with
 | .str _=>T="str"
 | .int _=>T="int"
 | .ref p=>(T="list"/\∃xs,SqL K H p xs)\/(T="tuple"/\∃o,K.lookup p=KE o/\o.cls=.type "tuple"/\o.dict=MS)\/
   (T="dict"/\((∃kvs,H p=KE (.dK kvs))\/∃kvs,H p=KE (.dT kvs)))\/(T="set"/\∃S n,H p=KE (.set S n))
 |_=>False
def Vw (I:Inv X l m H s)(r:RelV x v)(ty:tyV X.K T x H) :
  s.TypeIs v T/\∀a,v=.ref a->∃f,s.heap.get? a=KE f/\f.dict=MS:=by
 cases x with
 |str z=>
  let{t,rfl}:=r;cases(show T="str" from ty);show{vR s z t,λ_ e=>nomatch e}
 |int i=>
  let{t,rfl}:=r;cases(show T="int" from ty);show{rO s i t,λ_ e=>nomatch e}
 |ref p=>
  cases r;rcases ty with⟨rfl,xs,g⟩ | ⟨rfl,o,hk,j,hd⟩ | ⟨rfl,hk⟩ | ⟨rfl,S,n,hk⟩;{let{its,_,pl,_}:=I.list g;show{pl.isList.typeIs,λa e=>?_};cases e;let{o,n,e,c,hd,_}:=pl;show#v[o,e,hd]};{show{{o,I.kIn p o hk,j},λa e=>?_};cases e;show{o,I.kIn _ o hk,hd}}
  ·have z:∃o,s.heap.get? p=KE o/\o.ExactDict:=by
    rcases hk with⟨kvs,hk⟩ | ⟨kvs,hk⟩;{let{_,_,_,_,o,_,_,e,ex,_}:=I.hok p _ hk;show#v[o,e,ex]};{let{_,_,_,_,o,_,_,e,ex,_}:=I.hok p _ hk;show#v[o,e,ex]}
   let{o,e,ex}:=z;show{#v[o,e,ex.1],λa d=>?_};cases d;show#v[o,e,ex.2.1]
  ·let{o,_,_,_,e,ex,_}:=I.hok p _ hk;show{#v[o,e,ex.1],λa d=>?_};cases d;show#v[o,e,ex.2.1]
 |_=>show eU ty
def tBM0 (K:aE)(T:String)(r:V->EX->Hp->VK->Prop)(to:TE):TE:=λd H Q=>to d H λx c=>tyV K T x c/\r x [] c Q
def tBM (K:aE)(T:String)(r:V->EX->Hp->VK->Prop)(to:TE)(t:TA):TE:=λc H Q=>to c H λx d=>tyV K T x d/\t c d λxs e=>r x xs e Q
variable {o e:MX}{es:CY}{to:TE}{t:TA}{name:Str}{xF xK:Pos}{T id:String}{r:V->EX->Hp->VK->Prop}
def Vx (i:pU T)(slot:Slot T name id)(j:tH (.builtin id)=pure (.type "method_descriptor"))(l:MtR X id r)(m:PE X o to)
  (n:↥(iP o name X.e (eval o X.e)=eval o X.e)) (p:↥((xF.endLine==xK.line)=MT)):PE X (.Call (.Attribute o name xF) [] [] xK) (tBM0 X.K T r to):=by
 intro c s d H Q I h;show wpAny_Call_method0_late n p (thn (m c s d H _ I h) λv q u=>?_);let{x,w,f,g,ty,y}:=u;let{z,A}:=Vw f g ty;show{T,id,i,slot,j,z,A,Calls.callWith_builtin rfl (PySem.evalArgs_none (l c q d w x [] v [] Q f g .nil y))}
def S2 (j:pU T)(slot:Slot T name id)(l:tH (.builtin id)=pure (.type "method_descriptor"))(m:MtR X id r)(n:PE X o to)(p:PA X (e::es) t)
  (q:↥(iP o name X.e (eval o X.e)=eval o X.e))
  (u:↥(((eE xK (aO (e::es) X.e)).all (λx=>!x.1)&&(mG xK (jH [] X.e)).all (λx=>x.1.isSome)&&decide ((e::es).length+([]:List pH).length+(if ([]:List pH).isEmpty then 0 else 1)<30))=MT))
  (w:↥((xF.endLine==xK.line)=MT)) (y:↥(aO (e::es) X.e=(MU,eval e X.e)::aO es X.e)) (z:↥((eE xK (aO es X.e)).any (·.1)=MU)) :
  PE X (.Call (.Attribute o name xF) (e::es) [] xK) (tBM X.K T r to t):=by
 intro c s d H Q I h;show wpAny_Call_method_late q u w rfl (thn (n c s d H _ I h) λv A f=>?_);let{x,C,g,i,ty,D}:=f;let{E,G}:=Vw g i ty;show{T,id,j,slot,l,E,G,?_};have hA:=p xK c A d C _ g D;rw[y]at hA ⊢;show Calls.callWith_builtin (by change(MU||(eE xK (aO es X.e)).any (·.1))=MU;rw[z]<;>rfl) (Calls.evalArgs_plain ?_);show thn hA λus J f=>by let{vs,L,I2,N,O}:=f;show m c J d L x vs v us Q I2 i N O
end
def MtM (X:Cx)(id:String)(r:V->EX->Hp->VK->Prop):Prop:=
 ∀a s b H x xs v us Q,Inv X a b H s->RelV x v->Vals xs us->r x xs H Q->
  aJ (aT X.p X.w) X.A (call (.builtin id) (v::us)) (EP X a b Q) X.xe s
theorem Vals.one:∀{x:V}{us:AW},Vals [x] us->∃u,us=[u]/\RelV x u
 |_,_,.cons r .nil=>{_,rfl,r}
theorem Vals.zero:∀{us:AW},Vals [] us->us=[]
 |_,.nil=>rfl
theorem Vals.dropLast {xs:EX}{us:AW}(h:Vals xs us):Vals xs.dropLast us.dropLast:=by
 induction h with
 |nil=>show .nil
 |cons r t a=>
  cases t with
  |nil=>show .nil
  |cons q t'=>show .cons r a
theorem Vals.eraseIdx:∀{xs:EX}{us:AW}(i:Nat),Vals xs us->Vals (xs.eraseIdx i) (us.eraseIdx i)
 |_,_,_,.nil=>.nil
 |_,_,0,.cons _ t=>t
 |_,_,i+1,.cons r t=>.cons r (Vals.eraseIdx i t)
theorem Vals.reverse {xs:EX}{us:AW}(h:Vals xs us):Vals xs.reverse us.reverse:=by
 induction h with
 |nil=>show .nil
 |cons r t a=>rw[kJ,kJ];show Vals.append a (.cons r .nil)
theorem Vals.rep (h:Vals xs us):∀k:Nat,Vals (bB k xs).flatten (bB k us).flatten
 |0=>.nil
 |k+1=>by
  rw[fX,fX,jN,jN];show Vals.append h (Vals.rep h k)
def S3 {c:Type}(l:List c):l.eraseIdx (l.length-1)=l.dropLast:=by
 induction l with
 |nil=>rfl
 |cons a r d=>
  cases r with
  |nil=>rfl
  |cons b r=>
   have e:(a::b::r).length-1=((b::r).length-1)+1:=by
    have f:(a::b::r).length=r.length+2:=rfl;have g:(b::r).length=r.length+1:=rfl;lia
   rw[e,List.eraseIdx_cons_succ,d]
   all_goals rfl
theorem Ip {a:Type}:∀(l:List a)(i:Nat),(l.eraseIdx i).length<=l.length
 | [],_=>aI _
 |_::_,0=>sY _
 |_::r,i+1=>Nat.succ_le_succ (Ip r i)
theorem Iq (its:AW):∀k a,
  vS (λb c=>b++c) a.toArray (bB k its.toArray)=(a++(bB k its).flatten).toArray
 |0,a=>by simp
 |k+1,a=>by
  have e:a.toArray++its.toArray=(a++its).toArray:=∅;have d:(a++its)++(bB k its).flatten=a++(bB (k+1) its).flatten:=by
   rw[fX,jN,dX]
  rw[<-d,<-Iq its k (a++its),<-e,fX,pV]
section
variable {X:Cx}{j':CW}{σ:St}{H:Hp}{s:aG}{l b:MV}{xs ys zs:EX}
def Inv.lset {its its':AW}{n:Nat}{f:BW->BW}{t':Nat}(I:Inv X j' σ H s)(a:H l=KE (.lst xs))
  (e:s.heap.get? l=KE {cls:=.type "list",data:=.seq its.toArray n}) (c:f its.toArray=its'.toArray) (d:Vals ys its') (hz:ys.length<=sizeLine) :
  Inv X j' σ (upd H l (.lst ys)) {s with heap:=s.heap.update l (fY f),toks:=t'}:=by
 have q:=PySem.IsL.update e f;rw[c]at q;show I.write (x:=l) (e:=l) (by rw[a];show trivial) (.inl rfl) (λj u g i=>(gM s.heap (fY f) (eT g)).trans i) {_,q} ?_;show{hz,its',_,d,q}
def Inv.lnew (I:Inv X j' σ H s)(a:Vals ys its)(hz:ys.length<=sizeLine) :
  Inv X j' σ (upd H ‹s› (.lst ys)) {s with heap:=s.heap.push {cls:=.type "list",data:=.seq its.toArray},toks:=t'}:=
 I.laid (λ_ _ q=>aF _ q) (aI _) {hz,its,0,a,bK _ rfl}
theorem Inv.fresh (I:Inv X j' σ H s):H ‹s›=MS:=I.hok.fresh (aI _)
def Inv.lstM (I:Inv X j' σ H s)(a:H l=KE (.lst xs)):xs.length<=sizeLine/\∃(its:AW)(n:Nat),Vals xs its/\xs.length=its.length/\s.heap.get? l=KE {cls:=.type "list",data:=.seq its.toArray n}:=by
 let{z,its,n,r,e}:=I.hok l _ a;show#v[z,its,n,r,r.length,e]
def Cu {n:Nat}(h:n<=sizeLine):iF n=MU:=by
 unfold iF;show NA ()
end
section
variable {X:Cx}
def aeq:V->EX->Hp->VK->Prop:=λx vs H Q=>∃l xs y,x=.ref l/\vs=[y]/\H l=KE (.lst xs)/\xs.length<sizeLine/\Q .non (upd H l (.lst (xs++[y])))
def z7:MtM X "list.append" aeq:=by
 intro f s g H x vs v us Q I b c h;let{l,xs,y,rfl,rfl,a,hz,q}:=h;cases b;let{u,rfl,d}:=c.one;let{z,its,n,r,i,e}:=I.lstM a;show kK F.slot_list_append {_,e,rfl} F.entry_list_append (F.args_list_append_2 _ _) (PySem.list_append l its.toArray n u (by rw[aK];lia)) {e,?_};show{.non,_,I.lset (its':=its++[u]) a e ∅ (r.append (.cons d .nil)) ?_,rfl,q};rw[aH,dR];lia
def aer:V->EX->Hp->VK->Prop:=λx vs H Q=>∃l b xs a,x=.ref l/\vs=[.ref b]/\H l=KE (.lst xs)/\H b=KE (.lst a)/\xs.length+a.length<=sizeLine/\Q .non (upd H l (.lst (xs++a)))
def Vy:MtM X "list.extend" aer:=by
 intro p s w H x vs v us Q I d f h;let{l,b,xs,y,rfl,rfl,c,hB,hz,q}:=h;cases d;let{u,rfl,g}:=f.one;cases g;let{z,its,n,r,A,e}:=I.lstM c;let{C,a,n2,i,D,j}:=I.lstM hB;have hsz:its.toArray.size+a.toArray.size<=sizeLine:=(by rw[aK,aK];lia);have m:¬(!its.toArray.isEmpty&&iF (its.toArray.size+a.toArray.size))=MT:=by
  rw[Cu hsz,tJ];show aY
 show kK F.slot_list_extend {_,e,rfl} F.entry_list_extend (F.args_list_extend_2 _ _)
  (AutoSeq1.list_extend_list_list_0 l its.toArray n b a.toArray n2 m (by rw[aK];lia) ()) {e,j,?_}
 show{.non,_,I.lset (its':=its++a) c e ∅ (r.append i) ?_,rfl,q};rw[aH];lia
def rPop:V->EX->Hp->VK->Prop:=λx vs H Q=>∃l xs y,x=.ref l/\vs=[]/\H l=KE (.lst xs)/\xs[xs.length-1]?=KE y/\Q y (upd H l (.lst xs.dropLast))
def aiz:MtM X "list.pop" rPop:=by
 intro p s w H x vs v us Q I b c h;let{l,xs,y,rfl,rfl,a,d,q}:=h;cases b;have f:=c.zero;subst f;let{z,its,n,r,g,e}:=I.lstM a;let{u,i,j}:=r.get d;have m:its.toArray[its.toArray.size-1]?=KE u:=by
  change its.toArray[its.length-1]?=KE u;rw[<-pI,<-g];show i
 show kK F.slot_list_pop {_,e,rfl} F.entry_list_pop (F.args_list_pop_1 _) (MeetsSeq.list_pop_last l its.toArray n u m (by rw[aK];lia)) {e,?_};show{y,_,I.lset (its':=its.dropLast) a e ?_ r.dropLast ?_,j,q};{change its.toArray.eraseIdxIfInBounds (its.toArray.size-1)=its.dropLast.toArray;rw[aK,List.eraseIdxIfInBounds_toArray,S3]};{rw[List.length_dropLast];lia}
def aja:V->EX->Hp->VK->Prop:=λx vs H Q=>∃l xs i k y,x=.ref l/\vs=[.int i]/\H l=KE (.lst xs)/\-(2 ^ 63)<=i/\i<2 ^ 63/\seqIndex? i xs.length=KE k/\xs[k]?=KE y/\Q y (upd H l (.lst (xs.eraseIdx k)))
def Zq:MtM X "list.pop" aja:=by
 intro A s C H x vs v us Q I b c h;let{l,xs,i,k,y,rfl,rfl,a,d,f,hk,g,q}:=h;cases b;let{u,rfl,j}:=c.one;let{t,rfl}:=j;let{z,its,n,r,m,e}:=I.lstM a;let{w,hw,p}:=r.get g;show kK F.slot_list_pop {_,e,rfl} F.entry_list_pop (F.args_list_pop_2 _ _)
  (MeetsSeq.list_pop_at l its.toArray n i t k w (fitsIndex_both d f) (by rw[aK,<-m];show hk) (by rw[<-pI];show hw) (by rw[aK];lia)) {e,?_}
 show{y,_,I.lset (its':=its.eraseIdx k) a e ?_ (r.eraseIdx k) ?_,p,q};{change its.toArray.eraseIdxIfInBounds k=(its.eraseIdx k).toArray;rw[List.eraseIdxIfInBounds_toArray]};{have:=Ip xs k;lia}
def rCat:R2:=λx y H Q=>∃l b xs a,x=.ref l/\y=.ref b/\H l=KE (.lst xs)/\H b=KE (.lst a)/\xs.length+a.length<=sizeLine/\∀p,H p=MS->Q (.ref p) (upd H p (.lst (xs++a)))
def ajb:OpR X (eS .Add) rCat:=by
 intro m s p H x y v u Q I c d h;let{l,b,xs,w,rfl,rfl,f,hB,hz,q}:=h;cases c;cases d;let{z,its,n,r,A,e}:=I.lstM f;let{C,a,n2,g,D,i}:=I.lstM hB;show PySem.P.add_list e i ?_ (by rw[aK,aK];lia);have j:its.toArray++a.toArray=(its++a).toArray:=∅;rw[j];show{.ref _,_,I.lnew (t':=s.toks) (r.append g) (by rw[aH];lia),rfl,q _ I.fresh}
def rRep:R2:=λx y H Q=>∃l k xs,x=.ref l/\y=.int k/\H l=KE (.lst xs)/\-(2 ^ 63)<=k/\k<2 ^ 63/\xs.length*k.toNat<=sizeLine/\
 ∀p,H p=MS->Q (.ref p) (upd H p (.lst (bB k.toNat xs).flatten))
def aes (xs:List b)(k:Nat):(bB k xs).flatten.length=k*xs.length:=by
 induction k with
 |zero=>simp
 |succ k a=>rw[fX,jN,aH,a,pW,jY]
def ajc:OpR X (eS .Mult) rRep:=by
 intro J s L H x y v u Q I g i h;let{l,k,xs,rfl,rfl,j,p,w,hz,q}:=h;cases g;let{t,rfl}:=i;let{z,its,n,r,A,e}:=I.lstM j;have C:its.toArray.size*k.toNat<=sizeLine:=(by rw[aK,<-A];show hz);have b:¬its.toArray.size*k.toNat > (2 ^ 63-1) / 8:=by
  have:(sizeLine:Nat)<=(2 ^ 63-1) / 8:=#v[];lia
 have c:¬(!Builtin.List.listFitsIndex k)=MT:=by
  rw[fitsIndex_both p w];show aY
 have D:¬iF (its.toArray.size*k.toNat)=MT:=by
  rw[Cu C];show aY
 have E:vS (λd f=>d++f) #[] (bB (if its.toArray.isEmpty=MT then 0 else k.toNat) its.toArray)=(bB k.toNat its).flatten.toArray:=by
  have G:∀m:Nat,vS (λd f=>d++f) #[] (bB m its.toArray)=(bB m its).flatten.toArray:=λm=>by
   have:=Iq its m [];rw[bR]at this;show this
  rw[G];cases its with
  |nil=>simp
  |cons a N=>rw[M' ∅]
 show wpAny_binaryOp_repeat_ref (T:="list") (U:="int") #v[] {_,e,rfl} (λs'=>rO s' k t) noFill_list_mul F.fills_int_mul F.slot_int_rmul repeat_list F.slot_int_index.lookup
  (kK F.slot_int_rmul (rO s k t) F.entry_int_rmul (F.args_int_rmul_2 _ _) (int___rmul___int_list k t l its.toArray n) {e,rfl,{_,e,rfl},kK F.slot_list_mul {_,e,rfl} F.entry_list_mul (F.args_list_mul_2 _ _) (AutoListH.list___mul___list_int_3 l its.toArray n k t c b D) {e,?_}})
 rw[E];show{.ref _,_,I.lnew (t':=s.toks) (r.rep k.toNat) (by rw[aes,uS];show hz),rfl,q _ I.fresh}
end
end L2
namespace Att
open PySem PySem.W PySem.Calls PyProof.Rows
def Ek:∀ns vs,WellAll P h vs (ns.map WData.int)->mQ vs ns:=by
 intro ns
 induction ns with
 |nil=>
  intro vs w;rw[mR]at w;cases w;show .nil
 |cons n ns c=>
  intro vs w;rw[bV]at w;cases w with
  |cons a b=>
   cases a;show .cons _ _ (c _ b)
def Vz {l:oZ}(j:l.most=KE n){h:MW}
  (g:l.row.toRowW.claim.pre args=MT) (m:WellAll P h p args) :
  ∃a vs ns,p=[aZ a]/\args=[WData.list (ns.map WData.int)]/\h.get? a=KE {cls:=.type "list",data:=.seq vs.toArray}/\mQ vs ns/\ns.length<=n:=by
 have f:WShape.hasAll [] args [.list .int]=MT:=(pre_splitW g).1;have i:l.pre.holds [] {args:=args}=MT:=(pre_splitW g).2;let{d,r,rfl,s,u}:=hasAllW_cons f;obtain rfl:=hasAllW_nil u;let{xs,rfl,w}:=hasW_list s;let{ns,rfl}:=items_int w;have x:ns.length<=n:=by
  unfold OpenLaw.pre at i;have c:(WTm.not (.lt (.lit (.int (n:Int))) (.len (.arg 0)))).holds [] {args:=[.list (ns.map .int)]}=MT:=by
   have c:=(holds_andW i).1;rw[j]at c;show c
  have e:=condW_of c (w_not (w_lt w_lit (w_len_list (w_arg rfl))));rw[aC]at e;show pE λq=>?_;have y:(n:Int)<((ns.length:Nat):Int):=by lia
  first
   | (rw[NB y]at e;show NC e #v[])
   | (simp at e;lia)
 cases m with
 |cons z A=>
  cases A;cases z with
  |list C b=>show{_,_,ns,rfl,rfl,C,Ek ns _ b,x}
def V0 (l:oZ)(args:List WData):l.row.toRowW.claim.post args (.bool MT) args=MT:=
 postW_of (r:=l.row.toRowW) (X:=(MT==MT))
  (show WShape.has [] (.bool MT) .bool=MT by first | rfl | decide | simp[WShape.has,WShape.arms,WShape.armsAll])
  (show(WTm.eq .res (.lit (.bool MT))).value [] {args:=args,res:=KE (.bool MT),after:=args}=KE (.bool (MT==MT))from w_eq_bool (w_res rfl) w_lit) rfl
def attach_call {l:oZ}{d:DefRec}
  (m:l.most=KE n) (p:d.params.defaults=[])
  (call:∀(w:bC)(s₀ b:aG) (mg c:Str->AK) (fa:MV) (o:Obj) (e cd g:aL) (a:MV) (vs:AW) (ns:LQ),Ground q s [] u w s₀ mg c b.heap->x w b.heap->b.heap.get? fa=KE o->o.data=.func (docDef d.name d.params d.body d.scope e cd g)->b.heap.CodeRec cd d.name->mg d.name=KE (.ref fa)->b.heap.get? a=KE {cls:=.type "list",data:=.seq vs.toArray}->mQ vs ns->ns.length<=n->b.gens=#[]->kQ (aT l.prog w) qQ (.call (.ref fa) {[.ref a],[]}) (λr s'=>r=.ok (.ret (.bool MT))/\OldK b.heap s'.heap/\s'.os=b.os/\nO s'.gens) b) :
  WalkO q s u x l.row.toRowW d [] (λf vs=>vT f vs):=by
 intro w s₀ b mg c G Y fa o e cd g y kV z hd A i C D args DN as E j H I J;obtain rfl:y=.none:=Dflts.none i p;obtain rfl:kV=.none:=Dflts.noKw i;let{a,vs,ns,rfl,rfl,L,N,O}:=Vz m E I;show enter_call (mM (call w s₀ b mg c fa o e cd g a vs ns G Y z (fd_plain hd) A C L N O D) λr s' Q=>?_);let{rfl,T,U,h4}:=Q;show{.inl {.bool MT,.bool MT,[],rfl,λ_=>rfl,.bool MT,V0 l _,λ_=>{oU,λ_ hm=>(nomatch hm)}},T,U,h4}
end Att
namespace L2
open PySem PySem.Spec PyProof.Rows
theorem Ir:∀{vs ns},mQ vs ns->Vals (ns.map V.int) vs
 |_,_,.nil=>.nil
 |_,_,.cons n t h=>.cons #v[t,rfl] (Ir h)
def Zr (H:Hp):Prop:=∀b,H b=MS\/∃o xs,H b=KE (.frz o (.lst xs))
def Zs {P:aQ}{w:bC}{K:aE}{mg D:Str->AK}{CX:CXT}{k:Nat}{fa a:MV}{fd:gG}{x:Str}{sp:Sp}{c:aG}{vs:AW}{ns:LQ}
  (KX:K.In c.heap) (I:c.heap.Ns bF mg) (f:c.heap.Ns vN D) (E:∀x:Str,x≠"__name__"->D x=fR x) (i:c.heap.NoLimit) (U:c.gens=#[])
  (A:c.heap.get? a=KE {cls:=.type "list",data:=.seq vs.toArray}) (hi:mQ vs ns) (J:ns.length<=sizeLine) (Y:Room k qQ)
  (F:∀base:MW,K.In base->base.Ns bF mg->fq P w K mg base CX k fa fd [x] sp) (g:∀(s:aG)(u:aL),rP s fd {[u],[]} [(x,u)])
  (DA:∀H:Hp,Zr H->SqL K H a (ns.map V.int)->sp [.ref a] H (λv _=>v=.bl MT) λ_ _ _=>False)
  (IP:∀H e s',CX [] H c (λ_ _ _=>False) e s'->False) :
  kQ (aT P w) qQ (.call (.ref fa) {[.ref a],[]}) (λr s'=>r=.ok (.ret (.bool MT))/\OldK c.heap s'.heap/\s'.os=c.os/\nO s'.gens) c:=by
 have L:=Ir hi;have j:=hi.length;have N:∀H:Hp,Zr H->SqL K H a (ns.map V.int)->HOk P w H c.heap->(∀b,H b≠MS->b=a)->(H a≠MS->K.lookup a=MS)->
   kQ (aT P w) qQ (.call (.ref fa) {[.ref a],[]}) (λr s'=>r=.ok (.ret (.bool MT))/\OldK c.heap s'.heap/\s'.os=c.os/\nO s'.gens) c:=by
  intro H hO hS hok hA hK;have O:∀{b:MV}{o:Obj},c.heap.get? b=KE o->H b=MS->(nq c.heap H).get? b=KE o:=λe n=>Cr e n;have FT:∀{b:MV}{o:Obj}{l:Array DictEntry}{p:Nat},c.heap.get? b=KE o->o.data=.dict l p->H b=MS:=λ{b o l p} e d=>by
   cases q:H b with
   |none=>rfl
   |some u=>
    have G:b=a:=hA b (by rw[q];simp);subst G;rw[A]at e;cases e;have d':wO vs.toArray _=Data.dict l p:=d;cases d'
  have C:∀{b:MV}{m:Str->AK},c.heap.Ns b m->(nq c.heap H).Ns b m:=λ{b m} wD=>(by let{o,l,p,e,d,r}:=wD;show{o,l,p,O e (FT e d),d,r});have Q:K.In (nq c.heap H):=λb o e=>O (KX b o e) (by
    cases q:H b with
    |none=>rfl
    |some u=>
      have G:b=a:=hA b (by rw[q];simp);subst G;rw[hK (by rw[q];simp)]at e;cases e)
  have hM:Mod K mg (nq c.heap H):=⟨Q,C I,{D,C f,E},let ⟨mc,h1,h2⟩:=i;{mc,C h1,h2}⟩;have e0:Env0 P w K mg (nq c.heap H) qQ [] c H:={rfl,hM,λb o e=>Gf e,Nat.le_of_eq (U8 _ _),trivial,λb f=>NC (show b∈([]:DV)from f) ∅,hok,.of_eq U};show mM ((F _ Q (C I)).run qQ [] c H {[.ref a],[]} [.ref a] [.ref a] _ _ Y e0 (g c (.ref a)) (.cons rfl .nil) (DA H hO hS)) λr s' h=>?_;cases r with
  |error e=>show(IP H e s' h).elim
  |ok fl=>
   cases fl with
   |next=>show eU h
   |brk=>show eU h
   |cont=>show eU h
   |ret u=>
    let{v,H',os,bare,un,y,r',q}:=h;have q':v=.bl MT:=q;subst q';obtain rfl:u=oF MT:=r';show{rfl,OldK.of_keep λb o e=>?_,os,bare};cases q:H b with
    |none=>show un.keep b o e q (by intro z;show NC (show b∈([]:DV)from z) ∅) ∅
    |some u=>
     rcases hO b with z | ⟨ob,xs,z⟩;{rw[q]at z;cases z};{have z2:=un.frzs b ob _ z;let{T,_}:=hok b _ z;let{e2,_}:=y b _ z2;rw[e]at T;cases T;show e2}
 cases hk:K.lookup a with
 |some o=>
  have e:=KX a o hk;rw[A]at e;cases e;show N (λ_=>MS) (λ_=>.inl rfl) (.inr {_,vs.toArray,_,hk,rfl,rfl,rfl,by rw[aK,j];show J,by simpa using L}) (λb u z=>by have z':(MS:Option HO)=KE u:=z;cases z') (λb z=>NC rfl z) λz=>NC rfl z
 |none=>
  show N (λb=>if b=a then KE (.frz {cls:=.type "list",data:=.seq vs.toArray} (.lst (ns.map V.int)))else MS) (λb=>?_) (.inl (.inr ⟨{cls:=.type "list",data:=.seq vs.toArray},MZ rfl⟩)) (λb u z=>?_) (λb z=>?_) λ_=>hk;{by_cases f:b=a;{show .inr {_,_,MZ f}};{show .inl (M' f)}};{by_cases f:b=a;{have z':=(MZ f).symm.trans z;cases z';subst f;show{A,by rw[aC];show J,vs,_,L,A}};{have z':=(M' f).symm.trans z;cases z'}};{by_cases f:b=a;{show f};{show NC (M' f) z}}
abbrev KOf {K:aE}{h:MW}(_:K.In h):aE:=K
def walk_of {l:oZ}{n k:Nat}{m:AZ}{p:(Str->AK)->MW->Prop}{i:bC->MW->Prop}{d:DefRec}{K:Params->aE}{CX:bC->CXT}{sp:bC->Sp}
  (r:l.most=KE n) (y:n<=sizeLine) (z:d.params.defaults=[]) (A:Room k qQ)
  (C:∀(w:bC)(h:MW),i w h->(K w.params).In h)
  (F:∀(w:bC)(mg:Str->AK) (fa:MV) (h:MW),(K w.params).In h->h.Ns bF mg->mg d.name=KE (.ref fa)->∃fd:gG,(∀(s:aG)(u:aL),rP s fd {[u],[]} [(x,u)])/\∀base:MW,(K w.params).In base->base.Ns bF mg->fq l.prog w (K w.params) mg base (CX w) k fa fd [x] (sp w))
  (D:∀(w:bC)(H:Hp) (a:MV) (ns:LQ),ns.length<=n->Zr H->SqL (K w.params) H a (ns.map V.int)->sp w [.ref a] H (λv _=>v=.bl MT) λ_ _ _=>False)
  (E:∀(w:bC)(H:Hp) (s:aG) (e:aL) (s':aG),CX w [] H s (λ_ _ _=>False) e s'->False) :
  PySem.W.WalkO q m p i l.row.toRowW d [] (λf vs=>vT f vs):=by
 show Att.attach_call r z λw s₀ c mg mb fa o pm cd zV a vs ns G Y ho hd AB I J L j N=>?_;have KX:=C w _ Y;let{fd,O,Q}:=F w mg fa _ KX G.T.g I;show Zs KX G.T.g G.T.b G.T.builtins G.T.nolimit N J L (aV j y) A Q O (λH hO U=>D w H a ns j hO U) λH e s'=>E w H c e s'
end L2
namespace L2
open PySem PySem.Spec PyProof.Rows
def ft (s:MY)(j:Nat):MY:=match s with
 | .ClassDef _ _ _ body _ _ _ _ _ _ _=>body.getD j (.Pass {0,0,0,0})
 |_=>.Pass {0,0,0,0}
def gx (s:MY):Arguments:=match s with
 | .FunctionDef _ a _ _ _ _ _ _ _ _=>a
 |_=>{posonlyargs:=[],args:=[],vararg:=MS,kwonlyargs:=[],kw_defaults:=[],kwarg:=MS,defaults:=[]}
def ff (s:MY):List MY:=match s with
 | .FunctionDef _ _ b _ _ _ _ _ _ _=>b
 |_=>[]
def bb (s:MY):lS:=match s with
 | .FunctionDef _ _ _ _ _ _ a _ _ _=>a
 |_=>{kind:=.function,names:=[],isGenerator:=MU,isCoroutine:=MU}
abbrev CX0:CXT:=λ_ _ _ _ _ _=>False
abbrev E0:XK:=λ_ _ _=>False
def yq:oa CX0 X E0:=λ_ _ _ _ _ _ _ h=>h.elim
structure Fun (K:aE)(x wF:Str)(st:MY)(f:MV)(fd:gG):Prop where
 ex:∃oc od kV zV pm an wL ct CI,
  fd=fM x wF (gx st) (ff st) (bb st) .none kV zV pm an wL ct/\K.lookup f=KE {oc,od,.func fd,CI}/\kR K wL wF=MT
 kp:dH K (.ref f)=MT
section
variable {P:aQ}{w:bC}{K:aE}{mg:Str->AK}{base:MW}
def Fun.ok {x b:Str}{st:MY}{f:MV}{fd:gG}{N ps:AZ}{k:Nat}{sp:Sp}(F:Fun K x b st f fd)(S:cz N ps (bb st))(len:∀vs H Q E,sp vs H Q E->vs.length=ps.length)
  (c:∀a A outer s H vs Q E,Room k (A.deeper (nI b (bb st) ‹s› f a))->sp vs H Q E->∃t,PSs (rj CX0 P w K mg base N b (bb st) f a A outer s H E).nox (ff st) t/\t {nx:=λ_ H'=>Q .non H',rt:=Q} (start N vs) H):fq P w K mg base CX0 (k+1) f fd ps sp:=by
 let{i,j,kV,l,m,n,a,ct,p,rfl,lk,d}:=F.ex;show ade lk d S len λA outer s H vs Q E e g=>?_;let{t,h,q}:=c a A outer s H vs Q E e g;show#v[t,h.nox,q]
def Fun.binds {x e:Str}{st:MY}{f:MV}{fd:gG}{ps:AZ}(F:Fun K x e st f fd)
  (h:∀(kV a b:aL)(c:Option MV) (d ct:aL) (us:AW),us.length=ps.length->pD (fM x e (gx st) (ff st) (bb st) .none kV a b c d ct) {us,[]}=pure (ps.zip us)):Binds K fd ps []:=by
 let{g,i,kV,a,b,c,d,ct,j,rfl,lk,l}:=F.ex;show .all (h kV a b c d ct)
def V1 {x a:Str}{st:MY}{f:MV}{i:aL}{j d:Option MV}{m:Array AK}{kV e g b ct:aL}(l:K.lookup f=KE {i,j,.func (fM x a (gx st) (ff st) (bb st) .none kV e g d b ct),m})
  (c:kR K b a=MT) (k:dH K (.ref f)=MT):Fun K x a st f (fM x a (gx st) (ff st) (bb st) .none kV e g d b ct):={#v[i,j,kV,e,g,d,b,ct,m,rfl,l,c],k}
end
section
variable {X:Cx}
def pv (i:Nat)(hN:↥(X.N[i]?=KE x))(a:autoParam (Vis X.e.scope x) JW._auto_1)(hd:↑((x==("__debug__":Str))=MU))
  (b:↑((x==("__classdict__":Str))=MU)):PE X (.Name x pos) (Sf i):=t5 hN a hd b
end
def iteF {A B:Prop}(h:B):if MU=MT then A else B:=by
 rw[M' aY];show h
def iteT {A B:Prop}(h:A):if MT=MT then A else B:=by
 rw[MZ rfl];show h
def Same (H H':Hp):Prop:=∀b o,H b=KE o->H' b=KE o
end L2
set_option maxHeartbeats 4000000
namespace L2
open PySem PySem.Spec PyProof.Rows
section
variable {prog:aQ}{w:bC}{A:bU}{R:vQ->aG->Prop}{s:aG}
theorem V2 (J:Nat->aG->Prop)
  (turn:∀n s,J n s->aJ (aT prog w) A (nG it) (λr a=>match r with
    |none=>R (.ok .next) a
    |some v=>aJ (aT prog w) A (pP b it v) (λ_ e=>aJ (aT prog w) A (oW b env v) (λ_ g=>
        aJ (aT prog w) A (forIn i MT λc r=>if r=MT then do let ok <-tG c env (eval c env);pure (pX ok)else pure (pX r)) (λok d=>
          if ok=MT then aJ (aT prog w) A (eval j env) (λy l=>aJ (aT prog w) A (call (.builtin "list.append") [p,y]) (λ_ q=>∃m,m<n/\J m q) (λ_ _=>False) l) (λ_ _=>False) d
          else ∃m,m<n/\J m d) (λ_ _=>False) g) (λ_ _=>False) e) (λ_ _=>False) a) (λ_ _=>False) s)
  (n:Nat) (h:J n s):kQ (aT prog w) A (.compLoop (.ListComp j [{b,iter,i,0}] C pos) 0 it p env) R s:=by
 show codeAny_loop rfl J (λn s D=>?_) n h;change aJ _ A ((compTurn (.ListComp j [{b,iter,i,0}] C pos) 0 it p env).onRaise (λx=>do noteFrame x env;theTreesLotGoes x)) _ _ s
 show wpAny_noted ?_;rw[compTurn_list];show aA (lQ (aA (dW (turn n s D) (λr a u=>?_) λ_ _ f=>f.elim)));cases r with
 |none=>show WQ u
 |some v=>
  show aA (dW u (λ_ e E=>?_) λ_ _ f=>f.elim);show aA (dW E (λ_ g G=>aA (dW G (λok d z=>?_) λ_ _ f=>f.elim)) λ_ _ f=>f.elim);cases ok with
  |false=>show WQ #v[rfl,z]
  |true=>
   show aA (aA (dW z (λy l H=>aA (dW H (λ_ q I=>WQ (WQ #v[rfl,I])) λ_ _ f=>f.elim)) λ_ _ f=>f.elim))
end
def cxC (X:Cx)(N:AZ)(sc:lS)(cl:List (Str×MV))(C:MV)(s:aG)(H:Hp)(fp:DV):Cx where
 p:=X.p
 w:=X.w
 K:=X.K
 mg:=X.mg
 base:=X.base
 A:=X.A
 N:=N
 s₀:=s
 H₀:=H
 e:=compEnvC sc cl C X.e
 outer:=X.stack
 stack:=X.stack
 ex:=fp
 fn:=λ_=>MU
 calm:=X.calm
 pn:=[]
 xe:=λ_ _=>False
def dn (a:St)(fr:AQ):St:=fr.map λi=>(a[i]?).getD MS
structure qd (X:Cx)(ns ys:AZ)(fr:AQ)(sc:lS)(cl:List (Str×MV)):Prop where
 clos:vU sc X.e=pure cl
 kind:sc.kind=.function
 nocell:∀y∈sc.names,y.2≠.cell
 locs:∀y∈sc.names,y.2=.local->sc.names.lookup y.1=KE .local
 sub:∀p∈cl,X.e.cells.lookup p.1=KE p.2
 has:∀y,((nQ sc X.e).names.lookup y=KE .cell\/(nQ sc X.e).names.lookup y=KE .free)->∃c,cl.lookup y=KE c
 len:fr.length=ys.length
 outs:∀(j:Nat)(y:Str),ys[j]?=KE y->∃i:Nat,fr[j]?=KE i/\X.N[i]?=KE y/\(X.e.kindOf y=KE .cell\/X.e.kindOf y=KE .free)/\
  ((nQ sc X.e).names.lookup y=KE .cell\/(nQ sc X.e).names.lookup y=KE .free)
theorem gi {a:Type}:∀{l:List (Str×a)}{x:Str}{c:a},l.lookup x=KE c->(x,c)∈l
 | [],_,_,h=>by cases h
 | (y,d)::r,x,c,h=>by
  rw[rY]at h;cases q:x==y with
  |true=>
   rw[q]at h;have b:x=y:=eq_of_beq q;have e:d=c:=bX h;rw[b,e];show aR
  |false=>
   rw[q]at h;show aP _ (gi h)
def PTs (X:Cx)(d:CY)(t:TT):Prop:=
 ∀b s a H Q,Inv X b a H s->t a H Q->
  aJ (aT X.p X.w) X.A (forIn d MT λc r=>if r=MT then do let ok <-tG c X.e (eval c X.e);pure (pX ok)else pure (pX r)) (TP X b a Q) X.xe s
def tYes:TT:=λ_ H Q=>Q MT H
def aet:PTs X [] tYes:=λ_ _ _ H _ I h=>wpAny_tests_nil #v[H,I,h]
def aeu (h:PT X c t):PTs X [c] t:=λa s b H Q I q=>wpAny_tests_one (h a s b H Q I q)
def S4 (k:Nat)(fr:AQ)(g:TG)(tt:TT)(te:TE)(c:St)(D:MV)(ys:EX)(N:EX->Hp->Prop)(x:V)(H:Hp):Prop:=
 g x (bB k MS++dn c fr) H λa i=>(∃d,a=d++dn c fr/\d.length=k)/\tt a i λb e=>if b=MT then te a e λy f=>f D=KE (.lst ys)/\N (ys++[y]) (upd f D (.lst (ys++[y])))else N ys e
def Comps (k:Nat)(fr:AQ)(g:TG)(tt:TT)(te:TE)(e:St)(Q:VK)(J:It)(H:Hp)(D:MV):Prop:=∃W:Nat->Nat->EX->Hp->Prop,(∃m,W 0 m [] (upd H D (.lst [])))/\
 ∀i m ys a,W i m ys a->a D=KE (.lst ys)/\((J.stop i a/\Q (.ref D) a)\/(J.go i a/\ys.length<sizeLine/\∃N:EX->Hp->Prop,(∀b H',N b H'->∃c,c<m/\W (i+1) c b H')/\∀x d,J.yld i a x d->S4 k fr g tt te e D ys N x d))
def Km (k:Nat)(fr:AQ)(c:TI)(g:TG)(tt:TT)(te:TE):TE:=λa H Q=>c a H λJ b=>∀D,b D=MS->Comps k fr g tt te a Q J b D
section
variable {X:Cx}{j':CW}{σ:St}{H H':Hp}{s s':aG}{ns ys:AZ}{fr:AQ}{sc:lS}{cl:List (Str×MV)}{C:MV}{fp:DV}
def aje (I:Inv X j' σ H s)(S:qd X ns ys fr sc cl)(hf:∀b∈fp,kq X j' H b)(hl:∀b∈fp,b<‹s›)(hC:‹s›<=C):(cxC X (ns++ys) sc cl C s H fp).Ok where
 mod:=I.ok.mod
 kind:=S.kind
 glob:=I.ok.glob
 blt:=I.ok.blt
 above:=hC
 inj:=λx y c e1 e2=>I.ok.inj x y c (S.sub _ (gi e1)) (S.sub _ (gi e2))
 has:=λx h=>S.has x h
 cab:=λx c h=>nomatch h
 hd:=λh=>I.ok.hd h
 frames:=I.ok.frames
 stk:=.inl rfl
 exf:=λb hb=>{bN (bW (hl b hb) hC),λx c e=>(hf b hb).2.2.2.2.1 x c (S.sub _ (gi e))}
 bs:=I.bs
 bsz:=aV I.ok.bsz I.sz
 noex:=λb o e hb=>by
  rcases(hf b hb).2.2.2.1 with z | z;{show I.ok.noex b o e z};{show NC (bW (bA e) (aV I.ok.bsz z)) (lP _)}
 exfs:=λb hb hs=>by
  rcases aX.mp (I.stkSub b hs)with z | z;{show(hf b hb).2.1 z};{show(hf b hb).2.2.1 z}
 funs:=I.stack
 frf:=I.stkFree
def Iu {h':MW}(I:Inv X j' σ H s)(S:qd X ns ys fr sc cl)(N:∀b∈fp,kq X j' H b)(O:∀b∈fp,b<‹s›)(j:‹s›<C)
  (k:∀b o,s.heap.get? b=KE o->h'.get? b=KE o) (Q:h'.get? ‹s›=KE {cls:=.type "list",data:=.seq ([]:AW).toArray n}) (T:h'.Ns C m) :
  Inv (cxC X (ns++ys) sc cl C s H fp) [] (bB ns.length MS++dn σ fr) (upd H ‹s› (.lst [])) {s with heap:=h',toks:=t'}:=by
 have U:H ‹s›=MS:=I.hok.fresh (aI _);have Y:H C=MS:=I.hok.fresh (kW j);have l:∀x c,cl.lookup x=KE c->c<‹s›:=λx c e=>by
  let{v,q}:=I.cell x c (S.sub _ (gi e));show q.lt
 show{aje I S N O (kW j),rfl,I.bare,Un.laid k (aI _) U,{m,T,λi y v d a e3=>?_},λx c e=>?_,?_,λx c e=>?_,λp hp=>(nomatch hp),?_,?_}
 ·have d:(ns++ys)[i]?=KE y:=d;by_cases hi:i<ns.length;{rw[cE (⇑hi),dP,MZ hi]at a;cases a}
  ·have D:ns.length<=i:=pE hi;rw[cQ D]at d;rw[cQ (⇑D),dC]at a;let{f,f1,f2,E,G}:=S.outs _ y d;unfold dn at a;rw[aW,f1]at a;have g:(σ[f]?).getD MS=KE v:=bX a;have e4:σ[f]?=KE (KE v):=by
    cases q:σ[f]? with
    |none=>rw[q]at g;cases g
    |some o=>
     rw[q]at g;have e5:o=KE v:=g;rw[e5]
   let{m0,hn0,w}:=I.loc;let{u,r,lk}:=w f y v f2 e4 (E.elim (λz=>.inr (.inl z)) λz=>.inr (.inr z));show{u,r,.inr {G,?_}};rcases lk with⟨z,_⟩ | ⟨_,c,ec,hc⟩;{rcases E with z' | z'<;>(rw[z]at z';cases z')};{let{c',J}:=S.has y G;have L:=S.sub _ (gi J);rw[ec]at L;have A:c=c':=bX L;subst A;show{c,J,hc.keeps k}}
 {let{v,q}:=I.cell x c (S.sub _ (gi e));show{v,q.keeps k}};{change upd H ‹s› (.lst []) C=MS;rw[au (fZ j)];show Y};{rw[au (bN (l x c e))];show I.freeC x c (S.sub _ (gi e))};{show I.hok.laid k (aI _) {eQ _,[],n,.nil,Q}};{change(bB ns.length MS++dn σ fr).length=(ns++ys).length;rw[aH,aH,dC];unfold dn;rw[aC,S.len]}
def K9 (I:Inv X j' σ H s)(j:∀b∈fp,kq X j' H b)(l:‹s›<=C)(a:Inv (cxC X (ns++ys) sc cl C s H fp) [] m H' s')(g:fK C s'.heap h') :
  Inv X j' σ H' {s' with heap:=h'}:=by
 have U:Un (frs X.stack) fp H H' s.heap s'.heap:=a.base;have ne:∀b o,s.heap.get? b=KE o->b≠C:=λb o e=>bN (bW (bA e) l);show I.call' (s':={s' with heap:=h'}) (ch:=fp) a.os {λb o e n d f=>?_,λb o e n d f=>?_,U.free,λb o e f=>?_,U.tups,U.frzs,U.tbls} (λb u e=>?_) a.bare λb d=>?_;{show(g.2 b (ne b o e)).trans (U.keep b o e n d f)};{let{p,q}:=U.slot b o e n d f;show{p,(g.2 b (ne b o e)).trans q}};{let{r,q}:=U.there b o e f;show{r,(g.2 b (ne b o e)).trans q}};{have i:H' C=MS:=a.free;show(a.hok b u e).stay (λc v w q=>(g.2 c ?_).trans q) (λ_ q=>q) λ_ _ q=>q;intro z;rcases w with z' | z';{rw[<-z',z,i]at e;cases e};{rw[z,i]at z';cases z'}};{let{E,x,G,y,A,D}:=j b d;show#v[y,x,A,D]}
end
def aev (S:qd X ns ys fr D cl)(hc:X.calm=MT)
  (hi:PI X tg iter wi) (hg:∀C s H f,PG (cxC X (ns++ys) D cl C s H f) tg g) (ht:∀C s H f,PTs (cxC X (ns++ys) D cl C s H f) BB tt) (he:∀C s H f,PE (cxC X (ns++ys) D cl C s H f) AO te)
  (hs:autoParam (∀x,iW iter X.e x=pure x) XW._auto_1):PE X (.ListComp AO [{tg,iter,BB,0}] D pos) (Km ns.length fr wi g tt te):=by
 intro j' s σ H Q I h;rw[eval_ListComp];show wpAny_comprehension_free (use:=MS) rfl hs S.clos S.kind S.locs (thn (hi j' s σ H _ I h) λv s1 h1=>thn h1 λHN a h2=>?_);let{it,f,tn,J,O,e,I2,T,BG,f2,rest}:=h2;subst e;let{W,{m0,w0},turn}:=rest ‹a› (I2.hok.fresh (aI _));show fB (wpAny_newFunctionEnv S.nocell (by intro y hy;simp at hy) (λh3 EJ DO=>?_) S.kind);dsimp only at EJ DO ⊢;generalize hG:a.heap.push {cls:=.type "list",dict:=MS,data:=.seq ([]:AW).toArray}=G at EJ DO ⊢;have zG:G.objs.size=‹a›+1:=(by rw[<-hG,fJ]);have BD:‹a›<G.objs.size:=(by rw[zG];show iC _);have old:∀b o,a.heap.get? b=KE o->h3.get? b=KE o:=λb o e=>
  DO.extBut b o (bN (iG (bA e) BD)) (aF _ (hG ▸ aF _ e))
 have hD:=DO.extBut _ _ (bN BD) (aF _ (hG ▸ bK _ rfl));have below:∀b∈f,b<‹a›:=λb l=>by
  let{o,eo,_}:=T.obj _ _ BG b l;show bA eo
 have I3:=Iu (ns:=ns) (ys:=ys) (fr:=fr) (t':=a.toks+([]:List (Str×aL)).length) I2 S f2 below BD old hD EJ;have AJ:∀{H':Hp},(∀b∈f,H' b=MS)->∀b∈f,kq (cxC X (ns++ys) D cl G.objs.size a O f) [] H' b:=λhn b l=>
  {hn b l,bN (iG (below b l) BD),I3.ok.exfs b l,.inl l,λx c e=>(I3.ok.exf b l).2 x c e,λp hp=>nomatch hp}
 have DY:tn 0 h3:=T.keep _ _ _ BG λb _ o e=>old b o e;have FC:∀b∈f,upd O ‹a› (.lst []) b=MS:=λb l=>by
  rw[au (bN (below b l))];show(f2 b l).1
 have L:∀s3:aG,s3={a with heap:=h3,toks:=a.toks+([]:List (Str×aL)).length}->
   kQ (aT X.p X.w) X.A (.compLoop (.ListComp AO [{tg,iter,BB,0}] D pos) 0 (.ref it) (.ref ‹a›) (compEnvC D cl G.objs.size X.e))
    (compPost (aT X.p X.w) X.A X.xe MS (EP X j' σ Q) (.ref ‹a›) G.objs.size) s3:=by
  intro s3 wC;subst wC;show V2 (λn s'=>∃i U H',Inv (cxC X (ns++ys) D cl G.objs.size a O f) [] (bB ns.length MS++dn σ fr) H' s'/\tn i s'.heap/\(∀b∈f,H' b=MS)/\W i n U H') ?_ m0 {0,[],_,I3,DY,FC,w0};intro n s5 wC;let{i,U,H5,I5,DK,EF,w5}:=wC;let{d5,IQ}:=turn i n U H5 w5;rcases IQ with⟨stop,q⟩ | ⟨go,hz,N,hN,step⟩;{show thn (T.done (cxC X (ns++ys) D cl G.objs.size a O f) rfl rfl rfl hc i [] s5 _ H5 _ I5 (AJ EF) DK stop) λr s6 z=>?_;let{hr,I6}:=z;subst hr;let{m6,IR,_}:=I6.loc;show{m6,IR,λh7 hs7=>{.ref ‹a›,H5,K9 I2 f2 (kW BD) I6 hs7,rfl,q}}}
  ·show thn (T.item (cxC X (ns++ys) D cl G.objs.size a O f) rfl rfl rfl hc i [] s5 _ H5 _ I5 (AJ EF) DK go) λr s6 z=>?_;let{u,hr,h6}:=z;subst hr;show thn h6 λ_ s7 z=>?_;let{x,H7,I7,r7,y7,EK,IS}:=z;have IT:=I7.pinned (AJ IS) (T.obj _ _ EK);show thn (hg _ _ _ _ _ s7 _ H7 x u _ IT r7 (step x H7 y7)) λ_ s8 z=>?_;let{E,H8,I8,{ts,eσ,EL},q8}:=z;have again:∀{Y:Hp}{s9:aG}{EM:EX}{m':Nat},m'<n->Inv (cxC X (ns++ys) D cl G.objs.size a O f) ([]++yc f s7.heap) E Y s9->W (i+1) m' EM Y->
     ∃m,m<n/\∃i U H',Inv (cxC X (ns++ys) D cl G.objs.size a O f) [] (bB ns.length MS++dn σ fr) H' s9/\tn i s9.heap/\(∀b∈f,H' b=MS)/\W i m U H':=λ{Y s9 EM m'} hm I9 w9=>by
    show{m',hm,i+1,EM,Y,I9.unpinned.weak ?_ ?_,T.keep _ _ _ EK λb l o e=>(I9.pin (b,o) (cG _ (cG _ (mq l e)))).1,λb l=>?_,w9};{rw[eσ,aH,aH,dC,EL]};{intro j v e;rw[eσ];by_cases hj:j<ns.length;{rw[cE (⇑hj),dP,MZ hj]at e;cases e};{have EN:ns.length<=j:=pE hj;rw[cQ (⇑EN),dC]at e;rw[cQ (by rw[EL];show EN),EL];show e}};{let{o,e,d}:=T.obj _ _ EK b l;show(I9.pin (b,o) (cG _ (cG _ (mq l e)))).2.1}
   show thn (ht _ _ _ _ _ s8 E H8 _ I8 q8) λok s9 z=>?_;let{Y,I9,q9}:=z;cases ok with
   |false=>
    rw[M' aY]at q9 ⊢;let{m',hm,w9}:=hN _ _ q9;show again hm I9 w9
   |true=>
    rw[MZ rfl]at q9 ⊢;show thn (he _ _ _ _ _ s9 E Y _ I9 q9) λyv HU z=>?_;let{y,IU,IV,GB,IW,GC}:=z;show thn (z7 _ HU E IU (.ref ‹a›) [y] (.ref ‹a›) [yv] (λ_ GD=>N (U++[y]) GD) IV rfl (.cons GB .nil) {_,U,y,rfl,rfl,IW,hz,GC}) λ_ s11 z=>?_;let{_,GD,IX,_,GF}:=z;let{m',hm,GG}:=hN _ _ GF;show again hm IX GG
 show codeAny_compStart_list (L _ rfl) (T.self X.A 0 _ _ _ DY (L _ rfl))
section
variable {X:Cx}{j':CW}{σ:St}{H:Hp}{s:aG}{h':MW}
def Inv.track (I:Inv X j' σ H s)(f:kq X j' H a)(i:X.s₀.heap.objs.size<=a)(new:ObjOk X.p X.w (upd H a o) s.heap a o):Inv X j' σ (upd H a o) s:=by
 let{j,l,G,J,m,r}:=f;have old:∀b u,H b=KE u->upd H a o b=KE u:=λb u e=>by
  rw[au (bp e j)];show e
 show{I.ok,I.os,I.bare,{I.base.keep,I.base.slot,λb d e n y=>?_,I.base.there,λb xs e=>old _ _ (I.base.tups b xs e),λb d u e=>old _ _ (I.base.frzs b d u e),λb ps e=>?_},I.loc,I.cell,?_,λx c e=>?_,λp g=>?_,λb u e=>?_,I.len};{rw[au (bN (bW (bA e) i))];show I.base.free b d e n y};{let{A,q}:=I.base.tbls b ps e;show{A,old _ _ q}};{rw[au (eT l)];show I.free};{rw[au (m x c e)];show I.freeC x c e};{let{C,D,E}:=I.pin p g;show{C,?_,E};rw[au (r p g)];show D};{by_cases q:b=a;{subst q;rw[ay]at e;cases e;show new};{rw[au q]at e;show(I.hok b u e).stay (λ_ _ _ z=>z) (λc z=>old _ _ z) λc xs z=>old _ _ z}}
def Inv.turnedAll {t':Nat}{ch:DV}(I:Inv X j' σ H s)(d:∀b∈ch,kq X j' H b)(k:∀b o,b ∉ ch->s.heap.get? b=KE o->h'.get? b=KE o):Inv X j' σ H {s with heap:=h',toks:=t'}:=by
 have nc:∀b u,H b=KE u->b ∉ ch:=λb u e z=>by
  rw[(d b z).1]at e;cases e
 show I.step (g':=s.gens) (d':=s.drawn) (ch:=ch) (λb f=>?_) (λb o _ _ a e _=>k b o a e) (λb o _ _ a e _=>{o.slots,k b o a e}) (λ_ _ _ _ n=>n) (λb o a e=>{o,k b o a e})
  (λ_ _ e=>e) (λ_ _ _ e=>e) (λb ps e=>{#[],by rw[e];simp}) (λm g=>?_) (λb u e=>?_) I.bare
 {let{A,i,C,j,l,p}:=d b f;show#v[j,i,l,p]};{let{o,w,x,y,r}:=g;show{o,w,x,k _ o (λz=>(d _ z).2.1 rfl) y,r}};{show(I.hok b u e).stay (λc v a q=>k c v ?_ q) (λ_ q=>q) λ_ _ q=>q;rcases a with z | z;{rw[z];show nc b u e};{show nc c _ z}}
end
section
variable {X:Cx}
def V3 (K:aE):R2:=λx y H Q=>∃a b ys,x=.ref a/\y=.ref b/\SqT K H a []/\SqT K H b ys/\Q (.ref b) H
def Zt:OpR X (eS .Add) (V3 X.K):=by
 intro A s C H x y v u Q I g i h;let{a,b,ys,rfl,rfl,j,l,q}:=h;cases g;cases i;let{its,m,n,_}:=I.tuple j;let{p,D,r,_}:=I.tuple l;cases m;let{{E,w,G,l1},c,k1,n1,d}:=id n;let{{J,z,L,l2},e,k2,n2,f}:=id r;simp only at k1 d k2 f;subst k1 d k2 f;show uP {_,c,rfl} {_,e,rfl} rW uD oX oO (nY _ _)
  (tuple_addW0 a b #[] p.toArray n1 n2 w z l1 l2 rfl) {c,e,{.ref b,H,I,rfl,q}}
def Zu:OpR X (eS .Add) (λx y H Q=>adf X.K x y H Q\/V3 X.K x y H Q):=aep.or Zt
def rSlS:V->BV->BV->Hp->VK->Prop:=λx lo hi H Q=>∃z,x=.str z/\z.length<=sizeLine/\Q (.str (lU z lo hi)) H
def ajf:SlR X rSlS:=by
 intro f s g H x v p r lo hi w Q I m n pl d h;let{z,rfl,hz,q}:=h;let{t,rfl}:=m;let{o,a,b,hd}:=n;show{"str",_,F.slot_str_getitem.lookup,vR _ _ _,?_};have fin:∀t' k,EP X f g Q (.str (lU z lo hi) t') {s with toks:=k}:=λt' k=>{.str (lU z lo hi),H,I.tok k,#v[t',rfl],q};cases pl with
 |none=>
  cases d with
  |none=>show lJ (l:=MS) (u:=MS) (st:=MS) #v[o,a,b,hd] rfl (pY {aV (rZ z _ _) hz,fin})
  |int j c=>show lJ (l:=MS) (u:=KE (j,c)) (st:=MS) #v[o,a,b,hd] rfl (pY {aV (rZ z _ _) hz,fin})
 |int i e=>
  cases d with
  |none=>show lJ (l:=KE (i,e)) (u:=MS) (st:=MS) #v[o,a,b,hd] rfl (pY {aV (rZ z _ _) hz,fin})
  |int j c=>show lJ (l:=KE (i,e)) (u:=KE (j,c)) (st:=MS) #v[o,a,b,hd] rfl (pY {aV (rZ z _ _) hz,fin})
end
end L2
namespace L2
open PySem PySem.Spec PyProof.Rows
inductive Da where
 |flat (v:V)
 |tup (xs:List Da)
 |lst (xs:List Da)
mutual
inductive rn (K:aE)(H:Hp):V->Da->Prop where
 |flat {v:V}:oq v=MT->rn K H v (.flat v)
 |tup {a:MV}{xs:EX}{ds:List Da}:SqT K H a xs->Holds K H xs ds->rn K H (.ref a) (.tup ds)
 |lst {a:MV}{xs:EX}{ds:List Da}:SqL K H a xs->Holds K H xs ds->rn K H (.ref a) (.lst ds)
inductive Holds (K:aE)(H:Hp):EX->List Da->Prop where
 |nil:Holds K H [] []
 |cons {x:V}{xs:EX}{d:Da}{ds:List Da}:rn K H x d->Holds K H xs ds->Holds K H (x::xs) (d::ds)
end
mutual
def Da.dep:Da->Nat
 | .flat _=>0
 | .tup xs=>depL xs+1
 | .lst xs=>depL xs+1
def depL:List Da->Nat
 | []=>0
 |d::r=>max d.dep (depL r)
end
theorem Bd:∀{ds d},d∈ds->d.dep<=depL ds
 |e::r,d,h=>by
  rw[depL];rcases aX.mp h with rfl | h;{show Nat.le_max_left _ _};{show aV (Bd h) (Nat.le_max_right _ _)}
theorem Holds.length {K:aE}{H:Hp}:∀{xs:EX}{ds:List Da},Holds K H xs ds->xs.length=ds.length
 | [],_,h=>by cases h;rfl
 |_::_,_,h=>by
  cases h with
  |cons _ r=>rw[aS,aS,r.length]
theorem Holds.get {K:aE}{H:Hp}:∀{xs:EX}{ds:List Da}{j:Nat}{x:V},Holds K H xs ds->xs[j]?=KE x->∃d,ds[j]?=KE d/\rn K H x d
 | [],_,_,_,_,e=>by cases e
 |z::a,_,0,x,h,e=>by
  cases h with
  |cons b _=>
   have c:z=x:=(⇑e);subst c;show{_,rfl,b}
 |z::a,_,j+1,x,h,e=>by
  cases h with
  |cons _ r=>
   let{d,f,g}:=r.get (j:=j) (x:=x) (⇑e);show{d,by simpa using f,g}
def Zv (h:oq v=MT):eqV v v=MT:=by
 cases v with
 |non=>rfl
 |bl b=>show beq_self_eq_true b
 |int i=>show beq_self_eq_true i
 |str z=>show beq_self_eq_true z
 |byt _=>cases h
 |flt _=>cases h
 |ref _=>cases h
 |ty _=>cases h
section
open PySem.SeqAt
variable {X:Cx}{j':CW}{σ:St}{H:Hp}{s:aG}{A:bU}
def El {its a:AW}(n:Holds X.K H xs ds)(p:Holds X.K H ys ds)(e:Vals xs its)(f:Vals ys a)
  (q:∀d∈ds,∀(x y:V)(u v:aL),rn X.K H x d->rn X.K H y d->RelV x u->RelV y v->EqAt A s u v MT) :
  ∀j (b:j<its.toArray.size) (c:j<a.toArray.size),EqAt A s its.toArray[j] a.toArray[j] MT:=by
 intro j b c;have l1:=e.length;have l2:=f.length;have g:j<xs.length:=(by rw[l1];simpa using b);have i:j<ys.length:=(by rw[l2];simpa using c);let{d,l,k1}:=n.get (aB g);let{d',m,k2}:=p.get (aB i);rw[l]at m;cases m;let{u,r,w}:=e.get (aB g);let{v,C,D}:=f.get (aB i);have E:its.toArray[j]=u:=by
  have z:its[j]?=KE its.toArray[j]:=(by simp[aB (⇑(b:j<its.length))]);rw[r]at z;show(bX z).symm
 have G:a.toArray[j]=v:=by
  have z:a[j]?=KE a.toArray[j]:=(by simp[aB (⇑(c:j<a.length))]);rw[C]at z;show(bX z).symm
 rw[E,G];show q d (aU l) _ _ _ _ k1 k2 w D
def aew (I:Inv X j' σ H s)(l:SqT X.K H a xs)(m:SqT X.K H b ys)(c:Holds X.K H xs ds)(f:Holds X.K H ys ds)(n:A.units<dB)
  (p:∀d∈ds,∀(x y:V)(u v:aL),rn X.K H x d->rn X.K H y d->RelV x u->RelV y v->EqAt A.in1 s u v MT):RcAt A s (.ref a) (.ref b) MT:=by
 let{its,g,r,_}:=I.tuple l;let{i,j,w,_}:=I.tuple m;have q:=vG (s:=s) (e:=λ_=>MT) (show s.heap.IsTuple a its.toArray from r) (show s.heap.IsTuple b i.toArray from w) n (El c f g j p);have e:its.toArray.size=i.toArray.size:=by
  rw[aK,aK,<-g.length,<-j.length,c.length,f.length]
 rw[e,List.all_eq_true.mpr (λ_ _=>rfl)]at q;simpa using q
def P0 (I:Inv X j' σ H s)(j:SqL X.K H a xs)(l:SqL X.K H b ys)(c:Holds X.K H xs ds)(f:Holds X.K H ys ds)(m:A.units<dB)
  (n:∀d∈ds,∀(x y:V)(u v:aL),rn X.K H x d->rn X.K H y d->RelV x u->RelV y v->EqAt A.in1 s u v MT):RcAt A s (.ref a) (.ref b) MT:=by
 let{its,g,p,_}:=I.list j;let{r,i,w,_}:=I.list l;have e:its.toArray.size=r.toArray.size:=by
  rw[aK,aK,<-g.length,<-i.length,c.length,f.length]
 have q:=RcAt.lists (s:=s) (e:=λ_=>MT) p.isList w.isList e m (El c f g i n);rw[List.all_eq_true.mpr (λ_ _=>rfl)]at q;show q
theorem Gp (I:Inv X j' σ H s):∀n {d x y u v A},d.dep<=n->A.units+n<dB->rn X.K H x d->rn X.K H y d->RelV x u->RelV y v->EqAt A s u v MT
 |n,.flat w,x,y,u,v,A,_,_,c,e,g,i=>by
  cases c with
  |flat f=>
   cases e;have q:=K6 (A:=A) (s:=s) g i f f;rw[Zv f]at q;show q
 |0,.tup ds,_,_,_,_,_,h,_,_,_,_,_=>by rw[Da.dep]at h;lia
 |0,.lst ds,_,_,_,_,_,h,_,_,_,_,_=>by rw[Da.dep]at h;lia
 |n+1,.tup ds,x,y,u,v,A,h,E,c,e,g,i=>by
  rw[Da.dep]at h;cases c with
  |@tup a xs _ l m=>
   cases e with
   |@tup b ys _ p r=>
    cases(show u=aZ a from g);cases(show v=aZ b from i);by_cases j:a=b;{rw[j];show uT _};{show sA j (aew I l p m r () λd hd x y u v z ky C D=>?_);show Gp I n (aV (Bd hd) ()) (by rw[jD];lia) z ky C D}
 |n+1,.lst ds,x,y,u,v,A,h,E,c,e,g,i=>by
  rw[Da.dep]at h;cases c with
  |@lst a xs _ l m=>
   cases e with
   |@lst b ys _ p r=>
    cases(show u=aZ a from g);cases(show v=aZ b from i);by_cases j:a=b;{rw[j];show uT _};{show sA j (P0 I l p m r () λd hd x y u v z ky C D=>?_);show Gp I n (aV (Bd hd) ()) (by rw[jD];lia) z ky C D}
end
section
variable {K:aE}{H H':Hp}
def SqT.same (h:SqT K H a xs)(e:Same H H'):SqT K H' a xs:=by
 rcases h with(h | ⟨o,h⟩) | h;{show .inl (.inl (e _ _ h))};{show .inl (.inr {o,e _ _ h})};{show .inr h}
end
section
variable {X:Cx}
inductive TyQ (K:aE)(H:Hp):V->aL->Prop where
 |of {x:V}{t:aL}:rh K H x t->TyQ K H x t
 |sqt {a:MV}{xs:EX}:SqT K H a xs->TyQ K H (.ref a) (.type "tuple")
 |sql {a:MV}{xs:EX}:SqL K H a xs->TyQ K H (.ref a) (.type "list")
def rIsq (K:aE):EX->Hp->VK->Prop:=λxs H Q=>∃x t n b,xs=[x,.ty n]/\TyQ K H x t/\dN K t (.type n)=KE b/\Q (.bl b) H
def Zw:ia X (.builtin "isinstance") (rIsq X.K):=by
 intro j s l H xs us Q I r h;let{x,t,n,b,rfl,ty,e,q}:=h;let{u,c,rfl,d,m}:=wo r;cases(show c=gU n from m);have fin:∀f,EP X j l Q (.bool b) {s with toks:=f}:=λf=>{.bl b,H,I.tok f,rfl,q};cases ty with
 |of ty=>show Vr I d ty e fin
 |@sqt a xs h=>
  cases(show u=aZ a from d);let{its,_,{o,g,i,_},_}:=I.tuple h;show eV PySem.W.kitx_tuple I.kIn #v[o,g,i] e (λz=>nomatch z) fin
 |@sql a xs h=>
  cases(show u=aZ a from d);let{its,_,pl,_}:=I.list h;let{o,g,i,_}:=pl.isList;show eV rL I.kIn #v[o,g,i] e (λz=>nomatch z) fin
end
def Tups (H H':Hp):Prop:=(∀b xs,H b=KE (.tup xs)->H' b=KE (.tup xs))/\∀b o u,H b=KE (.frz o u)->H' b=KE (.frz o u)
def Tups.of (e:Same H H'):Tups H H':={λ_ _ h=>e _ _ h,λ_ _ _ h=>e _ _ h}
section
variable {K:aE}{H H':Hp}
def SqT.tups (h:SqT K H a xs)(e:Tups H H'):SqT K H' a xs:=by
 rcases h with(h | ⟨o,h⟩) | h;{show .inl (.inl (e.1 _ _ h))};{show .inl (.inr {o,e.2 _ _ _ h})};{show .inr h}
end
open Sem (wp)
section
variable {prog:aQ}{w:bC}{A:bU}{E:aL->aG->Prop}{s:aG}
def drawT (hi:s.heap.IsTupleIter it t k)(c:s.heap.IsTuple t its)(d:its[k]?=KE y)
  (e:∀h',h'.IsTupleIter it t (k+1)->fK it s.heap h'->Q y {s with heap:=h'}):aJ (aT prog w) A (eC (.ref it)) Q E s:=by
 let{j,b,f,a}:=id hi;let{l,g,_,m,i}:=c;unfold eC;show aA (fA (name:=eA "__next__") hi.typeIs F.slot_tuple_iterator_next (fN F.slot_tuple_iterator_next hi.typeIs F.entry_tuple_iterator_next ?_ (F.args_tuple_iterator_next_1 _)));change aJ _ _ (pZ (.ref it) 0 >>= _) _ _ s;show aA (dD b a (x:=.ref t) rfl ?_);change aJ _ _ (if (aZ t==fO)=MT then _ else _) _ _ s
 rw[M' (show ¬((aZ t==fO)=MT)from aY)];change aJ _ _ (pZ (.ref it) 1 >>= _) _ _ s;show aA (dD b a (x:=.int k 0) rfl ?_);change aJ _ _ (seqItems? (.ref t) >>= _) _ _ s;show aA (gN g i ?_);simp only[bQ,d];show aA (oK b a ∅ (WQ {y,rfl,WQ (e _ ?_ (jR ..))}));show{_,hX _ b (pJ (lV a _)),(Obj.cls_mapFields ..).trans f,by rw[lV a];simp[jC]}
def V4 (d:A.handled=MS)(hi:s.heap.IsTupleIter it t k)(f:s.heap.IsTuple t its)(g:its[k]?=MS)
  (i:∀h' e,qR it s.heap h'->(∃o,h'.get? e=KE o/\o.cls=.type "StopIteration")->E (.ref e) {s with heap:=h'}):aJ (aT prog w) A (eC (.ref it)) Q E s:=by
 let{n,b,p,c}:=id hi;let{q,j,_,r,l}:=f;unfold eC;show aA (fA (name:=eA "__next__") hi.typeIs F.slot_tuple_iterator_next (fN F.slot_tuple_iterator_next hi.typeIs F.entry_tuple_iterator_next ?_ (F.args_tuple_iterator_next_1 _)));change aJ _ _ (pZ (.ref it) 0 >>= _) _ _ s;show aA (dD b c (x:=.ref t) rfl ?_);change aJ _ _ (if (aZ t==fO)=MT then _ else _) _ _ s
 rw[M' (show ¬((aZ t==fO)=MT)from aY)];change aJ _ _ (pZ (.ref it) 1 >>= _) _ _ s;show aA (dD b c (x:=.int k 0) rfl ?_);change aJ _ _ (seqItems? (.ref t) >>= _) _ _ s;show aA (gN j l ?_);simp only[bQ,g];show aA (nA (aA (oK b c ∅ ?_)));change aJ _ _ (newExc (.type "StopIteration") [] >>= _) _ _ _;show aA ?_;simp only[newExc,newTuple];show aA (fB ?_ (by size_fits));show aA (m:=firstArgMember _ _) (wpAny_of_eq (a:=fO) (by first | rfl | (simp only[firstArgMember];rfl)) ?_)
 show fB ?_ (by size_fits);simp only[raiseNew];show aA (wpAny_handled ?_)
 first | rw[show A.in1.handled=MS from d] | rw[d]
 show aA (WQ (wpAny_throw ?_));show i _ _ (((jR ..).extBut.push _).push _) {_,bK _ rfl,rfl}
end
open Sem (wp)
section
variable {X:Cx}{pos:Pos}
def gLst (K:aE)(n:Nat)(t:TGs):TG:=λv b H Q=>∃a xs,v=.ref a/\SqL K H a xs/\xs.length=n/\t xs b H Q
theorem Iv {val:Nat->Int}{n:Nat}(h:∀j,j<n->-1000000000<=val j/\val j<=1000000000):∀j,j<=n->-(1000000000*(j:Int))<=sC val j/\sC val j<=1000000000*(j:Int)
 |0,_=>{by change _<=(0:Int);lia,by change(0:Int)<=_;lia}
 |j+1,a=>by
  have z:=Iv h j ();have y:=h j ();change _<=sC val j+val j/\sC val j+val j<=_;lia
def rAllB (K:aE):EX->Hp->VK->Prop:=λxs H Q=>∃(a:MV)(bs:List Bool),xs=[.ref a]/\SqL K H a (bs.map V.bl)/\Q (.bl (bs.all id)) H
def V5 (D:X.calm=MT):ia X (.builtin "all") (rAllB X.K):=by
 intro j s E H xs us Q I r h;let{a,bs,rfl,G,q}:=h;let{u,rfl,f}:=jf r;cases f;let{its,l,pl,hz}:=I.list G;have g:=pl.isList;have lt:a<‹s›:=(by let{o,J,_}:=g;show bA J);have L:Inv X j E H {s with heap:=s.heap.push {cls:=.type "list_iterator",data:=.fields #[.ref a,.int 0 0]} }:=I.kept (t':=s.toks) λb o e=>aF _ e;have c:kq X j H ‹s›:=I.fpOk (aI _) (I.hok.fresh (aI _));have len:its.length=bs.length:=(by rw[<-l.length,aC]);have tr:TruthOf X.p X.w X.A.in1 (λi v=>its.toArray[i]?=KE v) (λi=>bs.getD i MT):=λi v s' N E' e O=>by
  have m:its[i]?=KE v:=(⇑e);have hi:i<bs.length:=(by rw[<-len];show(bZ.mp m).1);let{u,n,f}:=l.get (i:=i) (x:=.bl bs[i]) (by rw[aW,aB hi];rfl);rw[m]at n;cases n;cases(show v=oF bs[i]from f);show iV ?_;have z:bs.getD i MT=bs[i]:=(by rw[bO,aB hi];rfl);have p:N (bs.getD i MT) s':=O;rw[z]at p;show p
 show call_all_walk (eN g {‹s›,[‹s›,a],[‹s›],its.toArray.size,_,_,λi=>bs.getD i MT,rfl,vV (show X.A.in1.handled=MS from I.ok.hd D) ‹s› a (bN lt) its.toArray,{{_,bK _ rfl,rfl,rfl},nB g _},tr,λh' T U=>?_});have Y:(bG its.toArray.size).all (λi=>bs.getD i MT)=bs.all id:=by
  rw[aK,len,eJ,List.all_eq_true,List.all_eq_true];constructor;{intro z b d;let{i,hi,rfl}:=List.mem_iff_getElem.mp d;have y:=z i (bY.mpr hi);rw[bO,aB hi]at y;show y};{intro z i hi;have C:=bY.mp hi;rw[bO,aB C];show z _ (iH C)}
 rw[Y];show{.bl _,H,L.turnedAll (t':=T) (ch:=[‹s›]) (λb d=>?_) (λb o d e=>U b o d e),rfl,q};cases aN.mp d;show#v[c.1,c.2.1,c.2.2.1,c.2.2.2.1,c.2.2.2.2.1,c.2.2.2.2.2]
end
end L2
namespace HT
open PySem PyProof.Rows
section
variable {prog:aQ}{w:bC}{A:bU}{E:aL->aG->Prop}{s:aG}
def Cv {n:Nat}{Q:Int×Int×Nat->aG->Prop}(d:s.heap.IsSliceOf f .none .none (.int (-1) t))
  (h:Q ((n:Int)-1,-1,n) s):aJ (aT prog w) A (kF (.ref f) (pure (n:Int))) Q E s:=by
 let{os,a,i,b}:=id d;unfold kF Builtin.Slice.sliceFields;show aA (aA (dD a b (x:=.none) rfl (aA (dD a b (x:=.none) rfl (aA (dD a b (x:=.int (-1) t) rfl (WQ ?_)))))));show aA (slicePart_int ?_);change aJ _ _ (if ((-1:Int)==0)=MT then _ else _) _ _ s
 rw[M' #v[]];show aA (qP (aA (qP (aA (WQ ?_)))));change aJ _ _ (match gY MS MS (-1) (n:Int)with | (lo,hi)=>pure (lo,(-1:Int),fF lo hi (-1))) _ _ s
 have e:gY MS MS (-1) (n:Int)=((n:Int)-1,-1):=by
  unfold gY;have c:(-1:Int)<0:=();simp only[c,if_true]
 rw[e];change aJ _ _ (pure ((n:Int)-1,(-1:Int),fF ((n:Int)-1) (-1) (-1))) _ _ s;have g:fF ((n:Int)-1) (-1) (-1)=n:=by
  unfold fF;have c:¬((-1:Int) > 0):=();simp only[c,if_false,Int.neg_neg,uQ]
  split<;>lia
 rw[g];show WQ h
def Zx (xs:AW):((bG xs.length).filterMap λ(m:Nat)=>xs.toArray[(((xs.length:Nat):Int)-1+(m:Int)*(-1)).toNat]?)=xs.reverse:=by
 have e:∀(l:AQ),(∀m∈l,m<xs.length)->(l.filterMap λ(m:Nat)=>xs.toArray[(((xs.length:Nat):Int)-1+(m:Int)*(-1)).toNat]?)=l.filterMap λm=>xs.reverse[m]?:=by
  intro l
  induction l with
  |nil=>intro _;rfl
  |cons m r b=>
   intro a;have c:m<xs.length:=a m aR;have q:(((xs.length:Nat):Int)-1+(m:Int)*(-1)).toNat=xs.length-1-m:=();rw[iZ,iZ,b λk hk=>a k (aP _ hk),q];have z:xs.toArray[xs.length-1-m]?=xs.reverse[m]?:=by
    rw[List.getElem?_reverse c];simp
   rw[z]
 rw[e _ λm a=>bY.mp a];have f:∀(ys:AW)(k:Nat),k<=ys.length->(bG k).filterMap (λm=>ys[m]?)=ys.take k:=by
  intro ys k
  induction k with
  |zero=>intro _;rfl
  |succ k b=>
   intro hk;rw[lW,kC,b (),cH,aB (by lia:k<ys.length)];simp[aB (by lia:k<ys.length)]
 have g:=f xs.reverse xs.length (by rw[jA];show aI _);rw[g,mH (by rw[jA];show aI _)]
def getItem_tuple_rev {its:AW}(a:sN s.heap p its.toArray)(b:s.heap.IsSliceOf c .none .none (.int (-1) t))
  (h:Q (.ref ‹s›) {s with heap:=s.heap.push {cls:=.type "tuple",data:=.seq its.reverse.toArray} }) (hz:its.length<=sizeLine):aJ (aT prog w) A (oJ (.ref p) (.ref c)) Q E s:=by
 have ok:sizeOk (.seq its.reverse.toArray):=by
  change its.reverse.toArray.size<=sizeLine;rw[aK,jA];show hz
 let{os,d,e,i}:=id b;have f:s.TypeIs (.ref c) "slice":=#v[os,d,e];unfold oJ
 try with_reducible show gK ?_
 first | show aA (WQ ?_) | skip
 show aA (rM a.typeIs #v[] ?_);show aA (fA (name:=eA "__getitem__") a.typeIs dO (fN dO a.typeIs qK ?_ (qZ _ _)));change aJ _ _ (kG (.ref p) >>= _) _ _ s;show aA (tupleItemsOf_ a ?_);show aA (kX f ?_);rw[MZ #v[]];show aA (Cv b ?_);have no:¬(((((its.toArray.size:Nat):Int)-1)==0&&(-1:Int)==1&&its.toArray.size==its.toArray.size)=MT):=by
  intro q;rw[eG,eG]at q;show NC q.1.2 #v[]
 change aJ _ _ (if ((((its.toArray.size:Nat):Int)-1)==0&&(-1:Int)==1&&its.toArray.size==its.toArray.size)=MT then _ else _) _ _ s
 rw[M' no];have g:((bG its.toArray.size).filterMap λ(m:Nat)=>its.toArray[(((its.toArray.size:Nat):Int)-1+(m:Int)*(-1)).toNat]?)=its.reverse:=by
  rw[aK];show Zx its
 rw[g]
 first
  |show aA (m:=gA _) (fB (WQ {_,rfl,WQ h}) ok)
  |show aA (aA (m:=gA _) (fB (WQ {_,rfl,WQ h}) ok))
  |show aA (aA (m:=gA _) (fB (WQ (WQ {_,rfl,WQ h})) ok))
end
end HT
namespace L2
open PySem PySem.Spec PyProof.Rows
section
variable {X:Cx}{e st:MX}{te ts:TE}{pos p2:Pos}
def tRev (K:aE)(te ts:TE):TE:=λc H Q=>te c H λx d=>ts c d λy b=>y=.int (-1)/\∃a xs,x=.ref a/\SqT K b a xs/\∀p,b p=MS->Q (.ref p) (upd b p (.tup xs.reverse))
def aex (m:PE X e te)(n:PE X st ts):PE X (.Subscript e (.Slice MS MS (KE st) p2) pos) (tRev X.K te ts):=by
 intro d s f H Q I h;show Subscript_ (thn (m d s f H _ I h) λv p g=>?_);let{x,r,u,z,C}:=g;show wpAny_Slice ?_;rw[uE];show WQ (WQ ?_);rw[evalPart_some];show thn (n d p f r _ u C) λvs c g=>?_;let{y,D,E,G,J}:=g;let{rfl,a,xs,rfl,L,q}:=J;let{t,rfl}:=G;cases(show v=aZ a from z);have i:Inv X d f D {c with heap:=c.heap.push {cls:=.type "slice",data:=.fields #[.none,.none,.int (-1) t]} }:=E.kept (t':=c.toks) λb N q=>aF _ q;let{its,j,l,hz}:=i.tuple L;have O:its.length<=sizeLine:=(by rw[<-j.length];show hz);change aJ (aT X.p X.w) X.A (uF e (.Slice MS MS (KE st) p2) (.ref a) (.ref ‹c›)) (EP X d f Q) X.xe {c with heap:=c.heap.push {cls:=.type "slice",data:=.fields #[.none,.none,.int (-1) t]} };show tail_any (ops:=[.ref a,.ref ‹c›]) l.typeIs dO.lookup (HT.getItem_tuple_rev l (Heap.IsSliceOf.new ..) ?_ O) (by with_unfolding_all rfl)
 show{.ref _,_,i.laid (t':=c.toks) (o:=.tup xs.reverse) (λb N q=>aF _ q) (aI _) ?_,rfl,q _ (i.hok.fresh (aI _))};show{by rw[jA];show hz,_,j.reverse,uR _ _}
def aey (l b:MV)(xs ys:BW)(n k:Nat)(dd:Option MV)(c:Array AK)(j:¬(!xs.isEmpty&&iF (xs.size+ys.size))=MT)(d:xs.size<=sizeLine)(f:xs.size+ys.size<=sizeLine+1) :
  Meets (fW.«list.extend» {[.ref l,.ref b],[]}) (λ_ R s=>s.heap.get? l=KE {cls:=.type "list",dict:=MS,data:=.seq xs n,slots:=#[]}/\s.heap.get? b=KE {cls:=.type "tuple",dict:=dd,data:=.seq ys k,slots:=c}/\R (.ok (.ret fO)) {s with heap:=s.heap.update l (fY λx=>x++ys),toks:=s.toks}):=
 .of_wp λprog w A R s h=>by
  let{m,p,q,r,os}:=s;let{a,g,h}:=h;have u:=AutoSeq1.idx_int;have y:=AutoSeq1.sub_tuple_tuple;have z:=AutoSeq1.sub_list_list;have C:=AutoSeq1.sub_tuple_list;have D:=AutoSeq1.sub_list_tuple;have i:(xs++ys).size<=sizeLine+1:=by rw[Array.size_append];show f
  wp_walk using(wpAny_updateSeq a rfl (hz:=d) (_hz':=i)),AutoSeq1.wpAny_loadPart' a,AutoSeq1.wpAny_loadPart' g
  show{_,rfl,h}
def rExtT (K:aE):V->EX->Hp->VK->Prop:=λx vs H Q=>∃l b xs a,x=.ref l/\vs=[.ref b]/\H l=KE (.lst xs)/\SqT K H b a/\xs.length+a.length<=sizeLine/\Q .non (upd H l (.lst (xs++a)))
def aez:MtM X "list.extend" (rExtT X.K):=by
 intro y s A H x vs v us Q I g i h;let{l,b,xs,C,rfl,rfl,c,hB,hz,q}:=h;cases g;let{u,rfl,j}:=i.one;cases j;let{z,its,n,r,D,e}:=I.lstM c;let{a,d,p2,_}:=I.tuple hB;have E:=d.length;let{{G,m,J,l2},p,k2,n2,f}:=id p2;simp only at k2 f;subst k2 f;have hsz:its.toArray.size+a.toArray.size<=sizeLine:=(by rw[aK,aK];lia);have w:¬(!its.toArray.isEmpty&&iF (its.toArray.size+a.toArray.size))=MT:=by
  rw[Cu hsz,tJ];show aY
 show kK F.slot_list_extend {_,e,rfl} F.entry_list_extend (F.args_list_extend_2 _ _) (aey l b its.toArray a.toArray n n2 m l2 w (by rw[aK];lia) ()) {e,p,?_};show{.non,_,I.lset (its':=its++a) c e ∅ (r.append d) ?_,rfl,q};rw[aH];lia
end
def afa {K:aE}{o:Obj}{its:BW}(l:K.lookup a=KE o)(c:o.cls=.type "tuple")(d:o.data=.seq its n)(z:its.size<=sizeLine)(r:Vals xs its.toList):SqT K H a xs:=
 .inr #v[o,its,n,l,c,d,z,r]
open Sem (wp)
open Sem (wp)
open AutoSeq1 (wpAny_loadPart')
def cs_of (L:List (Str×rV))(clos:vU sc X.e=pure cl)(kind:sc.kind=.function)(nocell:∀y∈sc.names,y.2≠.cell)(locs:∀y∈sc.names,y.2=.local->sc.names.lookup y.1=KE .local)
  (sub:∀p∈cl,X.e.cells.lookup p.1=KE p.2) (eL:(nQ sc X.e).names=L) (hL:∀p∈L,p.2=.cell\/p.2=.free->∃c,cl.lookup p.1=KE c) (len:fr.length=ys.length)
  (outs:∀(j:Nat)(y:Str),ys[j]?=KE y->∃i:Nat,fr[j]?=KE i/\X.N[i]?=KE y/\(X.e.kindOf y=KE .cell\/X.e.kindOf y=KE .free)/\((nQ sc X.e).names.lookup y=KE .cell\/(nQ sc X.e).names.lookup y=KE .free)):qd X ns ys fr sc cl where
 clos:=clos
 kind:=kind
 nocell:=nocell
 locs:=locs
 sub:=sub
 has:=λy h=>by
  rw[eL]at h;rcases h with h | h;{show hL _ (gi h) (.inl rfl)};{show hL _ (gi h) (.inr rfl)}
 len:=len
 outs:=outs
section
variable {X:Cx}
def rBits:V->EX->Hp->VK->Prop:=λx vs H Q=>∃i,x=.int i/\vs=[]/\Q (.int (lF i:Nat)) H
def afb:MtM X "int.bit_length" rBits:=by
 intro d s e H x vs v us Q I a b h;obtain⟨i,rfl,rfl,q⟩:_:=h;obtain⟨t,rfl⟩:_:=a;have c:=b.zero;subst c;show call_gives PySem.F.slot_int_bit_length (rO s i t) PySem.F.entry_int_bit_length (PySem.F.args_int_bit_length_1 _) (AutoIntG2.int_bit_length_int_0 i t) {.int _,H,I.tok _,{_,rfl},q}
def Zy (k:Nat):lF ((2:Int) ^ k)=k+1:=by
 have e:((2:Int) ^ k)=((2 ^ k:Nat):Int):=∅;unfold lF;rw[e,M' (by have:=qA k;simp;lia)];rw[Int.natAbs_natCast,Nat.log2_two_pow]
end
def Itv (K:aE)(a:MV)(n:Nat):It:=
 {λi H=>∃xs x,SqL K H a xs/\xs.length=n/\i<n/\xs[n-1-i]?=KE x,λi H x H'=>H'=H/\∀xs,SqL K H a xs->xs[n-1-i]?=KE x,λi _=>n<=i}
def Zz {P:aQ}{w:bC}{K:aE}{tg:MX}(a it:MV)(n:Nat):zw P w K tg (Itv K a n) [it] it (λi h=>i<=n/\h.IsRevIter it a ((n:Int)-1-(i:Int))) where
 mem:=by simp
 obj:=λi h st b hb=>by
  have e:b=it:=(⇑hb);subst e;let{_,o,e,c,d}:=st;show{o,e,λv z=>by rw[d]at z;cases z}
 keep:=λi h h' st k=>{st.1,st.2.at λo e=>k it ∅ o e}
 item:=by
  intro X hP hw hK hc i j' s σ H E I hf st hg;subst hP hw hK;let{xs,x,hq,hl,hi,hx}:=hg;let{its,rv,p,hz}:=I.list hq;let{u,hu,ru}:=rv.get hx;let{f0,f1,f2,f3,f4,f5}:=hf it ∅;have e:(n:Int)-1-(i:Int)=((n-1-i:Nat):Int):=();have BG:=st.2;rw[e]at BG;show wpAny_pyNext_rev_item BG p.isList (x:=u) (⇑hu) λh' AH sb=>?_;have e2:((n-1-i:Nat):Int)-1=(n:Int)-1-((i+1:Nat):Int):=();rw[e2]at AH;have I1:Inv X j' σ H {s with heap:=h'}:=I.turned (t':=s.toks) (λb o hb e=>(sb.2 b hb).trans e) f0 f1 f3 f4 f5;let{o,e,c,d}:=id AH;show⟨u,rfl,Ef (s:={s with heap:=h'}) e c d #v[] {x,H,I1,ru,{rfl,λys hy=>by rw[I.list_inj hy hq];show hx},#v[hi,AH],λb hb=>(hf b hb).1}⟩
 done:=by
  intro X hP hw hK hc i j' s σ H E I hf st hg;subst hP hw hK;have hg':n<=i:=hg;let{f0,f1,f2,f3,f4,f5}:=hf it ∅;have e:(n:Int)-1-(i:Int)=-1:=(by have:=st.1;lia);have BG:=st.2;rw[e]at BG;show wpAny_pyNext_rev_end (I.ok.hd hc) BG λh' eb=>{rfl,I.turned (t':=s.toks) (λb o hb e=>eb b o hb e) f0 f1 f3 f4 f5}
 self:=λ_ _ _ _ _ st h=>wpAny_pyIter_revIter st.2 h
section
variable {X:Cx}
def iRev (K:aE)(c:TA):TI:=λd H R=>c d H λvs b=>∃a xs,vs=[.ref a]/\SqL K b a xs/\R (Itv K a xs.length) b
def ajg {l d:MX}{g:TA}{p pos:Pos}(m:Gl X "reversed")(n:X.mg "reversed"=MS)(r:PA X [d] g)(w:↥(aO [d] X.e=[(MU,eval d X.e)]))
  (i:↥(aO [] X.e=[])):PI X l (.Call (.Name "reversed" p) [d] [] pos) (iRev X.K g):=by
 intro x s y H R I h;show Call_ (ny I m n (by kernel_rfl:fR (eA "reversed")=KE (.type "reversed")) (fP (thn (r pos x s y H _ I h) λus c ⟨vs,z,f,A,C⟩=>?_) (by rw[w,i]) (by rw[i];rfl)));let{a,xs,e,D,q}:=C;subst e;let{u,rfl,E}:=jf A;cases(show u=aZ a from E);let{its,k1,G,_}:=f.list D;have l1:=k1.length;show call_reversed_list (G.isList) ?_;have e:((its.toArray.size:Nat):Int)-1=((xs.length:Nat):Int)-1-((0:Nat):Int):=(by simp;lia);rw[e];have j:(c.heap.push (revObj a (((xs.length:Nat):Int)-1-((0:Nat):Int)))).IsRevIter ‹c› a (((xs.length:Nat):Int)-1-((0:Nat):Int)):={_,bK _ rfl,rfl,rfl};show wpAny_pyIter_revIter j ?_;show{‹c›,[‹c›],_,_,z,rfl,f.kept (t':=c.toks) λb o e=>aF _ e,Zz a _ xs.length,{eQ _,j},λb J=>?_,q};have e:b=‹c›:=(⇑J);subst e;show f.fpOk (aI _) (f.hok.fresh (aI _))
end
section
variable {X:Cx}{j':CW}{σ:St}{H:Hp}{s:aG}
theorem Em:∀{x its},Vals (x.map V.int) its->PySem.ItemsAre (gL prog w) x its
 | [],_,r=>by cases r;show .nil
 |n::x,_,r=>by
  cases r with
  |cons h t=>
   let{a,rfl}:=(show ∃t,_=nU n t from h);show .cons (by change fV n (nU n a)=MT;simp[fV]) (Em t)
def Inv.key (I:Inv X j' σ H s)(prog:aQ)(w:bC)(h:SqT X.K H a (x.map V.int)):nD (gL prog w) s.heap x a:=by
 let{its,r,p,_}:=I.tuple h;let{o,b,c,n,d}:=p;show{o,its.toArray,n,b,c,d,by simpa using Em r}
def Inv.eqT (I:Inv X j' σ H s){A:bU}(c:A.units<dB){x y:LQ}(d:SqT X.K H a (x.map V.int))(e:SqT X.K H b (y.map V.int)):tX A s (.ref a) (.ref b) (decide (x=y)):=
 λprog w _ _ f=>wpAny_eqBool_tuple c (I.key prog w d) (I.key prog w e) f
def Inv.tup_inj (I:Inv X j' σ H s){x y:LQ}(b:SqT X.K H a (x.map V.int))(c:SqT X.K H a (y.map V.int)):x=y:=
 (I.key X.p X.w b).inj (I.key X.p X.w c)
def afc (K:aE):V->EX->Hp->VK->Prop:=λx vs H Q=>∃(a b:MV)(xs:EX) (ls:LJ) (l:LQ),x=.ref a/\vs=[.ref b]/\SqL K H a xs/\Paired (λy m=>∃c,y=.ref c/\SqT K H c (m.map V.int)) xs ls/\
 SqT K H b (l.map V.int)/\l∈ls/\Q (.int (ls.idxOf l:Nat)) H
def z8 {xs:List a}{ys:List c}(h:Paired F xs ys){i:Nat}{x:a}(e:xs[i]?=KE x):∃y,ys[i]?=KE y/\F x y:=by
 induction h generalizing i with
 |nil=>simp at e
 |cons h _ b=>
  cases i with
  |zero=>simp at e;subst e;show{_,rfl,h}
  |succ i=>simpa using b (⇑e)
theorem La [BEq b][LawfulBEq b]:∀{ls:List b}{m:Nat},m<ls.idxOf l->∀(a:m<ls.length),ls[m]≠l
 | [],m,h,a=>NC a (nS _)
 |x::xs,m,h,a=>by
  rw[List.idxOf_cons]at h;by_cases e:x==l;{rw[e]at h;show NC h (nS _)}
  ·have c:(x==l)=MU:=(⇑e);rw[c]at h;cases m with
   |zero=>simpa using e
   |succ m=>show La (ls:=xs) (m:=m) (⇑h) (⇑a)
open Classical in
def Z0 (hu:X.A.units+8<dB):MtM X "list.index" (afc X.K):=by
 intro j' s σ H x vs v us Q I Y rv h;let{a,b,xs,ls,l,rfl,rfl,hx,C,hb,d,q}:=h;cases Y;let{u,rfl,ru}:=jf rv;cases(show u=aZ b from ru);let{its,r,p,hz}:=I.list hx;let{{cls,dd,data,sl},D,E,n,hd}:=p.isList;simp only at E hd;subst E hd;have xE:xs.length=ls.length:=Paired.length C;have KU:=r.length;have hj:ls.idxOf l<ls.length:=cM.mpr d
 let e:aL->Bool:=λy=>decide (∃c,y=.ref c/\SqT X.K H c (l.map V.int))
 have key:∀(m:Nat)(d:m<its.length) (G:m<ls.length),(∃c,its[m]=.ref c/\SqT X.K H c (ls[m].map V.int))/\e its[m]=decide (ls[m]=l):=λm d G=>by
  have J:xs[m]?=KE (xs[m]'()):=aB ();let{y,L,c,i,f}:=z8 C J;let{w,N,O}:=r.get J;rw[aB G]at L;rw[aB d]at N;cases L;have j:its[m]=w:=bX N;rw[i]at O;have T:its[m]=.ref c:=j.trans O;show{#v[c,T,f],?_};change decide (∃z,its[m]=.ref z/\SqT X.K H z (l.map V.int))=decide (ls[m]=l);rw[decide_eq_decide,T];constructor;{intro wC;let{z,g,s1}:=wC;cases g;show I.tup_inj f s1};{intro g;show{c,rfl,by rw[<-g];show f}}
 have U:=n8;show kK lK {_,D,rfl} PySem.F.entry_list_index (PySem.F.args_list_index_2 _ _)
  (SeqAt.list_indexAt a its.toArray n dd sl (.ref b) e (ls.idxOf l) (by simp;lia) () ?_ ?_) {D,λy hy=>?_,{.int _,H,I.tok _,{_,rfl},q}}
 {rw[kL,(key _ () hj).2];simp[gE]};{intro m IZ CA;rw[kL,(key m (⇑IZ) ()).2];rw[decide_eq_false_iff_not];show λg=>La CA () g};{let{m,d,rfl}:=Array.mem_iff_getElem.mp hy;have HW:m<its.length:=(⇑d);let{{c,i,f},ee}:=key m HW ();rw[kL,ee,i];show I.eqT ?_ f hb;change X.A.units+1<dB;lia}
end
structure Z3 (K:aE)(C:MV)(m:Str)(f:MV):Prop where
 ga:jM K (.ref C) "__getattribute__"=KE (KE (.builtin "type.__getattribute__"))
 rd:lX K C (.type "type")=MT
 fc:lY K (.ref C) (.type "type") m=KE (.val (.ref f))
 kp:dH K (.ref f)=MT
section
variable {X:Cx}{CX:CXT}{k:Nat}{f C:MV}{fd:gG}{ps:AZ}{sp:Sp}{AG:EX}{ds:AW}{E:XK}{x m:Str}{p pos ap:Pos}{a:MX}{es:CY}{t:TA}
def Z4 (c:Z3 X.K C m f)(F:fq X.p X.w X.K X.mg X.base CX k f fd ps sp)(e:Room k X.A)(g:Gl X x)(i:X.mg x=KE (.ref C))(j:Binds X.K fd ps ds)(hd:Vals AG ds)(l:oa CX X E)(n:PA X (a::es) t)
  (u:↑((x==("__debug__":Str))=MU)) (y:↥(aO (a::es) X.e=(MU,eval a X.e)::aO es X.e)) (z:↥((eE pos (aO es X.e)).any (·.1)=MU))
  (D:eval (.Call (.Attribute (.Name x p) m ap) (a::es) [] pos) X.e=(do
    let b <-eval (.Name x p) X.e
    mL ap.atName
    let (f,first) <-jF [b] (mW b m pl)
    qO pos f first (eE pos (aO (a::es) X.e)) (mG pos (jH [] X.e))):=by rfl) :
  PE X (.Call (.Attribute (.Name x p) m ap) (a::es) [] pos) (Sw sp AG E t):=by
 intro G s J H Q I h;show mO (pl:=pl) (mj I g i ?_ u) D;show PySem.W.method_cls I.kIn c.ga (PySem.W.cls_value I.kIn c.rd c.fc rfl ?_);show jX (h₀:=X.base) I.ok.mod.kin c.kp (thn (n pos G _ J H _ (I.tok (s.toks+1)) h) λus N L=>?_) y z;let{vs,O,d,r,q}:=L;show{d.kIn,?_};show zy F e j hd l d r q
end
end L2
namespace PySem
namespace Deep
abbrev I2:=Sum Int LQ
section
variable (prog:aQ)(w:bC)
abbrev _root_.D1:=List (List I2)
abbrev _root_.DW:=List I2
def yd (h:MW):I2->aL->Prop
 | .inl i,v=>(gL prog w).is i v=MT
 | .inr l,v=>∃b,v=.ref b/\nD (gL prog w) h l b
def oz:I2->Int
 | .inl i=>(gL prog w).hash i
 | .inr l=>tupleKeyHash (gL prog w) l
def z9:I2->Nat
 | .inl _=>1
 | .inr l=>l.length+1
def ItemsR (h:MW):DW->AW->Prop
 | [],[]=>True
 |k::ks,v::vs=>yd prog w h k v/\ItemsR h ks vs
 |_,_=>False
def IsDeep (h:MW)(ks:DW)(a:MV):Prop:=∃o its n,h.get? a=KE o/\o.cls=.type "tuple"/\o.data=.seq its n/\ItemsR prog w h ks its.toList
def d8 (ks:DW):Int:=tY (fG (ks.map (oz prog w)))
def yr:DW->Nat
 | []=>0
 |k::ks=>z9 k+yr ks
end
def V6 (ks:DW)(k:I2):yr (ks++[k])=yr ks+z9 k:=by
 induction ks with
 |nil=>simp[yr]
 |cons x xs a=>rw[kY,yr,yr,a,rF]
section
variable {prog:aQ}{w:bC}{A:bU}{E:aL->aG->Prop}{s:aG}
def Z5 (a:yd prog w h x v)(d:yd prog w h y v):x=y:=by
 cases x with
 |inl i=>cases y with
  |inl j=>rw[(gL prog w).inj _ _ _ a d]
  |inr l=>
   obtain⟨b,rfl,_⟩:_:=d;show NC a (by change ¬fV i (.ref b)=MT;simp[fV])
 |inr l=>cases y with
  |inl j=>
   obtain⟨b,rfl,_⟩:_:=a;show NC d (by change ¬fV j (.ref b)=MT;simp[fV])
  |inr m=>
   obtain⟨b,rfl,k1⟩:_:=a;obtain⟨c,e,k2⟩:_:=d;cases e;rw[k1.inj k2]
theorem ItemsR.inj:∀{vs x y},ItemsR prog w h x vs->ItemsR prog w h y vs->x=y
 | [],[],[],_,_=>rfl
 | [],[],_::_,_,q=>q.elim
 | [],_::_,_,q,_=>q.elim
 |_::_,[],_,q,_=>q.elim
 |_::_,_::_,[],_,q=>q.elim
 |_::vs,_::xs,_::ys,a,b=>by rw[Z5 a.1 b.1,ItemsR.inj (vs:=vs) a.2 b.2]
theorem ItemsR.length:∀{vs x},ItemsR prog w h x vs->x.length=vs.length
 | [],[],_=>rfl
 | [],_::_,q=>q.elim
 |_::_,[],q=>q.elim
 |_::vs,_::xs,a=>by rw[aS,aS,ItemsR.length (vs:=vs) a.2]
theorem ItemsR.imp (f:∀l b,nD (gL prog w) h l b->nD (gL prog w) h' l b):∀{vs x},ItemsR prog w h x vs->ItemsR prog w h' x vs
 | [],[],_=>trivial
 | [],_::_,q=>q.elim
 |_::_,[],q=>q.elim
 |_::vs,k::xs,a=>⟨by
     cases k with
     |inl i=>show a.1
     |inr l=>obtain⟨b,e,k1⟩:_:=a.1;show{b,e,f _ _ k1},ItemsR.imp f (vs:=vs) a.2⟩
def IsDeep.typeIs (x:IsDeep prog w s.heap ks a):s.TypeIs (.ref a) "tuple":=by
 obtain⟨o,_,_,e,c,_⟩:_:=x;show#v[o,e,c]
theorem IsDeep.inj (d:IsDeep prog w h x a)(e:IsDeep prog w h y a):x=y:=by
 obtain⟨o,l,n1,f,_,g,i⟩:_:=d;obtain⟨m,n,n2,b,_,c,j⟩:_:=e;rw[f]at b;cases b;rw[g]at c;cases c;show i.inj j
theorem IsDeep.keeps (x:IsDeep prog w h ks a)(f:h.get? d=KE o)(hd:o.data=.dict m p)(g:fK d h h'):IsDeep prog w h' ks a:=by
 obtain⟨i,its,n,c,j,e,r⟩:_:=x;have ne:a≠d:=λz=>by
  subst z;rw[f]at c;cases c;rw[hd]at e;cases e
 show{i,its,n,(g.2 a ne).trans c,j,e,r.imp λl b k=>k.keeps f hd g}
def V7 (h:(gL prog w).is i v=MT):∃t,v=.int i t:=Value.isInt_shape (k:=i) (v:=v) h
def V8 (k:nD (gL prog w) h l b):∃its,h.IsTuple b its:=by
 obtain⟨o,its,n,e,c,d,_⟩:_:=k;show#v[its,o,e,c,n,d]
def V9 (a:A.units<dB)(hk:yd prog w s.heap k v)(h:Q (oz prog w k) {s with toks:=s.toks+z9 k}):aJ (aT prog w) A (pyHash v) Q E s:=by
 cases k with
 |inl i=>show(gL prog w).pyHash hk h
 |inr l=>
  obtain⟨b,rfl,k1⟩:_:=hk;show wpAny_pyHash_tuple a k1 h
def P1 (f:A.units+1<dB)(a:yd prog w s.heap x u)(d:yd prog w s.heap y v)(h:Q (decide (x=y)) s):aJ (aT prog w) A (eqBool u v) Q E s:=by
 cases x with
 |inl i=>cases y with
  |inl j=>
   show(gL prog w).eqBool a d ?_;have e:decide ((Sum.inl i:I2)=Sum.inl j)=decide (i=j):=(by rw[decide_eq_decide];show{λz=>Sum.inl.inj z,λz=>by rw[z]});rw[<-e];show h
  |inr l=>
   obtain⟨b,rfl,k1⟩:_:=d;obtain⟨t,rfl⟩:_:=V7 a;have e:decide ((Sum.inl i:I2)=Sum.inr l)=MU:=NA (λz=>nomatch z);rw[e]at h;obtain⟨its,k2⟩:_:=V8 k1;show SeqAt.EqAt.int_tuple i t k2 (rN f) prog w E Q h
 |inr l=>cases y with
  |inl j=>
   obtain⟨b,rfl,k1⟩:_:=a;obtain⟨t,rfl⟩:_:=V7 d;have e:decide ((Sum.inr l:I2)=Sum.inl j)=MU:=NA (λz=>nomatch z);rw[e]at h;obtain⟨its,k2⟩:_:=V8 k1;show SeqAt.EqAt.tuple_int j t k2 (rN f) prog w E Q h
  |inr m=>
   obtain⟨b,rfl,k1⟩:_:=a;obtain⟨c,rfl,k2⟩:_:=d;show wpAny_eqBool_tuple (rN f) k1 k2 ?_;have e:decide ((Sum.inr l:I2)=Sum.inr m)=decide (l=m):=(by rw[decide_eq_decide];show{λz=>Sum.inr.inj z,λz=>by rw[z]});rw[<-e];show h
def Wa (l:A.units+2<dB)(hk:IsDeep prog w s.heap ks a)(h:Q (d8 prog w ks) {s with toks:=s.toks+(yr ks+1)}):aJ (aT prog w) A (pyHash (.ref a)) Q E s:=by
 have ty:=hk.typeIs;let{o,its,n,g,_,i,j}:=hk;unfold pyHash
 first | unfold pyHashByItsType | skip
 first | show aA (wpAny_cRoomFor_or (.inr ()) ?_) | skip
 show aA (lZ ty F.slot_tuple_hash.lookup ?_);change aJ _ _ (if (KE (fQ "tuple.__hash__")==KE fO)=MT then _ else _) Q E s
 rw[M' (by rw[beq_builtin_none];show aY)];show aA (lZ ty F.slot_tuple_hash.lookup ?_);change aJ _ _ (callSpecialIfBoundUnlessNone? (.ref a) "__hash__" _ >>= _) Q E s;show aA (wpAny_callSpecialIfBoundUnlessNone?_slot ty F.slot_tuple_hash (fN F.slot_tuple_hash ty F.entry_tuple_hash ?_ (F.args_tuple_hash_1 _)));change aJ _ _ (kG (.ref a) >>= _) _ _ s;show aA (rA g i ?_);show aA ?_;rw[<-nZ];show jS _ (λrest b s'=>∃pre left,ks=pre++left/\ItemsR prog w s.heap left rest/\b.toList=pre.map (oz prog w)/\s'={s with toks:=s.toks+yr pre}) _ ?_ ?_ _ _ {[],ks,rfl,j,rfl,rfl}
 ·intro x rest b s' e;let{pre,left,rfl,d,f,rfl}:=e;cases left with
  |nil=>show d.elim
  |cons k left=>
   show aA (V9 (by change A.units+1<dB;lia) d.1 ?_);show WQ {pre++[k],left,by simp,d.2,by simp[f],by rw[V6,rF]}
 ·intro b s' e;let{pre,left,rfl,d,f,rfl}:=e;cases left with
  |cons k left=>show d.elim
  |nil=>
   rw[bP]at h;change aJ _ _ (retInt (fG b.toList)) _ _ _;rw[f];show wpAny_ret_mkInt ?_;change aJ _ _ (if (decide (-(2:Int) ^ 63<=fG (pre.map (oz prog w)))&&decide (fG (pre.map (oz prog w))<2 ^ 63))=MT then _ else _) Q E _
   unfold d8 tY at h;by_cases c:(decide (-(2:Int) ^ 63<=fG (pre.map (oz prog w)))&&decide (fG (pre.map (oz prog w))<2 ^ 63))=MT;{rw[MZ c]at h ⊢;show WQ (by simpa[rF]using h)};{rw[M' c]at h ⊢;show aA (nA (WQ (by simpa[rF]using h)))}
def Be (H:A.units+1<dB)(I:IsDeep prog w s.heap x a)(G:IsDeep prog w s.heap y b)(h:P (.done (.ret (.bool (decide (x=y))))) s) :
  aJ (aT prog w) A (fW.«tuple.__eq__» {[.ref a,.ref b],[]}) P E s:=by
 have ty:=G.typeIs;obtain⟨Y,m,n1,J,_,L,N⟩:_:=I;obtain⟨o2,n,n2,O,_,Q,T⟩:_:=G;change aJ _ _ (qB (.ref b) (.type "tuple") >>= _) _ _ s;show aA (kZ ty pK ?_);simp only[lR,fU,if_false];show aA (rA J L ?_);show aA (rA O Q ?_);show aA ?_;show jS _ (λrest r s'=>r.1=MS/\s'=s/\∃g f e d,rest=List.zip e d/\ItemsR prog w s.heap g e/\ItemsR prog w s.heap f d/\(g=f↔x=y)/\(e.length=d.length↔m.size=n.size)) _ ?_ ?_ _ _
  {rfl,rfl,x,y,m.toList,n.toList,rfl,N,T,kS,by simp}
 ·rintro⟨p,q⟩ rest r s' ⟨C,rfl,g,f,e,d,hz,i,j,hd,l⟩;cases e with
  |nil=>simp at hz
  |cons u e=>
   cases d with
   |nil=>simp at hz
   |cons v d=>
    simp only[nX,List.cons.injEq,Prod.mk.injEq]at hz;obtain⟨⟨rfl,rfl⟩,rfl⟩:_:=hz;cases g with
    |nil=>show i.elim
    |cons k1 g=>
     cases f with
     |nil=>show j.elim
     |cons k2 f=>
      show aA (P1 H i.1 j.1 ?_);by_cases c:k1=k2;{subst c;rw[NB rfl];simp only[lR,fU,if_false];show WQ {rfl,rfl,g,f,e,d,rfl,i.2,j.2,by rw[<-hd];simp,by rw[<-l];simp}};{rw[NA c];simp only[Bool.not_false,if_true];have U:decide (x=y)=MU:=NA λz=>c (nJ (hd.mpr z)).1;rw[U]at h;show aA (WQ (WQ (WQ h)))}
 ·rintro⟨c1,c2⟩ s' ⟨C,rfl,g,f,e,d,hz,i,j,hd,l⟩;simp only at C;subst C;show WQ ?_;have fin:(m.size==n.size)=decide (x=y):=by
   have l1:=i.length;have l2:=j.length;cases e with
   |nil=>
    have ex:g=[]:=jP.mp l1;subst ex;cases d with
    |nil=>
     have D:f=[]:=jP.mp l2;subst D;rw[NB (hd.mp rfl),beq_iff_eq];show l.mp rfl
    |cons v d=>
     have ne:¬x=y:=λz=>(by rw[<-hd.mpr z]at l2;simp at l2);rw[NA ne,beq_eq_false_iff_ne];intro z;have:=l.mpr z;simp at this
   |cons u e=>
    cases d with
    |nil=>
     have D:f=[]:=jP.mp l2;subst D;have ne:¬x=y:=λz=>(by rw[hd.mpr z]at l1;simp at l1);rw[NA ne,beq_eq_false_iff_ne];intro z;have:=l.mpr z;simp at this
    |cons v d=>simp at hz
  change P (.done (.ret (.bool (m.size==n.size)))) s';rw[fin];show h
def afd (g:A.units+2<dB)(d:IsDeep prog w s.heap x a)(f:IsDeep prog w s.heap y b)(h:Q (decide (x=y)) s):aJ (aT prog w) A (eqBool (.ref a) (.ref b)) Q E s:=by
 unfold eqBool
 try with_reducible show gK ?_
 change aJ _ _ (if (aZ a==aZ b)=MT then _ else _) Q E s
 by_cases c:(aZ a==aZ b)=MT;{rw[MZ c];have e:a=b:=(by have:=eq_of_beq c;injection this);subst e;rw[d.inj f]at h;show aA (nA (WQ (⇑h)))};{rw[M' c];show aA (wpAny_richCompare_same_room (op:=.Eq) d.typeIs f.typeIs F.slot_tuple_eq (fN F.slot_tuple_eq d.typeIs F.entry_tuple_eq ?_ (F.args_tuple_eq_2 _ _)) ());show Be (by change A.units+1+1<dB;omega) d f {_,rfl,(λe=>nomatch e),iV h}}
def Wb (hk:nD (gL prog w) s.heap l b)(h:Q MT s):aJ (aT prog w) A (sS (n+1) (.ref b)) Q E s:=by
 have ty:=hk.typeIs;obtain⟨o,its,m,c,_,d,e⟩:_:=hk;unfold sS;show aA (lZ ty F.slot_tuple_eq.lookup ?_);change aJ _ _ (qB (.ref b) (.type "tuple") >>= _) _ _ s;show aA (kZ ty pK ?_);simp only[lR,fU,if_false];show aA (gN c d (aA ?_));change aJ _ _ (forIn its _ _) _ _ s;rw[<-nZ];show jS _ (λrest r s'=>r.1=MS/\s'=s/\∀v∈rest,carriedByValue v=MT) _ ?_ ?_ _ _ #v[rfl,rfl,e.byValue];{rintro v rest r s' ⟨a,rfl,all⟩;rw[eqIsQuiet_byValue _ (all v aR)];show aA (WQ ?_);simp only[lR,fU,if_false];show WQ {rfl,rfl,λu q=>all u (aP _ q)}};{rintro⟨f,g⟩ s' ⟨a,rfl,_⟩;simp only at a;subst a;show WQ h}
def S5 (hk:IsDeep prog w s.heap ks a)(h:Q MT s):aJ (aT prog w) A (sS 8 (.ref a)) Q E s:=by
 have ty:=hk.typeIs;obtain⟨o,its,m,e,_,f,g⟩:_:=hk;unfold sS;show aA (lZ ty F.slot_tuple_eq.lookup ?_);change aJ _ _ (qB (.ref a) (.type "tuple") >>= _) _ _ s;show aA (kZ ty pK ?_);simp only[lR,fU,if_false];show aA (gN e f (aA ?_));change aJ _ _ (forIn its _ _) _ _ s;rw[<-nZ];show jS _ (λrest r s'=>r.1=MS/\s'=s/\∃left,ItemsR prog w s.heap left rest) _ ?_ ?_ _ _ #v[rfl,rfl,ks,g]
 ·rintro v rest r s' ⟨d,rfl,left,c⟩;cases left with
  |nil=>show c.elim
  |cons k left=>
   have go:∀{R},R MT s'->aJ (aT prog w) A (sS 7 v) R E s':=λ{R} q=>by
    cases k with
    |inl i=>
     rw[eqIsQuiet_byValue _ ((gL prog w).byValue _ _ c.1)];show WQ q
    |inr l=>
     obtain⟨b,rfl,k1⟩:_:=c.1;show Wb k1 q
   show aA (go ?_);simp only[lR,fU,if_false];show WQ #v[rfl,rfl,left,c.2]
 ·rintro⟨j,n⟩ s' ⟨d,rfl,_⟩;simp only at d;subst d;show WQ h
end
def cf (prog:aQ)(w:bC):HeapKind prog w DW where
 is:=IsDeep prog w
 hash:=d8 prog w
 draws:=λks=>yr ks+1
 room:=λA=>A.units+2<dB
 inj:=λhx hy=>hx.inj hy
 keeps:=λx ho hd hs=>x.keeps ho hd hs
 pyHash:=λhu hk h=>Wa hu hk h
 eqBool:=λhu hx hy h=>afd hu hx hy h
 quiet:=λhk h=>S5 hk h
end Deep
namespace Deep
def afe:gH (.type "list") "keys"=pure MS:=by rw[typeLookup_type,builtinLookup_eq_fast];kernel_rfl
section
variable {prog:aQ}{w:bC}{A:bU}{E:aL->aG->Prop}{s:aG}
def Lb (f:s.heap.get? a=KE o)(i:o.cls=.type "list")(j:o.data=.seq xs k)(hd:o.dict=MS)(hA:A.handled=MS)
  (h:∀h' l,(∀b q,s.heap.get? b=KE q->h'.get? b=KE q)->Q MS {s with heap:=h',toks:=l}):aJ (aT prog w) A (vL (.ref a) "keys") Q E s:=by
 let{c,dct,r,u}:=o;simp only at i j hd;subst i j hd;let{x,g,d,l,os}:=s;have m:∀n,(⟨x,g,d,n,os⟩:aG).TypeIs (.ref a) "list":=λ_=>{_,f,rfl};have y:=sub_AttributeError;have z:=F.slot_list_getattribute.lookup;have C:=F.slot_list_getattribute.bind (.ref a);have D:=am_list_getattr_none;unfold vL getAttrBy? getAttrBy
 repeat (any_goals (first | assumption | show m _ | ((with_reducible change aJ _ _ (call (fQ "list.__getattribute__") _ _) _ _ _);show kK F.slot_list_getattribute (m _) am_entry_list_getattribute (F.args_list_getattribute_2 _ _) (meets_getattribute_miss_list a xs k u "keys" _ afe ⋯ ⋯) {f,hA,λh' n e p=>?_}) | wp_step))
 let{t',G,H}:=p.there;change aJ _ _ (getattributeRaised _ _ _ _ _ _ _) _ _ _;unfold getattributeRaised
 repeat (any_goals (first | assumption | wp_step))
 show h _ _ p.of.keeps
def En:entryFor table "dict.update.loop"=KE fW.«dict.update.loop»:=entryFor_of_tree (by kernel_rfl)
def uq:plainId "dict.update.loop"=MT:=by decide +kernel
def IsDeep.mono (f:∀b q,h.get? b=KE q->q.cls=.type "tuple"->h'.get? b=KE q)(x:IsDeep prog w h ks a):IsDeep prog w h' ks a:=by
 let{o,its,n,e,c,d,r}:=x;show{o,its,n,f _ _ e c,c,d,r.imp λl b k=>?_};let{i,j,n2,m,g,p,u}:=k;show{i,j,n2,f _ _ m g,g,p,u}
def Lc (prog:aQ)(w:bC)(h:MW)(v:aL)(e:DW×MV×aL):Prop:=∃p o n,v=.ref p/\h.get? p=KE o/\o.cls=.type "tuple"/\o.data=.seq #[.ref e.2.1,e.2.2] n/\IsDeep prog w h e.1 e.2.1
def qe (xs ks:List (DW×MV×aL)):List (DW×MV×aL):=ks.foldl (λa e=>oM a e.1 e.2.1 e.2.2) xs
def Of (xs:List (DW×MV×aL))(k:DW)(a:MV)(v:aL):(oM xs k a v).length<=xs.length+1:=by
 unfold oM
 split;{rw[aC];lia};{rw[aH];show aI _}
theorem Eo:∀ks xs,(qe xs ks).length<=xs.length+ks.length
 | [],xs=>aI _
 |e::ks,xs=>by
  have a:=Eo ks (oM xs e.1 e.2.1 e.2.2);have b:=Of xs e.1 e.2.1 e.2.2;change(qe (oM xs e.1 e.2.1 e.2.2) ks).length<=_;rw[aS];lia
def aff {xs:List a}{ys:List c}(h:Paired F xs ys){i:Nat}{x:a}(e:xs[i]?=KE x):∃y,ys[i]?=KE y/\F x y:=by
 induction h generalizing i with
 |nil=>simp at e
 |cons h _ b=>
  cases i with
  |zero=>simp at e;subst e;show{_,rfl,h}
  |succ i=>simpa using b (⇑e)
def S6 (hh:A.handled=MS)(hu:A.units+8<dB)(hl:h0.IsList l items)(ld:l≠d)(li:l≠it)(J:d≠it)(CP:∃o j m,h0.get? d=KE o/\o.cls=.type "dict"/\o.data=.dict j m)
  (DD:∃o,h0.get? it=KE o/\o.cls=.type "list_iterator") (hp:Paired (Lc prog w h0) items.toList ks) (hz:ks.length<=sizeLine) :
  ∀(n i:Nat)(s:aG),ks.length-i=n->i<=ks.length->(∀b q,b≠d->b≠it->h0.get? b=KE q->s.heap.get? b=KE q)->s.heap.IsListIter it l i->s.heap.DictOfH (cf prog w) d (qe [] (ks.take i))->
   (∀h' L,(∀b q,b≠d->b≠it->s.heap.get? b=KE q->h'.get? b=KE q)->h'.DictOfH (cf prog w) d (qe [] ks)->R (.ok (.ret .none)) {s with heap:=h',toks:=L})->
   kQ (aT prog w) A (.builtin "dict.update.loop" {[.ref d,.ref it,jC i,.none],[]}) R s:=by
 have xE:items.toList.length=ks.length:=Paired.length hp;have BX:∀{b:MV}{q:Obj},h0.get? b=KE q->q.cls=.type "tuple"->b≠d/\b≠it:=λ{b q} e c=>by
  let{o,_,_,u,c1,_}:=CP;let{o2,y,c2}:=DD;show{λz=>?_,λz=>?_};{subst z;rw[u]at e;cases e;rw[c1]at c;injection c with c;show NC c #v[]};{subst z;rw[y]at e;cases e;rw[c2]at c;injection c with c;show NC c #v[]}
 intro n
 induction n with
 |zero=>
  intro i s hn hi keep C dd N;have a:i=ks.length:=();subst a;rw[cW]at dd;have O:s.heap.IsList l items:=by
   let{o,e,r}:=hl;show{o,keep _ _ ld li e,r}
  show sU En ?_;rw[Around.under_plainId uq _];change aJ _ A.in1 (nG (.ref it) >>= _) _ _ s;show aA (wpAny_pyNext_list_end hh C O (by rw[<-xE];simp) λh' Q=>?_);change aJ _ A.in1 (Builtin.Dict.addKeywords d [] >>= _) _ _ _;show aA (WQ (WQ (N h' s.toks (λb q _ hb e=>Q b q hb e) ?_)));let{o,j,m,u,y,T,U,Y,e6}:=dd;show{o,j,m,Q _ _ J u,y,T,U,λx g=>?_,e6};show IsDeep.mono (λb q e c=>Q b q (λz=>?_) e) (Y x g);let{oi,a,ci,_}:=C;subst z;rw[a]at e;cases e;rw[ci]at c;injection c with c;show NC c #v[]
 |succ n ih=>
  intro i s hn hi keep C dd N;have CA:i<ks.length:=();have O:s.heap.IsList l items:=by
   let{o,e,r}:=hl;show{o,keep _ _ ld li e,r}
  have g:items.toList[i]?=KE (items.toList[i]'()):=aB ();let{e,ee,p,op,np,ev,ep1,KZ,ep3,dk}:=aff hp g;show sU En ?_;rw[Around.under_plainId uq _];change aJ _ A.in1 (nG (.ref it) >>= _) _ _ s;show aA (wpAny_pyNext_list_item C O (x:=.ref p) (by rw[<-pI,g,ev]) λD G H=>?_);have BE:∀b q,b≠d->b≠it->h0.get? b=KE q->D.get? b=KE q:=λb q h2 f e=>(H.2 b f).trans (keep b q h2 f e);have GN:∀b q,h0.get? b=KE q->q.cls=.type "tuple"->D.get? b=KE q:=λb q e c=>BE b q (BX e c).1 (BX e c).2 e;have gp:=GN _ _ ep1 KZ;have dk1:=IsDeep.mono GN dk;have dd1:D.DictOfH (cf prog w) d (qe [] (ks.take i)):=by
   let{o,j,m,u,y,T,U,Y,e6}:=dd;show{o,j,m,(H.2 d J).trans u,y,T,U,λx g=>?_,e6};show IsDeep.mono (λb q e c=>(H.2 b (λz=>?_)).trans e) (Y x g);let{oi,a,ci,_}:=C;subst z;rw[a]at e;cases e;rw[ci]at c;injection c with c;show NC c #v[]
  have hTp:({s with heap:=D}:aG).TypeIs (.ref p) "tuple":=#v[op,gp,KZ];change aJ _ A.in1 (jF [aZ p] _ >>= _) _ _ _;show aA (gK (aA (wpAny_tryCatch ?_)));unfold Builtin.Dict.pairItems;show aA (kX hTp ?_);rw[MZ #v[]];show aA (gN (s:={s with heap:=D}) gp ep3 (WQ ?_));change aJ _ A.in1 (jF [aZ e.2.1,e.2.2] (dictSet d (.ref e.2.1) e.2.2)) _ _ _;have hsz:(qe [] (ks.take i)).length<=sizeLine:=by
   have:=Eo (ks.take i) [];rw[kB,cK]at this;lia
  show gK (wpAny_dictSet_heap (knd:=cf prog w) (hsz:=hsz) (by change A.units+1+2<dB;lia) dk1 dd1 λh2 DZ JA=>?_);have L:ks.take (i+1)=ks.take i++[e]:=(by rw[cH,ee];rfl);show WQ {plainId_quiet uq _,?_};have a:((i:Int))+1=((i+1:Nat):Int):=();change kQ _ _ (.builtin "dict.update.loop" {[.ref d,.ref it,jC ((i:Int)+1),.none],[]}) _ _;rw[a];show ih (i+1) _ () CA (λb q f I e=>(JA.2 b f).trans (BE b q f I e)) ?_ ?_ λh' tkn kp BY=>N h' tkn (λb q f I e=>kp b q f I ((JA.2 b f).trans ((H.2 b I).trans e))) BY;{let{oi,a,r}:=G;show{oi,(JA.2 it (eT J)).trans a,r}};{rw[L];unfold qe;rw[mI];show DZ}
end
end Deep
namespace Deep
section
variable {prog:aQ}{w:bC}{A:bU}{E:aL->aG->Prop}{s:aG}
theorem Ep:∀{xs ys},Paired F xs ys->(∀x y,F x y->G x y)->Paired G xs ys
 |_,_,.nil,_=>.nil
 |_,_,.cons h t,f=>.cons (f _ _ h) (Ep t f)
def S7 (f:s.heap.get? l=KE {cls:=.type "list",data:=.seq items k})(I:Paired (Lc prog w s.heap) items.toList ks)(hz:ks.length<=sizeLine)
  (G:A.handled=MS) (hu:A.units+16<dB)
  (h:∀h' g,(∀b q,s.heap.get? b=KE q->h'.get? b=KE q)->h'.DictOfH (cf prog w) ‹s› (qe [] ks)->Q (.ref ‹s›) {s with heap:=h',toks:=g}) :
  aJ (aT prog w) A (call (.type "dict") [.ref l]) Q E s:=by
 show callType_codes (Q₁:=λobj c=>obj=.ref ‹s›/\c={s with heap:=s.heap.push {cls:=.type "dict",data:=.dict #[]} }) F.kt_called_dict (F.kt_typeCall_dict_1 _) F.entry_dict_init (kt_code_dict_new _ #v[rfl,rfl]) ?_;intro obj c J;let{rfl,rfl}:=J;have i:(s.heap.push {cls:=.type "dict",data:=.dict #[]}).DictOfH (cf prog w) ‹s› []:=Heap.DictOfH.new s.heap;have H:l<‹s›:=bA f;have j:(s.heap.push {cls:=.type "dict",data:=.dict #[]}).get? l=KE {cls:=.type "list",data:=.seq items k}:=aF _ f;have m:({s with heap:=s.heap.push {cls:=.type "dict",data:=.dict #[]} }:aG).TypeIs (.ref l) "list":={_,j,rfl};show{i.typeIs,F.args_dict_init_2 _ _,?_};unfold fW.«dict.__init__»;show aA ?_;unfold Builtin.Dict.selfAndRest;show aA (wpAny_notOrdered_dict i.typeIs ?_);change aJ _ _ (pure (‹s›,[aZ l])) _ _ _;show WQ ?_;change aJ _ _ (lM "dict.__init__" ‹s› (.ref l) [] .none) _ _ _;unfold lM;show aA (kX m ?_);rw[MZ #v[]];show aA (Lb (s:={s with heap:=s.heap.push {cls:=.type "dict",data:=.dict #[]} }) j rfl rfl rfl G λa GN k1=>?_);simp only[Option.isNone_none,if_true];show aA (nA ?_);have L:a.IsList l items:={_,k1 _ _ j,rfl,k,rfl};show aA (eN L (WQ {plainId_quiet uq _,?_}));have k2:∀b q,(s.heap.push {cls:=.type "dict",data:=.dict #[]}).get? b=KE q->(a.push {cls:=.type "list_iterator",data:=.fields #[.ref l,.int 0 0]}).get? b=KE q:=λb q e=>aF _ (k1 _ _ e);have k0:∀b q,s.heap.get? b=KE q->(a.push {cls:=.type "list_iterator",data:=.fields #[.ref l,.int 0 0]}).get? b=KE q:=λb q e=>k2 _ _ (aF _ e);have r:‹s›<a.objs.size:=bA (k1 _ _ (bK _ rfl));have dd:(a.push {cls:=.type "list_iterator",data:=.fields #[.ref l,.int 0 0]}).DictOfH (cf prog w) ‹s› []:=by
  let{o,u,y,z,C,D,N,e5,O}:=i;show{o,u,y,k2 _ _ z,C,D,N,(λx T=>by cases T),O}
 show S6 (A:=A.in1) (d:=‹s›) (it:=a.objs.size) (l:=l) (items:=items) (h0:=a.push {cls:=.type "list_iterator",data:=.fields #[.ref l,.int 0 0]}) (ks:=ks) G (by change A.units+1+8<dB;lia) {_,k0 _ _ f,rfl,k,rfl} (bN H) (bN (iG H r)) (bN r) ?_ {_,bK _ rfl,rfl} ?_ hz
  ks.length 0 _ rfl (eQ _) (λ_ _ _ _ e=>e) {_,bK _ rfl,rfl,rfl} dd λh' g kp U=>{rfl,h h' g (λb q e=>kp b q ?_ ?_ (k0 _ _ e)) U}
 {let{o,u,y,z,C,D,_}:=dd;show#v[o,u,y,z,C.1,D]};{show Ep I λv e Y=>by let{p,o,n,a,h2,h3,h4,h5}:=Y;show{p,o,n,a,k0 _ _ h2,h3,h4,IsDeep.mono (λb q e _=>k0 b q e) h5}};{show bN (bA e)};{show bN (iG (bA e) r)}
end
end Deep
namespace Deep
section
variable {prog:aQ}{w:bC}{A:bU}{E:aL->aG->Prop}{s:aG}
theorem Er:∀{xs:List g},(xs.map f).Nodup->∀(z:Int),(xs.filter λx=>f x==z).length<=1
 | [],_,_=>by simp
 |x::xs,h,z=>by
  rw[bV,fS]at h;rw[sD];by_cases e:(f x==z)=MT
  ·rw[MZ e];have a:f x=z:=(⇑e);have:(xs.filter λx=>f x==z)=[]:=by
    rw[List.filter_eq_nil_iff];intro y b c;have d:f y=z:=(⇑c);show h.1 (bE.mpr {y,b,d.trans a.symm})
   rw[this];simp
  ·rw[M' e];show Er h.2 z
def S8 {o:Obj}{a:Array DictEntry}{xs:List (DW×MV×aL)}(l:s.heap.get? d=KE o)(hd:o.data=.dict a p)(j:a.toList=xs.map (oG (cf prog w)))
  (f:∀x∈xs,(cf prog w).is s.heap x.1 x.2.1) (m:(xs.map λx=>d8 prog w x.1).Nodup) (h:Q a s):aJ (aT prog w) A (Builtin.Dict.entriesForEmpty nm d) Q E s:=by
 unfold Builtin.Dict.entriesForEmpty;show aA (oV l hd (aA ?_));rw[<-nZ,j];show jS _ (λrest _ s'=>s'=s/\∀y∈rest,∃x∈xs,y=oG (cf prog w) x) _ ?_ ?_ _ _ ⟨rfl,λy g=>by obtain⟨x,i,e⟩:_:=bE.mp g;show#v[x,i,e.symm]⟩
 ·rintro y rest b s' ⟨rfl,all⟩;obtain⟨x,i,rfl⟩:_:=all y aR;have ty:s'.TypeIs (.ref x.2.1) "tuple":=IsDeep.typeIs (prog:=prog) (w:=w) (f x i);change aJ _ _ (Builtin.Dict.quietEq (.ref x.2.1) >>= _) _ _ _;unfold Builtin.Dict.quietEq;show aA (aA (lZ ty F.slot_tuple_eq.lookup (WQ ?_)));have hsz:¬(a.filter λy=>y.hash==(oG (cf prog w) x).hash).size > 1:=by
   have n:(a.filter λy=>y.hash==(oG (cf prog w) x).hash).size=(xs.filter λy=>d8 prog w y.1==d8 prog w x.1).length:=by
    rw[<-gQ,Array.toList_filter,j,qC,aC];rfl
   rw[n];have:=Er m (d8 prog w x.1);omega
  have done:s'=s'/\∀y∈rest,∃x∈xs,y=oG (cf prog w) x:={rfl,λy g=>all y (aP _ g)};by_cases c:(!KE (fQ "tuple.__eq__")==KE (fQ "object.__eq__"))=MT;{rw[MZ c,M' hsz];show WQ done};{rw[M' c];show WQ done}
 ·rintro b s' ⟨rfl,_⟩;show WQ h
def afg (a:MV):(keyPart (.ref a)).isSome=MU:=rfl
def Wc {xs:List (DW×MV×aL)}(u:(o==gW)=MU)(T:s.heap.DictOfH (cf prog w) o xs)(hz:xs.length<=sizeLine)(U:(xs.map λx=>d8 prog w x.1).Nodup)
  (h:∀h',(∀b q,s.heap.get? b=KE q->h'.get? b=KE q)->h'.DictOfH (cf prog w) ‹s› xs->Q (.ref ‹s›) {s with heap:=h'}) :
  aJ (aT prog w) A (call (.type "dict") [.ref o]) Q E s:=by
 show callType_codes (Q₁:=λobj f=>obj=.ref ‹s›/\f={s with heap:=s.heap.push {cls:=.type "dict",data:=.dict #[]} }) F.kt_called_dict (F.kt_typeCall_dict_1 _) F.entry_dict_init (kt_code_dict_new _ #v[rfl,rfl]) ?_;intro obj f i;let{rfl,rfl}:=i;have m:(s.heap.push {cls:=.type "dict",data:=.dict #[]}).DictOfH (cf prog w) ‹s› []:=Heap.DictOfH.new s.heap;have kp:∀b q,s.heap.get? b=KE q->(s.heap.push {cls:=.type "dict",data:=.dict #[]}).get? b=KE q:=λb q e=>aF _ e;let{oo,d,ep,J,Y,n,g,e5,e6}:=T;have C:o<‹s›:=bA J;have j:=kp _ _ J;have D:({s with heap:=s.heap.push {cls:=.type "dict",data:=.dict #[]} }:aG).TypeIs (.ref o) "dict":={_,j,Y.1};have L:∀x∈xs,(cf prog w).is (s.heap.push {cls:=.type "dict",data:=.dict #[]}) x.1 x.2.1:=λx hx=>IsDeep.mono (λb q e _=>kp b q e) (e5 x hx);show{m.typeIs,F.args_dict_init_2 _ _,?_};unfold fW.«dict.__init__»;show aA ?_;unfold Builtin.Dict.selfAndRest;show aA (wpAny_notOrdered_dict m.typeIs ?_);change aJ _ _ (pure (‹s›,[aZ o])) _ _ _;show WQ ?_;change aJ _ _ (lM "dict.__init__" ‹s› (.ref o) [] .none) _ _ _;unfold lM;show aA (kX D ?_);rw[M' #v[]];show aA ?_;unfold Builtin.Dict.merge;show aA ?_;unfold Builtin.Dict.readDirectly;show aA (kZ D isSubtype_dict_dict ?_);simp only[lR,fU,if_false];show aA (lZ D F.slot_dict_iter.lookup (WQ ?_));simp only[beq_self_eq_true,if_true];show aA (WQ ?_);unfold Builtin.Dict.mergeDict;rw[M' (⇑(fZ C))];unfold Builtin.Dict.showsAll;rw[M' (by rw[u];show aY)];show aA (WQ (aA (oV (s:={s with heap:=s.heap.push {cls:=.type "dict",data:=.dict #[]} }) j n ?_)));cases xs with
 |nil=>
  have G:d=#[]:=by
   have:d.toList=[]:=g;simpa using this
  subst G;dsimp only;rw[M' ∅];show aA (wpAny_dictEpoch (s:={s with heap:=s.heap.push {cls:=.type "dict",data:=.dict #[]} }) j n (aA (oV (s:={s with heap:=s.heap.push {cls:=.type "dict",data:=.dict #[]} }) j n (aA ?_))));rw[Std.Legacy.Range.forIn_eq_forIn_range'];simp only[Std.Legacy.Range.size,uU,rB,Nat.div_one];show jS _ (λrest _ s'=>rest=[]/\s'={s with heap:=s.heap.push {cls:=.type "dict",data:=.dict #[]} }) _ ?_ ?_ _ _ #v[rfl,rfl];{intro x rest b s' i;let{z,_}:=i;cases z};{intro b s' i;let{_,rfl}:=i;show WQ (aA (WQ (WQ {rfl,h _ kp m})))}
 |cons x xs=>
  have hf:(decide (d.size<=8)&&d.all λe=>(keyPart e.key).isSome)=MU:=by
   rw[<-Array.all_toList,g,bV,rE];change(decide (d.size<=8)&&((keyPart (.ref x.2.1)).isSome&&_))=MU;rw[afg,Bool.false_and,tJ]
  dsimp only;rw[hf,MZ #v[]];let{od,N,H,p,O,r,d4,d5,d6}:=id m;have l:N=#[]:=by
   have:N.toList=[]:=d4;simpa using this
  subst l;show aA (oV (s:={s with heap:=s.heap.push {cls:=.type "dict",data:=.dict #[]} }) p r ?_);rw[MZ (show((#[]:Array DictEntry).isEmpty=MT)from rfl)];show aA (S8 (s:={s with heap:=s.heap.push {cls:=.type "dict",data:=.dict #[]} }) j n g L U ?_);have AI:(!d.isEmpty)=MT:=by
   have:d.toList.length≠0:=(by rw[g];simp);rw[gQ]at this;simp[Array.isEmpty];intro z;rw[z]at this;show this rfl
  rw[MZ AI];have hsz:d.size<=sizeLine+1:=by
   rw[<-gQ,g,aC];lia
  show aA (wpAny_updateDictKeysTo (s:={s with heap:=s.heap.push {cls:=.type "dict",data:=.dict #[]} }) p r ?_ hsz);show WQ (aA (WQ (WQ {rfl,h _ (λb q e=>?_) ?_})));{have I:b≠‹s›:=bN (bA e);show((jR (h:=s.heap.push {cls:=.type "dict",data:=.dict #[]}) (a:=‹s›) ..).2 b I).trans (kp _ _ e)}
  ·show{_,d,H+1,hX _ p (Obj.isFreed_of_dict (Obj.data_mapDictKeys r _)),O.mapDictKeys _,Obj.data_mapDictKeys r _,g,λy hy=>?_,e6};show IsDeep.mono (λb q e c=>?_) (L y hy);have I:b≠‹s›:=λz=>by
    subst z;rw[p]at e;cases e;rw[O.1]at c;injection c with c;show NC c #v[]
   show((jR (h:=s.heap.push {cls:=.type "dict",data:=.dict #[]}) (a:=‹s›) ..).2 b I).trans e
end
end Deep
end PySem
namespace L2
open PySem PySem.Spec PyProof.Rows
section
variable {κ:Type}[DecidableEq κ]
def lj (kvs:List (κ×V))(k:κ):Option V:=(kvs.find? λa=>decide (a.1=k)).map (·.2)
def qg (kvs:List (κ×V))(k:κ)(v:V):List (κ×V):=
 if (kvs.any λa=>decide (a.1=k))=MT then kvs.map (λa=>if a.1=k then (a.1,v)else a)else kvs++[(k,v)]
def Cw {p:κ×V}{r:List (κ×V)}{k:κ}(e:p.1=k):lj (p::r) k=KE p.2:=by simp[lj,dY,e]
def Cy {p:κ×V}{r:List (κ×V)}{k:κ}(e:¬p.1=k):lj (p::r) k=lj r k:=by simp[lj,dY,e]
theorem Cz (k:κ):∀kvs:List (κ×V),(kvs.any λa=>decide (a.1=k))=(lj kvs k).isSome
 | []=>rfl
 |p::r=>by
  rw[kI];by_cases e:p.1=k;{simp only[Cw e,NB e,Bool.true_or,Option.isSome_some]};{rw[Cy e,NA e,Bool.false_or];show Cz k r}
def Cm (kvs:List (κ×V))(k:κ)(v:V):(qg kvs k v).length<=kvs.length+1:=by
 unfold qg
 split;{rw[aC];lia};{rw[aH,aS,kB];lia}
def RelO.isSome_eq (r:RelO o u):o.isSome=u.isSome:=by
 cases o with
 |none=>cases u with
  |none=>rfl
  |some _=>show(show False from r).elim
 |some _=>cases u with
  |none=>show(show False from r).elim
  |some _=>rfl
def KV.val {kvs:List (κ×V)}{vs:List (κ×aL)}(r:KV kvs vs)(k:κ):RelO (lj kvs k) (rQ vs k):=by
 unfold KV at r
 induction r with
 |nil=>show iQ
 |@cons p q ps a h t f=>
  let{d,g}:=h;by_cases e:p.1=k;{have c:q.1=k:=d.symm.trans e;have b:rQ (q::a) k=KE q.2:=(by simp[rQ,dY,c]);rw[Cw e,b];show g};{have c:¬q.1=k:=λz=>e (d.trans z);have b:rQ (q::a) k=rQ a k:=(by simp[rQ,dY,c]);rw[Cy e,b];show f}
theorem KV.any (r:KV kvs vs)(k:κ):(kvs.any λa=>decide (a.1=k))=vs.any λa=>decide (a.1=k):=by
 unfold KV at r
 induction r with
 |nil=>rfl
 |cons h t b=>rw[kI,kI,b,h.1]
def KV.repl (r:KV kvs vs)(k:κ)(c:RelV y u) :
  KV (kvs.map λa=>if a.1=k then (a.1,y)else a) (vs.map λa=>if a.1=k then (a.1,u)else a):=by
 unfold KV at r ⊢
 induction r with
 |nil=>show .nil
 |@cons p q ps g h t d=>
  rw[bV,bV];show .cons ?_ d;let{b,f}:=h;by_cases e:p.1=k;{rw[MZ e,MZ (b.symm.trans e)];show#v[b,c]};{rw[M' e,M' (λz=>e (b.trans z))];show#v[b,f]}
def KV.put (r:KV kvs vs)(k:κ)(a:RelV y u):KV (qg kvs k y) (stored vs k u):=by
 unfold qg stored;rw[r.any k];by_cases e:(vs.any λb=>decide (b.1=k))=MT;{rw[MZ e,MZ e];show r.repl k a};{rw[M' e,M' e];show Paired.snoc r #v[rfl,a]}
theorem KV.length (r:KV kvs vs):kvs.length=vs.length:=Paired.length r
end
def Es (r:RelV (kV k) u):(gw P w).is k u=MT:=by
 cases k with
 |inl i=>let{t,e}:=(show ∃t,u=nU i t from r);subst e;show Od P w i t
 |inr x=>let{t,e}:=(show ∃t,u=qV x t from r);subst e;show Oe P w x t
theorem Iw:∀{ks us},Vals (ks.map kV) us->ItemsAre (gw P w) ks us
 | [],_,r=>by rw[mR]at r;cases r;show .nil
 |k::ks,_,r=>by
  rw[bV]at r;cases r with
  |cons h t=>show .cons (Es h) (Iw t)
abbrev KT (H:Hp):List (List Key×V)->List (List Key×MV×aL)->Prop:=Paired λp q=>p.1=q.1/\H q.2.1=KE (.tup (p.1.map kV))/\RelV p.2 q.2.2
def KT.val {kvs:List (List Key×V)}{xs:List (List Key×MV×aL)}(r:KT H kvs xs)(k:List Key):RelO (lj kvs k) ((mB xs k).map (·.2)):=by
 induction r with
 |nil=>show iQ
 |@cons p q ps a h t f=>
  let{d,_,g}:=h;by_cases e:p.1=k;{have c:q.1=k:=d.symm.trans e;have b:mB (q::a) k=KE q.2:=(by simp[mB,dY,c]);rw[Cw e,b];show g};{have c:¬q.1=k:=λz=>e (d.trans z);have b:mB (q::a) k=mB a k:=(by simp[mB,dY,c]);rw[Cy e,b];show f}
def KT.repl (r:KT H kvs xs)(k:List Key)(d:RelV y u) :
  KT H (kvs.map λb=>if b.1=k then (b.1,y)else b) (xs.map (putAt k u)):=by
 induction r with
 |nil=>show .nil
 |@cons p q ps i h t f=>
  rw[bV,bV];show .cons ?_ f;let{a,c,g}:=h;unfold putAt;by_cases e:p.1=k;{rw[MZ e,MZ (a.symm.trans e)];show#v[a,c,d]};{rw[M' e,M' (λz=>e (a.trans z))];show#v[a,c,g]}
def KT.put (r:KT H kvs xs)(k:List Key)(c:H b=KE (.tup (k.map kV)))(a:RelV y u) :
  KT H (qg kvs k y) (oM xs k b u):=by
 have e:(kvs.any λd=>decide (d.1=k))=(mB xs k).isSome:=by
  rw[Cz,(r.val k).isSome_eq,eO]
 unfold qg oM;rw[e];by_cases q:(mB xs k).isSome=MT;{rw[MZ q,MZ q];show r.repl k a};{rw[M' q,M' q];show Paired.snoc r #v[rfl,c,a]}
def KT.keeps (r:KT H kvs xs)(a:∀b ys,H b=KE (.tup ys)->H' b=KE (.tup ys)):KT H' kvs xs:=
 Paired.mapP r λ_ _ z=>{z.1,a _ _ z.2.1,z.2.2}
section
variable {P:aQ}{w:bC}{H:Hp}{h:MW}{a:MV}
def adh (ok:HOk P w H h)(e:Rd H a u):ObjOk P w H h a u:=e.ok ok
def Et (ok:HOk P w H h)(e:Rd H a (.dK kvs)):kvs.length<=sizeLine/\(a==gW)=MU/\∃vs,KV kvs vs/\h.DictOf (gw P w) a vs:=
 show ObjOk P w H h a (.dK kvs)from adh ok e
def dk_of (ok:HOk P w H h)(e:H a=KE (.dK kvs)):kvs.length<=sizeLine/\(a==gW)=MU/\∃vs,KV kvs vs/\h.DictOf (gw P w) a vs:=Et ok (.inl e)
def Aa (ok:HOk P w H h)(e:H a=KE (.tup (ks.map kV))):(sO (gw P w)).is h ks a:=by
 let{_,its,r,o,b,c,n,d}:=(show ObjOk P w H h a (.tup (ks.map kV))from ok a _ e);show{o,its.toArray,n,b,c,d,by simpa using Iw r}
def Eu (ok:HOk P w H h)(e:Rd H a (.dT kvs)):kvs.length<=sizeLine/\(a==gW)=MU/\
  ∃xs,KT H kvs xs/\h.DictOfH (sO (gw P w)) a xs:=by
 let{z,y,xs,r,o,c,d,f,g,i,j,n}:=(show ObjOk P w H h a (.dT kvs)from adh ok e);show{z,y,xs,r,o,c,d,f,g,i,j,λx hx=>?_,n};have all:∀{l m},KT H l m->∀x∈m,(sO (gw P w)).is h x.1 x.2.1:=by
  intro l m q
  induction q with
  |nil=>intro x hx;show nomatch hx
  |@cons p q ps u b t s=>
   intro x hx;rcases aX.mp hx with e | hx;{subst e;show Aa ok (by rw[<-b.1];show b.2.1)};{show s x hx}
 show all r x hx
def dt_of (ok:HOk P w H h)(e:H a=KE (.dT kvs)):kvs.length<=sizeLine/\(a==gW)=MU/\
  ∃xs,KT H kvs xs/\h.DictOfH (sO (gw P w)) a xs:=Eu ok (.inl e)
end
def DGet (H:Hp)(a:MV)(y:V)(r:Option V):Prop:=
 (∃kvs k,Rd H a (.dK kvs)/\y=kV k/\r=lj kvs k)\/∃kvs k b,Rd H a (.dT kvs)/\y=.ref b/\H b=KE (.tup (k.map kV))/\r=lj kvs k
def DPut (H:Hp)(a:MV)(y v:V)(H':Hp):Prop:=
 (∃kvs k,H a=KE (.dK kvs)/\y=kV k/\kvs.length<sizeLine/\H'=upd H a (.dK (qg kvs k v)))\/
 ∃kvs k b,H a=KE (.dT kvs)/\y=.ref b/\H b=KE (.tup (k.map kV))/\kvs.length<sizeLine/\H'=upd H a (.dT (qg kvs k v))
theorem DGet.k {H:Hp}{a:MV}{kvs:List (Key×V)}{k:Key}(e:H a=KE (.dK kvs)):DGet H a (kV k) (lj kvs k):=.inl {kvs,k,.inl e,rfl,rfl}
theorem DPut.k {H:Hp}{a:MV}{kvs:List (Key×V)}{k:Key}{v:V}(e:H a=KE (.dK kvs))(b:kvs.length<sizeLine):DPut H a (kV k) v (upd H a (.dK (qg kvs k v))):=.inl #v[kvs,k,e,rfl,b,rfl]
section
variable {X:Cx}{j':CW}{σ:St}{H:Hp}{s:aG}{a:MV}{y v:V}{u r:aL}{o:Option V}{A:bU}{E:aL->aG->Prop}
def Inv.big (I:Inv X j' σ H s):gW<‹s›:=by
 have h:bF<‹s›:=(I.mod.glob.keeps I.bk).lt;show iG #v[] h
def Wf (m:A.units+1<dB)(I:Inv X j' σ H s)(g:DGet H a y (KE v))(j:RelV y u)(h:∀c s',Inv X j' σ H s'->RelV v c->Q c s') :
  aJ (aT X.p X.w) A (oJ (.ref a) u) Q E s:=by
 rcases g with⟨kvs,k,e,d,l⟩ | ⟨kvs,k,b,e,d,n,l⟩;{subst d;let{z,hd,vs,f,dd}:=Et I.hok e;let{c,hw,i}:=RelO.some_of (v:=v) (o:=rQ vs k) (by rw[l];show f.val k);show wpAny_getItem_of (Es j) dd.mapOf hw (h c _ (I.tok _) i)};{subst d;cases(show u=aZ b from j);let{z,hd,xs,f,dd}:=Eu I.hok e;let{c,hw,i}:=RelO.some_of (v:=v) (o:=(mB xs k).map (·.2)) (by rw[l];show f.val k);let{p,q,x}:=eF.mp hw;show wpAny_getItem_heap (oA m) (Aa I.hok n) dd q ?_;rw[x];show h c _ (I.tok _) i}
def d_in (i:A.units+1<dB)(I:Inv X j' σ H s)(g:DGet H a y o)(f:RelV y u)(h:∀s',Inv X j' σ H s'->Q (.bool o.isSome) s') :
  aJ (aT X.p X.w) A (dU .In u (.ref a)) Q E s:=by
 rcases g with⟨kvs,k,e,c,l⟩ | ⟨kvs,k,b,e,c,j,l⟩;{subst c;let{z,hd,vs,d,dd}:=Et I.hok e;show wpAny_in_of (Es f) hd dd.mapOf ?_;rw[<-(d.val k).isSome_eq,<-l];show h _ (I.tok _)};{subst c;cases(show u=aZ b from f);let{z,hd,xs,d,dd}:=Eu I.hok e;show wpAny_in_heap (oA i) (Aa I.hok j) hd dd ?_;have q:=(d.val k).isSome_eq;rw[eO]at q;rw[<-q,<-l];show h _ (I.tok _)}
def afh (i:A.units+1<dB)(I:Inv X j' σ H s)(g:DGet H a y o)(f:RelV y u)(h:∀s',Inv X j' σ H s'->Q (.bool (!o.isSome)) s') :
  aJ (aT X.p X.w) A (dU .NotIn u (.ref a)) Q E s:=by
 rcases g with⟨kvs,k,e,c,l⟩ | ⟨kvs,k,b,e,c,j,l⟩;{subst c;let{z,hd,vs,d,dd}:=Et I.hok e;show wpAny_notIn_of (Es f) hd dd.mapOf ?_;rw[<-(d.val k).isSome_eq,<-l];show h _ (I.tok _)};{subst c;cases(show u=aZ b from f);let{z,hd,xs,d,dd}:=Eu I.hok e;show wpAny_notIn_heap (oA i) (Aa I.hok j) hd dd ?_;have q:=(d.val k).isSome_eq;rw[eO]at q;rw[<-q,<-l];show h _ (I.tok _)}
def P2 (I:Inv X j' σ H s)(d:Mut (H a))(f:fK a s.heap h')(g:∃q,h'.get? a=KE q)(new:ObjOk X.p X.w (upd H a c) h' a c) :
  Inv X j' σ (upd H a c) {s with heap:=h',toks:=t'}:=
 I.write (x:=a) (e:=a) d (.inl rfl) (λb q i z=>(f.2 b i).trans z) g new
def ajh (z:kvs.length<=sizeLine)(hd:(a==gW)=MU)(b:KV kvs vs)(dd:h'.DictOf (gw P w) a vs) :
  ObjOk P w H' h' a (.dK kvs):=#v[z,hd,vs,b,dd]
def Wg (J:A.units+1<dB)(I:Inv X j' σ H s)(g:DPut H a y v H')(x:RelV y u)(C:RelV v r)(h:∀s',Inv X j' σ H' s'->Q Unit.unit s') :
  aJ (aT X.p X.w) A (vX (.ref a) u r) Q E s:=by
 rcases g with⟨kvs,k,e,j,l,m⟩ | ⟨kvs,k,b,e,j,D,l,m⟩;{subst j m;let{z,hd,vs,d,dd}:=dk_of I.hok e;have hz:vs.length<=sizeLine:=(by rw[<-d.length];show z);have n:(qg kvs k v).length<=sizeLine:=(by have:=Cm kvs k v;lia);show wpAny_setItem_pairs (hsz:=hz) (Es x) dd λh' f p=>h _ ?_;have L:∃q,h'.get? a=KE q:=let ⟨q,_,_,i,_⟩:=f;#v[q,i];show P2 I (by rw[e];show iQ) p L (ajh n hd (d.put k C) f)};{subst j m;cases(show u=aZ b from x);let{z,hd,xs,d,dd}:=dt_of I.hok e;have hz:xs.length<=sizeLine:=(by rw[<-Paired.length d];show z);have n:(qg kvs k v).length<=sizeLine:=(by have:=Cm kvs k v;lia);show wpAny_setItem_heap (hsz:=hz) (oA J) (Aa I.hok D) dd λh' f p=>h _ ?_;let{q,N,O,i,T,U,Y,_,h5}:=f;show P2 I (by rw[e];show iQ) p #v[q,i] {n,hd,_,(d.put k D C).keeps λc ys G=>?_,q,N,O,i,T,U,Y,h5};rw[au (ne_of G e (λz=>nomatch z))];show G}
end
def Og (I:Inv X c d H s)(g:DGet H a y o):s.TypeIs (.ref a) "dict":=by
 rcases g with⟨kvs,k,e,_,_⟩ | ⟨kvs,k,b,e,_,_,_⟩;{let{_,_,vs,_,dd}:=Et I.hok e;show dd.typeIs};{let{_,_,xs,_,dd}:=Eu I.hok e;show dd.typeIs}
def Z6 (h:MW)(a:gW<h.objs.size):ObjOk P w H (h.push {cls:=.type "dict",data:=.dict #[]}) h.objs.size (.dK []):=
 {eQ _,beq_eq_false_iff_ne.mpr (eT (bN a)),[],.nil,Heap.DictOf.new h}
def aji:TE:=λ_ H Q=>∀p,H p=MS->Q (.ref p) (upd H p (.dK []))
section
variable {X:Cx}{pos:Pos}
def Z7:PE X (.Dict [] [] pos) aji:=λb s c H Q I h=>
 wpAny_Dict_empty {.ref ‹s›,_,I.laid (a:=‹s›) (o:=.dK []) (t':=s.toks) (λ_ _ q=>aF _ q) (aI _) (Z6 s.heap I.big),rfl,h _ (I.hok.fresh (aI _))}
end
open PySem.Deep
def KeyAt (K:aE)(H:Hp)(b:MV)(ks:DW):Prop:=∃xs,SqT K H b xs/\Paired (λv k=>match k with | Sum.inl i=>v=V.int i | Sum.inr l=>∃c,v=.ref c/\SqT K H c (l.map V.int)) xs ks
abbrev DE:=List (DW×MV×V)
def rq:(DW×MV×V)->(DW×MV×aL)->Prop:=λp q=>p.1=q.1/\p.2.1=q.2.1/\RelV p.2.2 q.2.2
def mr (P:aQ)(w:bC)(a:MV)(c:Nat)(kvs:DE):HO:=.ext λh=>∃xs:List (DW×MV×aL),Paired rq kvs xs/\∃o b,h.get? a=KE o/\o.ExactDict/\o.data=.dict b c/\b.toList=xs.map (oG (cf P w))/\(xs.map (·.1)).Nodup
structure DictAt (P:aQ)(w:bC)(K:aE)(H:Hp)(a:MV)(kvs:DE):Prop where
 at_:∃ep,H a=KE (mr P w a ep kvs)
 keys:∀e∈kvs,KeyAt K H e.2.1 e.1
 len:kvs.length<=sizeLine
 sys:(a==gW)=MU
def atK (kvs:DE)(k:DW):Option V:=(kvs.find? λe=>decide (e.1=k)).map (·.2.2)
def iu (kvs:DE)(k:DW)(b:MV)(v:V):DE:=if (atK kvs k).isSome=MT then kvs.map (λe=>if e.1=k then (e.1,e.2.1,v)else e)else kvs++[(k,b,v)]
def ko (kvs a:DE):DE:=a.foldl (λb e=>iu b e.1 e.2.1 e.2.2) kvs
def Bf (r:Paired rq kvs xs)(k:DW):RelO (atK kvs k) ((mB xs k).map (·.2)):=by
 induction r with
 |nil=>show iQ
 |@cons p q ps a h t g=>
  let{f,j,i}:=h;by_cases e:p.1=k;{have b:q.1=k:=f.symm.trans e;have c:atK (p::ps) k=KE p.2.2:=(by simp[atK,e]);have d:mB (q::a) k=KE q.2:=(by simp[mB,b]);rw[c,d];show i};{have b:¬q.1=k:=λz=>e (f.trans z);have c:atK (p::ps) k=atK ps k:=(by simp[atK,e]);have d:mB (q::a) k=mB a k:=(by simp[mB,b]);rw[c,d];show g}
def Z8 (r:Paired rq kvs xs)(k:DW)(c:RelV y u):Paired rq (kvs.map λe=>if e.1=k then (e.1,e.2.1,y)else e) (xs.map (putAt k u)):=by
 induction r with
 |nil=>show .nil
 |@cons p q ps g h t d=>
  rw[bV,bV];show .cons ?_ d;let{a,b,f}:=h;unfold putAt;by_cases e:p.1=k;{rw[MZ e,MZ (a.symm.trans e)];show#v[a,b,c]};{rw[M' e,M' (λz=>e (a.trans z))];show#v[a,b,f]}
def Ew (r:Paired rq kvs xs)(k:DW)(b:MV)(a:RelV y u):Paired rq (iu kvs k b y) (oM xs k b u):=by
 have e:(atK kvs k).isSome=(mB xs k).isSome:=by
  have:=(Bf r k).isSome_eq
  rwa [eO]at this
 unfold iu oM;rw[e];by_cases c:(mB xs k).isSome=MT;{rw[MZ c,MZ c];show Z8 r k a};{rw[M' c,M' c];show Paired.snoc r #v[rfl,rfl,a]}
def Oh (h:Paired rq a ks):∀{kvs xs},Paired rq kvs xs->Paired rq (ko kvs a) (qe xs ks):=by
 induction h with
 |nil=>intro kvs xs r;show r
 |@cons p q ps f h t b=>
  intro kvs xs r;let{c,d,e}:=h;show b (kvs:=iu kvs p.1 p.2.1 p.2.2) (xs:=oM xs q.1 q.2.1 q.2.2) ?_;have:=Ew r p.1 p.2.1 e;rw[c,d]at this ⊢;show this
def Ex (kvs:DE)(k:DW)(b:MV)(v:V):(iu kvs k b v).length<=kvs.length+1:=by
 unfold iu
 split;{rw[aC];lia};{rw[aH];show aI _}
def Ey (h:e∈iu kvs k b v):(e.1=k/\(e.2.1=b\/∃a∈kvs,a.1=k/\a.2.1=e.2.1))\/e∈kvs:=by
 unfold iu at h
 split at h;{let{x,d,rfl}:=bE.mp h;by_cases c:x.1=k;{rw[MZ c];show .inl {c,.inr #v[x,d,c,rfl]}};{rw[M' c];show .inr d}};{rcases dF.mp h with z | z;{show .inr z};{rw[aN.mp z];show .inl {rfl,.inl rfl}}}
section
variable {X:Cx}{j':CW}{σ:St}{H:Hp}{s:aG}
def S9 (I:Inv X j' σ H s)(P:aQ)(w:bC){xs ks its}(r:Vals xs its)(h:Paired (λv k=>match k with | Sum.inl i=>v=V.int i | Sum.inr l=>∃c,v=.ref c/\SqT X.K H c (l.map V.int)) xs ks):ItemsR P w s.heap ks its:=by
 induction h generalizing its with
 |nil=>cases r;trivial
 |@cons v k _ _ h _ a=>
  cases r with
  |cons r t=>
   show{?_,a t};cases k with
   |inl i=>
    subst h;let{b,rfl}:=r;change fV i (.int i b)=MT;simp[fV]
   |inr l=>
    let{c,rfl,d}:=h;cases r;show{c,rfl,I.key P w d}
def Inv.deep (I:Inv X j' σ H s)(h:KeyAt X.K H b ks):IsDeep X.p X.w s.heap ks b:=by
 let{xs,a,c}:=h;let{its,r,p,_}:=I.tuple a;let{o,d,e,n,f}:=p;show{o,its.toArray,n,d,e,f,by simpa using S9 I X.p X.w r c}
def Inv.dict (I:Inv X j' σ H s)(d:DictAt X.p X.w X.K H a kvs):∃xs,Paired rq kvs xs/\s.heap.DictOfH (cf X.p X.w) a xs:=by
 let{b,c}:=d.at_;let{{xs,r,o,f,g,i,j,n,u},_}:=(show ObjOk X.p X.w H s.heap a (mr X.p X.w a b kvs)from I.hok a _ c);show{xs,r,o,f,b,g,i,j,n,λx hx=>?_,u};have all:∀{l m},Paired rq l m->(∀e∈l,KeyAt X.K H e.2.1 e.1)->∀x∈m,IsDeep X.p X.w s.heap x.1 x.2.1:=by
  intro l m q
  induction q with
  |nil=>intro _ x hx;cases hx
  |@cons p q ps A h t y=>
   intro hk x hx;rcases aX.mp hx with rfl | hx;{have:=I.deep (hk p aR);rw[h.1,h.2.1]at this;show this};{show y (λe z=>hk e (aP _ z)) x hx}
 show all r d.keys x hx
def C0 (r:Paired rq kvs xs)(dd:h'.DictOfH (cf P w) a xs):∃b,∀H':Hp,ObjOk P w H' h' a (mr P w a b kvs):=by
 let{o,e,b,d,f,g,i,_,j}:=dd;show{b,λ_=>{#v[xs,r,o,e,d,f,g,i,j],#v[o,d],λx y c k=>?_}};let{l,m,n,p,u,q}:=c;show{l,m,n,p,k _ u,q}
def rInD (P:aQ)(w:bC)(K:aE):R2:=λx y H Q=>∃b ks a kvs,x=.ref b/\y=.ref a/\KeyAt K H b ks/\DictAt P w K H a kvs/\Q (.bl (atK kvs ks).isSome) H
def ajj {P:aQ}{w:bC}{K:aE}(c:X.p=P)(hw:X.w=w)(f:X.K=K)(l:X.A.units+8<dB):OpR X (dU .In) (rInD P w K):=by
 subst c hw f;intro j' s σ H x y v u Q I g i h;let{b,ks,a,kvs,rfl,rfl,j,d,q}:=h;cases g;cases i;let{xs,r,dd}:=I.dict d;show wpAny_in_heap (knd:=cf X.p X.w) (by change X.A.units+1+2<dB;lia) (I.deep j) d.sys dd ?_;have e:=(Bf r ks).isSome_eq;rw[eO]at e;rw[<-e];show{.bl _,H,I.tok _,rfl,q}
def afi (P:aQ)(w:bC)(K:aE):R2:=λx y H Q=>∃b ks a kvs,x=.ref b/\y=.ref a/\KeyAt K H b ks/\DictAt P w K H a kvs/\Q (.bl (!(atK kvs ks).isSome)) H
def Wh {P:aQ}{w:bC}{K:aE}(c:X.p=P)(hw:X.w=w)(f:X.K=K)(l:X.A.units+8<dB):OpR X (dU .NotIn) (afi P w K):=by
 subst c hw f;intro j' s σ H x y v u Q I g i h;let{b,ks,a,kvs,rfl,rfl,j,d,q}:=h;cases g;cases i;let{xs,r,dd}:=I.dict d;show wpAny_notIn_heap (knd:=cf X.p X.w) (by change X.A.units+1+2<dB;lia) (I.deep j) d.sys dd ?_;have e:=(Bf r ks).isSome_eq;rw[eO]at e;rw[<-e];show{.bl _,H,I.tok _,rfl,q}
def rIxD (P:aQ)(w:bC)(K:aE):R2:=λx y H Q=>∃a kvs b ks v,x=.ref a/\y=.ref b/\DictAt P w K H a kvs/\KeyAt K H b ks/\atK kvs ks=KE v/\Q v H
def rSetD (P:aQ)(w:bC)(K:aE):V->V->V->Hp->(Hp->Prop)->Prop:=λo i v H Q=>∃a kvs b ks,o=.ref a/\i=.ref b/\DictAt P w K H a kvs/\KeyAt K H b ks/\kvs.length<sizeLine/\∀c,Q (upd H a (mr P w a c (iu kvs ks b v)))
def Wi {P:aQ}{w:bC}{K:aE}(g:X.p=P)(hw:X.w=w)(j:X.K=K)(N:X.A.units+8<dB):Si X (rSetD P w K):=by
 subst g hw j;intro j' s σ H o i v O iv u Q I m n p h;let{a,kvs,b,ks,rfl,rfl,d,y,l,q}:=h;cases m;cases n;let{xs,r,dd}:=I.dict d;have hz:xs.length<=sizeLine:=(by rw[<-Paired.length r];show d.len);show wpAny_setItem_heap (knd:=cf X.p X.w) (hsz:=hz) (by change X.A.units+1+2<dB;lia) (I.deep y) dd λh' f C=>?_;have D:∃c,h'.get? a=KE c:=(by let{c,_,_,e,_}:=f;show#v[c,e]);let{T,E}:=d.at_;let{G,J}:=C0 (Ew r ks b p) f;show{_,I.write (x:=a) (e:=a) (by rw[E];show iQ) (.inl rfl) (λb q L z=>(C.2 b L).trans z) D (J _),q G}
def ajk (P:aQ)(w:bC)(K:aE):EX->Hp->VK->Prop:=λxs H Q=>∃l vs b,xs=[.ref l]/\H l=KE (.lst vs)/\Paired (λv e=>∃p,v=.ref p/\SqT K H p [.ref e.2.1,e.2.2]/\KeyAt K H e.2.1 e.1) vs b/\
 ∀a c,H a=MS->(a==gW)=MU->Q (.ref a) (upd H a (mr P w a c (ko [] b)))
def Ta {P:aQ}{w:bC}{K:aE}(x:X.p=P)(hw:X.w=w)(y:X.K=K)(z:X.calm=MT)(C:X.A.units+16<dB):ia X (.type "dict") (ajk P w K):=by
 subst x hw y;intro j' s σ H xs us Q I c h;let{l,vs,a,rfl,D,d,q}:=h;let{u,rfl,E}:=jf c;cases(show u=aZ l from E);let{its,n,r,e,hz}:=I.lst D;have mk:∀{vs:EX}{its:AW}{a:DE},Vals vs its->Paired (λv (e:DW×MV×V)=>∃p,v=.ref p/\SqT X.K H p [.ref e.2.1,e.2.2]/\KeyAt X.K H e.2.1 e.1) vs a->∃ks,Paired (Lc X.p X.w s.heap) its ks/\Paired rq a ks:=by
  intro vs its a r
  induction r generalizing a with
  |nil=>intro h;cases h;show{[],.nil,.nil}
  |@cons v iv vs its c t G=>
   intro h;cases h with
   |@cons _ e _ a h J=>
    let{p,rfl,d,hk}:=h;let{ks,b,f}:=G J;let{pi,rp,L,_}:=I.tuple d;let{o,N,O,m,T}:=L;cases c;let{U,Y,rfl,g,i}:=wo rp;cases(show U=aZ e.2.1 from g);show{(e.1,e.2.1,Y)::ks,.cons {p,o,m,rfl,N,O,T,I.deep hk} b,.cons #v[rfl,rfl,i] f}
 let{ks,b,f}:=mk r d;have kl:ks.length<=sizeLine:=by
  have h1:its.length=ks.length:=Paired.length b;have h2:=r.length;lia
 show S7 (A:=X.A) e (⇑b) kl (I.ok.hd z) C λh' tk kp dd=>?_;let{j,ho}:=C0 (Oh f .nil) dd;show⟨.ref ‹s›,_,I.laid (t':=tk) (o:=mr X.p X.w ‹s› j (ko [] a)) kp (aI _) (ho _),rfl,q _ j (I.hok.fresh (aI _)) (beq_eq_false_iff_ne.mpr (eT (bN I.big)))⟩
def ajl (P:aQ)(w:bC)(K:aE):EX->Hp->VK->Prop:=λxs H Q=>∃a kvs,xs=[.ref a]/\DictAt P w K H a kvs/\(kvs.map λe=>d8 P w e.1).Nodup/\∀b c,H b=MS->(b==gW)=MU->Q (.ref b) (upd H b (mr P w b c kvs))
def Tc {P:aQ}{w:bC}{K:aE}(f:X.p=P)(hw:X.w=w)(g:X.K=K):ia X (.type "dict") (ajl P w K):=by
 subst f hw g;intro j' s σ H xs us Q I i h;let{a,kvs,rfl,d,b,q}:=h;let{u,rfl,j}:=jf i;cases(show u=aZ a from j);let{ys,r,dd}:=I.dict d;have hz:ys.length<=sizeLine:=(by rw[<-Paired.length r];show d.len);have l:(kvs.map λe=>d8 X.p X.w e.1)=ys.map λe=>d8 X.p X.w e.1:=by
  clear b dd hz q d
  induction r with
  |nil=>rfl
  |cons h t m=>rw[bV,bV,m,h.1]
 rw[l]at b;show Wc d.sys dd hz b λh' kp n=>?_;let{c,p}:=C0 r n;show{.ref ‹s›,_,I.laid (t':=s.toks) (o:=mr X.p X.w ‹s› c kvs) kp (aI _) (p _),rfl,q _ c (I.hok.fresh (aI _)) (beq_eq_false_iff_ne.mpr (eT (bN I.big)))}
end
def Z9 (hi:Int)(n:Nat):It:={λi _=>i<n,λi H x H'=>H'=H/\x=.int (hi-i),λi _=>n<=i}
def Wj {P:aQ}{w:bC}{K:aE}{tg:MX}(it:MV)(lo:Int)(n:Nat):zw P w K tg (Z9 lo n) [it] it (λi h=>sW h it (lo+(i:Nat)*(-1)) ((n:Int)-(i:Nat)) (-1)) where
 mem:=by simp
 obj:=λi h st b hb=>by
  have e:b=it:=(⇑hb);subst e;show⟨_,st,λv z=>by
    have z':sX _=qW v:=z;cases z'⟩
 keep:=λi h h' st k=>k it ∅ _ st
 item:=by
  intro X hP hw hK hc i j' s σ H E I hf st hg;subst hP hw hK;let{f0,f1,f2,f3,f4,f5}:=hf it ∅;have W:=Walks.range (prog:=X.p) (w:=X.w) (I.ok.hd hc) it lo (-1) n;show W.item i s _ _ hg st λv h' tk hv AH kk=>?_;let{t,rfl}:=hv;have I1:Inv X j' σ H {s with heap:=h',toks:=tk}:=I.turned (λb o hb e=>kk b o (⇑hb) e) f0 f1 f3 f4 f5;show⟨_,rfl,Ef (s:={s with heap:=h',toks:=tk}) (n:="range_iterator") AH rfl rfl #v[] {.int (lo-i),H,I1,{t,?_},#v[rfl,rfl],AH,λb hb=>(hf b hb).1}⟩;rw[show lo+(i:Int)*(-1)=lo-i by lia]
 done:=by
  intro X hP hw hK hc i j' s σ H E I hf st hg;subst hP hw hK;let{f0,f1,f2,f3,f4,f5}:=hf it ∅;show wpAny_pyNext_range_end (I.ok.hd hc) st (by have:n<=i:=hg;lia) λh' eb=>{rfl,I.turned (t':=s.toks) (λb o hb e=>eb b o hb e) f0 f1 f3 f4 f5}
 self:=λ_ _ _ _ _ st h=>wpAny_pyIter_rangeiter st h
section
variable {X:Cx}
def rAnyB (K:aE):EX->Hp->VK->Prop:=λxs H Q=>∃(a:MV)(bs:List Bool),xs=[.ref a]/\SqL K H a (bs.map V.bl)/\Q (.bl (bs.any id)) H
def Wk (E:X.calm=MT):ia X (.builtin "any") (rAnyB X.K):=by
 intro l s G H xs us Q I r h;let{a,bs,rfl,J,q}:=h;let{u,rfl,f}:=jf r;cases f;let{its,m,pl,hz}:=I.list J;have g:=pl.isList;have lt:a<‹s›:=(by let{o,L,_}:=g;show bA L);have N:Inv X l G H {s with heap:=s.heap.push {cls:=.type "list_iterator",data:=.fields #[.ref a,.int 0 0]} }:=I.kept (t':=s.toks) λb o e=>aF _ e;have c:kq X l H ‹s›:=I.fpOk (aI _) (I.hok.fresh (aI _));have len:its.length=bs.length:=(by rw[<-m.length,aC]);have tr:TruthOf X.p X.w X.A.in1 (λi v=>its.toArray[i]?=KE v) (λi=>bs.getD i MT):=λi v s' O E' e T=>by
  have n:its[i]?=KE v:=(⇑e);have hi:i<bs.length:=(by rw[<-len];show(bZ.mp n).1);let{u,p,f}:=m.get (i:=i) (x:=.bl bs[i]) (by rw[aW,aB hi];rfl);rw[n]at p;cases p;cases(show v=oF bs[i]from f);show iV ?_;have z:bs.getD i MT=bs[i]:=(by rw[bO,aB hi];rfl);have C:O (bs.getD i MT) s':=T;rw[z]at C;show C
 show call_any_walk (eN g {‹s›,[‹s›,a],[‹s›],its.toArray.size,_,_,λi=>bs.getD i MT,rfl,vV (show X.A.in1.handled=MS from I.ok.hd E) ‹s› a (bN lt) its.toArray,{{_,bK _ rfl,rfl,rfl},nB g _},tr,λh' U Y=>?_});have ea:(bG its.toArray.size).any (λi=>bs.getD i MT)=bs.any id:=by
  rw[aK,len,eJ,pF,pF];constructor;{intro j;let{i,hi,y}:=j;have D:=bY.mp hi;rw[bO,aB D]at y;show{_,iH D,y}};{intro j;let{b,d,y}:=j;let{i,hi,rfl}:=List.mem_iff_getElem.mp d;show{i,bY.mpr hi,?_};rw[bO,aB hi];show y}
 rw[ea];show{.bl _,H,N.turnedAll (t':=U) (ch:=[‹s›]) (λb d=>?_) (λb o d e=>Y b o d e),rfl,q};cases aN.mp d;show#v[c.1,c.2.1,c.2.2.1,c.2.2.2.1,c.2.2.2.2.1,c.2.2.2.2.2]
end
theorem KeyAt.tups {K:aE}{H H':Hp}{b:MV}{ks:DW}(h:KeyAt K H b ks)(e:Tups H H'):KeyAt K H' b ks:=by
 let{xs,a,d}:=h;show{xs,a.tups e,?_};show Paired.mapP d λv k z=>?_;cases k with
 |inl i=>show z
 |inr l=>let{c,rfl,f}:=z;show{c,rfl,f.tups e}
def DictAt.of {P:aQ}{w:bC}{K:aE}{H H':Hp}{a:MV}{kvs:DE}(d:DictAt P w K H a kvs)(e:Tups H H')(b:∃c,H' a=KE (mr P w a c kvs)):DictAt P w K H' a kvs:=
 {b,λx f=>(d.keys x f).tups e,d.len,d.sys}
def DictAt.mono {P:aQ}{w:bC}{K:aE}{H H':Hp}{a:MV}{kvs:DE}(d:DictAt P w K H a kvs)(e:Same H H'):DictAt P w K H' a kvs:=d.of (Tups.of e) (d.at_.elim λb h=>{b,e _ _ h})
end L2
set_option linter.unusedVariables false
namespace L2
open PySem PySem.Spec PyProof.Rows
section
variable {X:Cx}
open Classical in
open Classical in
open Classical in
open PySem.Deep in
def aaa {P:aQ}{w:bC}{K:aE}(g:X.p=P)(hw:X.w=w)(i:X.K=K)(E:X.A.units+8<dB):IxR X (rIxD P w K):=by
 subst g hw i;intro value slice j s l H x y v u Q I m n h C;let{a,kvs,b,ks,z,rfl,rfl,d,D,e,q}:=h;cases m;cases n;let{xs,r,dd}:=I.dict d;have c:=Bf r ks;rw[e]at c;cases f:mB xs ks with
 |none=>rw[f]at c;show c.elim
 |some p=>
  rw[f]at c;show oY (x:=p.2) dd.typeIs slot_dict_getitem.lookup
   (wpAny_getItem_heap (knd:=cf X.p X.w) (Q:=λr s'=>r=p.2/\EP X j l Q r s') (by change X.A.units+1+2<dB;lia) (I.deep D) dd f {rfl,z,H,I.tok _,c,q}) C
end
open PySem.Deep
section
variable {X:Cx}{pos:Pos}
def afj (K:aE):V->EX->Hp->VK->Prop:=λx vs H Q=>∃(a:MV)(ss:AZ) (t:Str),x=.ref a/\vs=[.str t]/\SqL K H a (ss.map V.str)/\t∈ss/\Q (.int (ss.idxOf t:Nat)) H
theorem Iy:∀ss:AZ,(ss.map V.str).all oq=MT
 | []=>rfl
 |s::ss=>by rw[bV,rE,Iy ss];rfl
def Wl:MtR X "list.index" (afj X.K):=by
 intro T s U H x vs v us Q I j l h;let{a,ss,t,rfl,rfl,z,b,q}:=h;cases j;let{u,rfl,A}:=jf l;let{its,r,p,hz}:=I.list z;let{{cls,dd,data,C},d,e,n,hd}:=p.isList;simp only at e hd;subst e hd;have D:=r.length;rw[aC]at D;have E:ss.idxOf t<ss.length:=cM.mpr b;have key:∀(m:Nat)(b:m<its.length) (f:m<ss.length),eqU (.str t) its[m]=decide (ss[m]=t):=λm b f=>by
  have G:(ss.map V.str)[m]?=KE (.str ss[m]):=(by rw[aW,aB f];rfl);let{w,g,J}:=r.get G;rw[aB b]at g;have c:its[m]=w:=bX g;rw[c,Vv J rfl];change(ss[m]==t)=decide (ss[m]=t);rw[eJ,beq_iff_eq,WX]
 have i:=n8;rw[aC]at hz;show kK lK {_,d,rfl} PySem.F.entry_list_index (PySem.F.args_list_index_2 _ _)
  (SeqAt.list_indexAt a its.toArray n dd C u (eqU (.str t)) (ss.idxOf t) (by simp;lia) () ?_ ?_) {d,λy L=>?_,{.int _,H,I.tok _,{_,rfl},q}}
 {rw[kL,key _ () E];simp[gE]};{intro m N O;rw[kL,key m (⇑N) ()];rw[decide_eq_false_iff_not];show λc=>La O () c};{show K7 (x:=.str t) A rfl r (Iy ss) y (⇑L)}
end
end L2
namespace HT
open PySem PyProof.Rows
section
variable {prog:aQ}{w:bC}{A:bU}{E:aL->aG->Prop}{s:aG}
def getItem_tuple_whole {items:BW}{lo hi:BV}{Q:aL->aG->Prop}(a:sN s.heap t items)(c:s.heap.IsSliceOf d e f .none)(pl:pS e lo)(g:pS f hi)
  (hw:sIx items.size 0 lo=0/\sIx items.size items.size hi=items.size) (h:Q (.ref t) s):aJ (aT prog w) A (oJ (.ref t) (.ref d)) Q E s:=by
 let{os,i,j,m}:=id c;have l:s.TypeIs (.ref d) "slice":=#v[os,i,j];unfold oJ
 try with_reducible show gK ?_
 first | show aA (WQ ?_) | skip
 show aA (rM a.typeIs #v[] ?_);show aA (fA (name:=eA "__getitem__") a.typeIs dO (fN dO a.typeIs qK ?_ (qZ _ _)));change aJ _ _ (kG (.ref t) >>= _) _ _ s;show aA (tupleItemsOf_ a ?_);show aA (kX l ?_);rw[MZ #v[]];show aA (vg c pl g ?_);have b:((((sIx items.size 0 lo:Nat):Int)==0&&(1:Int)==1&&(sIx items.size items.size hi-sIx items.size 0 lo)==items.size)=MT):=by
  rw[hw.1,hw.2];simp
 change aJ _ _ (if (((sIx items.size 0 lo:Nat):Int)==0&&(1:Int)==1&&(sIx items.size items.size hi-sIx items.size 0 lo)==items.size)=MT then _ else _) _ _ s
 rw[MZ b];unfold Builtin.Tuple.tupleIsExact;show aA (aA (kX a.typeIs (WQ ?_)));rw[MZ #v[]];show aA (nA (WQ {_,rfl,WQ h}))
end
end HT
namespace L2
open PySem PySem.Spec PyProof.Rows
section
variable {X:Cx}
def Wm (xs:EX)(lo hi:BV):Prop:=HT.sIx xs.length 0 lo=0/\HT.sIx xs.length xs.length hi=xs.length
def rSlT0 (K:aE):V->BV->BV->Hp->VK->Prop:=λx lo hi H Q=>∃a xs,x=.ref a/\SqT K H a xs/\Wm xs lo hi/\Q (.ref a) H
def afk:SlR X (rSlT0 X.K):=by
 intro i s j H x v l m lo hi n Q I c d pl e h;let{a,xs,rfl,f,hw,q}:=h;cases c;let{its,r,b,hz}:=I.tuple f;have g:its.toArray.size=xs.length:=(by rw[aK];show r.length.symm);show{"tuple",_,dO.lookup,b.typeIs,?_};show HT.getItem_tuple_whole b d pl e (by rw[g];show hw) {.ref a,H,I,rfl,q}
end
def dg {a:Type}(xs:List a)(lo hi:BV):List a:=(xs.drop (HT.sIx xs.length 0 lo)).take (HT.sIx xs.length xs.length hi-HT.sIx xs.length 0 lo)
end L2
namespace L2
open PySem PySem.Spec PyProof.Rows
section
variable {X:Cx}{pos:Pos}
theorem Iz (ns:LQ):∀n,sC (λi=>ns.getD i 0) n=(ns.take n).sum
 |0=>by simp[sC]
 |n+1=>by
  change sC (λi=>ns.getD i 0) n+ns.getD n 0=_;rw[Iz ns n,cH,List.sum_append,bO];cases ns[n]?<;>simp
def rSumS (K:aE):EX->Hp->VK->Prop:=λxs H Q=>∃(a:MV)(ns:LQ),xs=[.ref a]/\SqL K H a (ns.map V.int)/\ns.length<=1000/\(∀n∈ns,-1000000000<=n/\n<=1000000000)/\Q (.int ns.sum) H
def Wn (E:X.calm=MT):ia X (.builtin "sum") (rSumS X.K):=by
 intro p s G H xs us Q I r h;let{a,ns,rfl,J,g,L,q}:=h;let{u,rfl,l}:=jf r;cases l;let{its,w,pl,hz}:=I.list J;have m:=pl.isList;have lt:a<‹s›:=(by let{o,N,_}:=m;show bA N);have O:Inv X p G H {s with heap:=s.heap.push {cls:=.type "list_iterator",data:=.fields #[.ref a,.int 0 0]} }:=I.kept (t':=s.toks) λb o e=>aF _ e;have c:kq X p H ‹s›:=I.fpOk (aI _) (I.hok.fresh (aI _));have len:its.length=ns.length:=(by rw[<-w.length,aC]);have T:∀(i:Nat)(v:aL),its.toArray[i]?=KE v->∃t,v=.int (ns.getD i 0) t:=λi v e=>by
  have y:its[i]?=KE v:=(⇑e);have hi:i<ns.length:=(by rw[<-len];show(bZ.mp y).1);let{u,C,l}:=w.get (i:=i) (x:=.int ns[i]) (by rw[aW,aB hi];rfl);rw[y]at C;cases C;let{t,rfl}:=l;show{t,by rw[bO,aB hi];rfl}
 have D:∀j,j<ns.length->-1000000000<=ns.getD j 0/\ns.getD j 0<=1000000000:=λj f=>by
  rw[bO,aB f];show L _ (iH f)
 show call_sum_walk (eN m {‹s›,[‹s›,a],[‹s›],its.toArray.size,_,_,λi=>ns.getD i 0,rfl,vV (show X.A.in1.handled=MS from I.ok.hd E) ‹s› a (bN lt) its.toArray,{{_,bK _ rfl,rfl,rfl},nB m _},λb d=>?_,T,λj f=>?_,λh' U t' Y=>?_});{change b<(s.heap.push _).objs.size;rw[fJ];simp only[aX,dS,or_false]at d;rcases d with z | z;{rw[z];show iC _};{rw[z];show Nat.lt_succ_of_lt lt}}
 {rw[aK,len]at f;have b1:=D j f;have b2:=Iv (val:=λi=>ns.getD i 0) (n:=ns.length) D (j+1) ();change InLong (ns.getD j 0)/\InLong (sC (λi=>ns.getD i 0) (j+1));show{{(),()},{(),()}}};{show{.int _,H,O.turnedAll (t':=U) (ch:=[‹s›]) (λb d=>?_) (λb o d e=>Y b o d e),#v[t',rfl],by rw[aK,len,Iz,cW];show q};cases aN.mp d;show#v[c.1,c.2.1,c.2.2.1,c.2.2.2.1,c.2.2.2.2.1,c.2.2.2.2.2]}
end
section
variable {X:Cx}
def rLL (K:aE)(b:Bool):R2:=λx y H Q=>∃l r xs ys,x=.ref l/\y=.ref r/\SqL K H l xs/\SqL K H r ys/\((xs.length≠ys.length/\Q (.bl (!b)) H)\/∃ds,Holds K H xs ds/\Holds K H ys ds/\depL ds<=60/\Q (.bl b) H)
def afl (N:X.A.units+64<dB):OpR X (dU .Eq) (rLL X.K MT):=by
 intro c s f H x y v u Q I j l h;let{a,b,xs,ys,rfl,rfl,g,i,h}:=h;cases j;cases l;rcases h with⟨m,q⟩ | ⟨ds,n,p,hd,q⟩
 ·let{its,r,w,_}:=I.list g;let{z,C,D,_}:=I.list i;have e:(its.toArray.size != z.toArray.size)=MT:=by
   rw[aK,aK,<-r.length,<-C.length];simpa using m
  show SeqAt.RcAt.lists_lengths (A:=X.A) (s:=s) w.isList D.isList e () _ _ _ _ (show EP X c f Q (.bool MU) s from{.bl MU,H,I,rfl,q})
 ·show P0 I g i n p () (λd E x y u v G ky J L=>Gp I 60 (aV (Bd E) ()) (by rw[jD];lia) G ky J L) _ _ _ _ (show EP X c f Q (.bool MT) s from{.bl MT,H,I,rfl,q})
end
end L2
namespace PySem
namespace TupSet
open SetTable
section
variable (prog:aQ)(w:bC)
def hashT (x:LQ):Int:=tupleKeyHash (gL prog w) x
def Td (h:MW)(e:Int×aL)(x:LQ):Prop:=e.1=hashT prog w x/\∃a,e.2=.ref a/\nD (gL prog w) h x a
def Ld (h:MW):List (Int×aL)->LJ->Prop
 | [],[]=>True
 |e::a,x::xs=>Td prog w h e x/\Ld h a xs
 |_,_=>False
end
section
variable {prog:aQ}{w:bC}
def aab (h:(gL prog w).is k v=MT):∃t,v=.int k t:=by
 have h':fV k v=MT:=h;cases v<;>simp[fV]at h';show{_,by rw[h']}
variable {A:bU}{E:aL->aG->Prop}{s:aG}
end
end TupSet
namespace TupSet
open SetTable PyProof.Rows PySem.W
def lexLt:LQ->LQ->Bool
 | [],[]=>MU
 | [],_::_=>MT
 |_::_,[]=>MU
 |a::as,b::bs=>if a=b then lexLt as bs else decide (a<b)
theorem lex_irrefl:∀x,lexLt x x=MU
 | []=>rfl
 |a::as=>by simp[lexLt,lex_irrefl as]
theorem I0:∀x y,lexLt x y=MU->lexLt y x=MU->x=y
 | [],[],_,_=>rfl
 | [],_::_,h,_=>nomatch h
 |_::_,[],_,h=>nomatch h
 |a::as,b::bs,c,d=>by
  by_cases e:a=b;{subst e;simp[lexLt]at c d;rw[I0 as bs c d]};{have f:¬b=a:=λh=>e h.symm;simp[lexLt,e,f]at c d;lia}
theorem lex_trans:∀x y z,lexLt x y=MT->lexLt y z=MT->lexLt x z=MT
 | [],[],_,h,_=>nomatch h
 | [],_::_,[],_,h=>nomatch h
 | [],_::_,_::_,_,_=>rfl
 |_::_,[],_,h,_=>nomatch h
 |_::_,_::_,[],_,h=>nomatch h
 |a::as,b::bs,c::cs,d,e=>by
  by_cases g:a=b;{subst g;by_cases f:a=c;{subst f;simp[lexLt]at d e ⊢;show lex_trans as bs cs d e};{simp[lexLt,f]at d e ⊢;show e}};{by_cases f:b=c;{subst f;simp[lexLt,g]at d e ⊢;show d};{simp[lexLt,g,f]at d e;have i:¬a=c:=();simp[lexLt,i];lia}}
def lex_asymm {x y:LQ}(h:lexLt x y=MT):lexLt y x=MU:=by
 cases h':lexLt y x with
 |false=>rfl
 |true=>have:=lex_trans _ _ _ h h';rw[lex_irrefl]at this;show nomatch this
def Te (x y:LQ):Prop:=lexLt y x=MU
def Lf (a:Te x y)(b:Te y x):x=y:=I0 _ _ b a
def SortedT (l:LJ):Prop:=l.Pairwise Te
theorem sorted_unique:∀{l c},l.Perm c->SortedT l->SortedT c->l=c
 | [],c,p,_,_=>by rw[List.Perm.nil_eq p]
 |a::l,[],p,_,_=>by have:=p.length_eq;simp at this
 |a::l,b::c,p,s,s'=>by
  have d:=oB.mp s;have f:=oB.mp s';have g:a=b:=by
   have ha:a∈b::c:=p.mem_iff.mp aR;have hb:b∈a::l:=p.mem_iff.mpr aR;rcases aX.mp ha with e | ha;{show e};{rcases aX.mp hb with e | hb;{show e.symm};{show Lf (d.1 b hb) (f.1 a ha)}}
  subst g;rw[sorted_unique (List.Perm.cons_inv p) d.2 f.2]
end TupSet
end PySem
namespace L2
open PySem PySem.Spec PyProof.Rows PySem.TupSet
section
variable {P:aQ}{w:bC}{H H':Hp}{h h':MW}{a:MV}{o:HO}{fs ex:DV}
def ObjOk.has (x:ObjOk P w H h a o):∃b,h.get? a=KE b:=by
 cases o with
 |lst xs=>let{_,_,_,_,e}:=x;show{_,e}
 |tup xs=>let{_,_,_,b,e,_}:=x;show{_,e}
 |dK kvs=>let{_,_,_,_,o,_,_,e,_}:=x;show{_,e}
 |dT kvs=>let{_,_,_,_,o,_,_,e,_}:=x;show{_,e}
 |set S n=>let{o,_,_,_,e,_}:=x;show{_,e}
 |ins C c fs=>let{_,_,_,e,_}:=x;show{_,e}
 |own y=>let{_,e}:=x;show{_,e}
 |xd fs=>let{_,{_,_,_,e,_},_}:=x;show{_,e}
 |rng lo hi=>let{_,_,_,e}:=x;show{_,e}
 |frz b u=>let{e,_}:=x;show{_,e}
 |tbl ps=>show{_,show h.get? a=KE _ from x}
 |met f y=>show{_,show h.get? a=KE _ from x}
 |ext d=>let{_,{_,e},_}:=x;show{_,e}
def HOk.none_at (x:HOk P w H h)(e:h.get? a=MS):H a=MS:=by
 cases q:H a with
 |none=>rfl
 |some u=>
  let{b,z}:=(x a u q).has;rw[e]at z;cases z
def HOk.laidN (x:HOk P w H h)(k:∀b u,h.get? b=KE u->h'.get? b=KE u)(g:h.get? a=MS)(new:ObjOk P w (upd H a o) h' a o):HOk P w (upd H a o) h':=λb u e=>by
 have d:=x.none_at g;by_cases f:b=a;{subst f;rw[ay]at e;cases e;show new};{rw[au f]at e;show(x b u e).stay (λc v _ q=>k c v q) (λc q=>by rw[au (bp q d)];show q) λc xs q=>by rw[au (bp q d)];show q}
def Un.laidN (k:∀b u,h.get? b=KE u->h'.get? b=KE u)(hp:h.get? a=MS)(hn:H a=MS):Un fs ex H (upd H a o) h h' where
 keep:=λb u q _ _ _=>k b u q
 slot:=λb u q _ _ _=>{u.slots,k b u q}
 free:=λb u q n _=>by rw[au (λz=>by rw[z,hp]at q;cases q)];show n
 there:=λb u q _=>{u,k b u q}
 tups:=λb xs q=>by rw[au (bp q hn)];show q
 frzs:=λb u xs q=>by rw[au (bp q hn)];show q
 tbls:=λb ps q=>{#[],by rw[au (bp q hn),q];simp}
end
theorem Inv.laidN {X:Cx}{d:CW}{e:List (Option V)}{H:Hp}{s:aG}{h':MW}{a:MV}{o:HO}{t':Nat}(I:Inv X d e H s)(k:∀b u,s.heap.get? b=KE u->h'.get? b=KE u)(c:s.heap.get? a=MS)(new:ObjOk X.p X.w (upd H a o) h' a o) :
  Inv X d e (upd H a o) {s with heap:=h',toks:=t'}:=I.un (Un.laidN k c (I.hok.none_at c)) (I.hok.laidN k c new)
def TupsV (K:aE)(H:Hp)(ys:EX)(L:LJ):Prop:=Paired (λy x=>∃a,y=.ref a/\SqT K H a (x.map V.int)) ys L
theorem Lh:∀{x its},Vals (x.map V.int) its->PySem.ItemsAre (gL prog w) x its
 | [],_,.nil=>.nil
 |k::x,_,.cons r t=>by
  let{a,rfl}:=r;show .cons (by change fV k (.int k a)=MT;simp[fV]) (Lh t)
section
variable {X:Cx}{j':CW}{σ:St}{H:Hp}{s:aG}
def Inv.tkey (I:Inv X j' σ H s)(h:SqT X.K H a (x.map V.int)):nD (gL X.p X.w) s.heap x a:=by
 let{its,r,{o,b,c,n,hd},_}:=I.tuple h;show{o,its.toArray,n,b,c,hd,by simpa using Lh r}
open Classical in
end
end L2
namespace PySem
namespace TupG
open SetTable TupSet PyProof.Rows PySem.W
theorem nodup_perm:∀{xs ys:LJ},xs.Nodup->ys.Nodup->(∀y,y∈xs↔y∈ys)->xs.Perm ys
 | [],ys,_,_,h=>by
  cases ys with
  |nil=>show .refl _
  |cons y ys=>show nomatch (h y).mpr aR
 |x::xs,ys,d,b,h=>by
  have a:=(h x).mp aR;have c:=fS.mp d;show(List.Perm.cons x (nodup_perm c.2 (b.erase x) λy=>?_)).trans (List.perm_cons_erase a).symm;rw[b.mem_erase_iff,<-h,aX];show⟨λz=>{λe=>c.1 (e ▸ z),.inr z},λf=>by let{n,z}:=f;show z.resolve_left n⟩
end TupG
end PySem
namespace L2
open PySem PySem.Spec PyProof.Rows
open PySem.SeqAt
theorem o6 [DecidableEq b]:∀(ks ls:List b),((bG (min ks.length ls.length)).all (λj=>decide (ks[j]?=ls[j]?))&&ks.length==ls.length)=decide (ks=ls)
 | [],[]=>by simp
 | [],_::_=>by simp
 |_::_,[]=>by simp
 |k::ks,l::ls=>by
  have c:=o6 ks ls;have e:min (k::ks).length (l::ls).length=min ks.length ls.length+1:=(by simp only[aS];lia);rw[e,List.range_succ_eq_map,rE,List.all_map];have d:((bG (min ks.length ls.length)).all ((λj=>decide ((k::ks)[j]?=(l::ls)[j]?))∘Nat.succ))=(bG (min ks.length ls.length)).all (λj=>decide (ks[j]?=ls[j]?)):=by
   congr 1
  have f:((k::ks).length==(l::ls).length)=(ks.length==ls.length):=∅;rw[d,f,Bool.and_assoc,c];by_cases a:k=l;{subst a;simp};{simp[a]}
section
variable {X:Cx}{j':CW}{σ:St}{H:Hp}{s:aG}{A:bU}
def t6 [DecidableEq p](q:Paired R xs ks)(r:Paired R ys ls)(d:Vals xs its)(f:Vals ys a)
  (w:∀(j:Nat)(k l:p),ks[j]?=KE k->ls[j]?=KE l->∀(x y:V)(u v:aL),R x k->R y l->RelV x u->RelV y v->EqAt A s u v (decide (k=l))) :
  ∀j (b:j<its.toArray.size) (c:j<a.toArray.size),EqAt A s its.toArray[j] a.toArray[j] (decide (ks[j]?=ls[j]?)):=by
 intro j b c;have l1:=d.length;have l2:=f.length;have g:j<xs.length:=(by rw[l1];simpa using b);have i:j<ys.length:=(by rw[l2];simpa using c);let{k,m,k1}:=z8 q (aB g);let{l,n,k2}:=z8 r (aB i);let{u,C,D}:=d.get (aB g);let{v,E,G}:=f.get (aB i);have I:its.toArray[j]=u:=by
  have z:its[j]?=KE its.toArray[j]:=(by simp[aB (⇑(b:j<its.length))]);rw[C]at z;show(bX z).symm
 have J:a.toArray[j]=v:=by
  have z:a[j]?=KE a.toArray[j]:=(by simp[aB (⇑(c:j<a.length))]);rw[E]at z;show(bX z).symm
 rw[I,J,m,n];have z:=w j k l m n _ _ _ _ k1 k2 D G;have e:decide (KE k=KE l)=decide (k=l):=(by rw[decide_eq_decide];show{bX,λz=>by rw[z]});rw[e];show z
def afm [DecidableEq r](I:Inv X j' σ H s)(fn:xs=ys->ks=ls)(c:SqT X.K H a xs)(d:SqT X.K H b ys)(f:Paired R xs ks)(g:Paired R ys ls)(w:A.units<dB)
  (z:∀(j:Nat)(k l:r),ks[j]?=KE k->ls[j]?=KE l->∀(x y:V)(u v:aL),R x k->R y l->RelV x u->RelV y v->EqAt A.in1 s u v (decide (k=l))):EqAt A s (.ref a) (.ref b) (decide (ks=ls)):=by
 let{its,i,C,_}:=I.tuple c;let{m,n,D,_}:=I.tuple d;have E:its.toArray.size=ks.length:=(by rw[aK,<-i.length,Paired.length f]);have G:m.toArray.size=ls.length:=(by rw[aK,<-n.length,Paired.length g]);by_cases p:a=b;{subst p;have e:=I.tuple_inj c d;rw[NB (fn e)];show uT _};{have q:=vG (s:=s) (A:=A) (show s.heap.IsTuple a its.toArray from C) (show s.heap.IsTuple b m.toArray from D) w (t6 f g i n z);rw[E,G,o6]at q;show sA p q}
end
section
variable {X:Cx}
def ajm (a:TA):TI:=λb H R=>a b H λvs c=>∃n:Nat,vs=[.int ((n:Int)-1),.int (-1),.int (-1)]/\n<1000000/\R (Z9 ((n:Int)-1) n) c
def aac (x:Gl X "range")(y:X.mg "range"=MS)(z:PA X [a,b,c] A)(C:↥(aO [a,b,c] X.e=[(MU,eval a X.e),(MU,eval b X.e),(MU,eval c X.e)]))(i:↥(aO [b,c] X.e=[(MU,eval b X.e),(MU,eval c X.e)])) :
  PI X U (.Call (.Name "range" p) [a,b,c] [] pos) (ajm A):=by
 intro j s l H R I h;show Call_ (ny I x y vP (fP (thn (z pos j s l H _ I h) λus d ⟨vs,m,D,E,u⟩=>?_) (by rw[C,i]) (by rw[i];rfl)));let{n,e,u,q}:=u;subst e;cases E with
 |cons r f=>
  cases f with
  |cons G f=>
   cases f with
   |cons J f=>
    cases f;let{t,rfl}:=r;let{t',rfl}:=G;let{g,rfl}:=J;show call_range_3 #v[] ?_ (.inl (PyProof.noPylong_small ()));have L:((n:Int)-1 - -1-1) / (- -1)=(n:Int)-1:=by
     rw[show-(-1:Int)=1 by decide,uQ];lia
    have w:lH ((n:Int)-1) (-1) (-1)=n:=by
     unfold lH;rw[M' #v[],L];by_cases h0:n=0;{subst h0;rfl};{rw[MZ ()];lia}
    have N:Builtin.Range.small ((n:Int)-1) (-1) (-1)=MT:=by
     unfold Builtin.Range.small;simp only[w,Builtin.Range.rangeFitsLong,eG,Bool.or_eq_true,decide_eq_true_eq,beq_iff_eq];simp;lia
    show wpAny_pyIter_range (IsRange.new ..) N ?_;have I2:Inv X j l m {d with heap:=d.heap.push {cls:=.type "range",data:=.fields #[.int ((n:Int)-1) t,.int (-1) t',.int (-1) g]},toks:=d.toks}:=D.kept λb o e=>aF _ e;show⟨(d.heap.push {cls:=.type "range",data:=.fields #[.int ((n:Int)-1) t,.int (-1) t',.int (-1) g]}).objs.size,[(d.heap.push {cls:=.type "range",data:=.fields #[.int ((n:Int)-1) t,.int (-1) t',.int (-1) g]}).objs.size],_,_,m,rfl,I2.kept (t':=d.toks) λb o e=>aF _ e,Wj _ ((n:Int)-1) n,?_,λb O=>?_,q⟩
    ·have Q:((n:Int)-1)+((0:Nat):Int)*(-1)=(n:Int)-1:=();have T:((n:Nat):Int)-((0:Nat):Int)=lH ((n:Int)-1) (-1) (-1):=by
      rw[w];lia
     change sW _ _ (((n:Int)-1)+((0:Nat):Int)*(-1)) (((n:Nat):Int)-((0:Nat):Int)) (-1);rw[Q,T];show bK _ rfl
    ·have e:b=(d.heap.push {cls:=.type "range",data:=.fields #[.int ((n:Int)-1) t,.int (-1) t',.int (-1) g]}).objs.size:=(⇑O);subst e;show I2.fpOk (aI _) (I2.hok.fresh (aI _))
end
def AllP {a:Type}(p:a->Prop):List a->Prop
 | []=>True
 |x::r=>p x/\AllP p r
theorem AllP.mem:∀{l x},AllP p l->x∈l->p x
 |y::r,x,h,a=>by
  rcases aX.mp a with e | e;{rw[e];show h.1};{show h.2.mem e}
def OutsP (X:Cx)(a:lS):AZ->AQ->Prop
 | [],[]=>True
 |y::ys,i::fr=>(X.N[i]?=KE y/\X.e.kindOf y=KE .cell/\(nQ a X.e).names.lookup y=KE .cell)/\OutsP X a ys fr
 |_,_=>False
theorem OutsP.get:∀{ys:AZ}{fr:AQ},OutsP X a ys fr->fr.length=ys.length/\∀(j:Nat)(y:Str),ys[j]?=KE y->∃i:Nat,fr[j]?=KE i/\X.N[i]?=KE y/\(X.e.kindOf y=KE .cell\/X.e.kindOf y=KE .free)/\((nQ a X.e).names.lookup y=KE .cell\/(nQ a X.e).names.lookup y=KE .free)
 | [],[],_=>{rfl,λj y e=>by cases j<;>cases e}
 |y::ys,i::fr,h=>by
  let{l,g}:=h.2.get;show{by rw[aS,aS,l],λj z e=>?_};cases j with
  |zero=>cases e;show{i,rfl,h.1.1,.inl h.1.2.1,.inl h.1.2.2}
  |succ j=>show g j z e
def csN {X:Cx}{a:lS}{cl:List (Str×MV)}(L:List (Str×rV))(clos:autoParam (vU a X.e=pure cl) KQ._auto_1)(kind:↥(a.kind=.function))(nocell:autoParam (∀y∈a.names,y.2≠.cell) JX._auto_1)
  (locs:autoParam (∀y∈a.names,y.2=.local->a.names.lookup y.1=KE .local) JX._auto_1) (sub:autoParam (AllP (λp=>X.e.cells.lookup p.1=KE p.2) cl) KW._auto_1)
  (c:autoParam ((nQ a X.e).names=L) KQ._auto_1) (d:AllP (λp=>(p.2≠.cell/\p.2≠.free)\/(cl.lookup p.1).isSome=MT) L:=by repeat' first | show trivial | show .inl {#v[],#v[]} | show .inr (by with_unfolding_all rfl) | constructor)
  (outs:autoParam (OutsP X a ys fr) KW._auto_1):qd X ns ys fr a cl:=
 cs_of L clos kind nocell locs (λ_ b=>sub.mem b) c (λp b hk=>by
   rcases d.mem b with h | h
   · show NC hk (λz=>z.elim h.1 h.2)
   · show nW.mp h) outs.get.1 outs.get.2
def fsN (a:↥(i.kind=.function))(b:↥(i.isCoroutine=MU))(c:↥(i.isGenerator=MU))(d:autoParam (N.Nodup) JX._auto_1)(e:↥(N.take ps.length=ps))
  (f:autoParam (∀x∈ps,i.names.lookup x=KE .local\/i.names.lookup x=KE .cell) JX._auto_1) (g:autoParam (∀y∈i.names,y.2≠.free) JX._auto_1):cz N ps i:=#v[a,b,c,d,e,f,g]
def pg2 (e:X.calm=MT)(nd:autoParam (([a,b]++ys).Nodup) JX._auto_1)
  (f:autoParam (Loc (cxC X ([a,b]++ys) c cl C s H d).e.scope a) JK._auto_1) (g:autoParam (Loc (cxC X ([a,b]++ys) c cl C s H d).e.scope b) JK._auto_1)
  (j:↥((cxC X ([a,b]++ys) c cl C s H d).e.scope.names.lookup a=KE .local)) (l:↥((cxC X ([a,b]++ys) c cl C s H d).e.scope.names.lookup b=KE .local)) :
  PG (cxC X ([a,b]++ys) c cl C s H d) (.Tuple [.Name a m,.Name b n] k p) (gTup X.K 2 (Kl (Ba 0) (Kl (Ba 1) Y6))):=
 Ve e (yp (uy (i:=0) nd rfl f (.inr j)) (yp (uy (i:=1) nd rfl g (.inr l)) Pp))
end L2
namespace Fly
open PySem
open Sem (wp)
def Tb (B h:MW)(e:MV)(vs:BW):AK->Prop
 |none=>vs[1]?=KE .none
 |some f=>∃T a b,vs[1]?=KE (.ref T)/\B.get? T=MS/\T≠e/\h.get? T=KE a/\a.data=.fields b/\b[3]?=KE f
structure XAt (B:MW)(l:List Env)(e:MV)(cls:aL)(dct:Option MV)(fl:AK)(h:MW):Prop where
 stays:B.StaysIn h
 new:B.get? e=MS
 frames:h.FunFrames B l
 obj:∃oe vs,h.get? e=KE oe/\oe.cls=cls/\oe.dict=dct/\oe.data=.fields vs/\1<vs.size/\Tb B h e vs fl
def XAt.drop (x:XAt B (env::l) e cls dct a h):XAt B l e cls dct a h:=
 #v[x.stays,x.new,x.frames.2.2,x.obj]
def afn (o:Obj)(f):(o.mapFields f).dict=o.dict:=by
 unfold nK;split<;>rfl
section
variable {M:Model}{A:bU}{E:aL->aG->Prop}{s:aG}
def entry
  (I:A.frames=KE (env::outer)) (d:s.heap.FunFrames B (env::outer)) (J:env.frame=KE L) (i:s.heap.get? e=KE f) (j:B.StaysIn s.heap) (p:B.get? e=MS) (hd:f.data=.fields vs) (hsz:1<vs.size)
  (h:∀h',XAt B (env::outer) e f.cls f.dict (KE (jC L)) h'->s.heap.UpToSlots h'->Q Unit.unit {s with heap:=h'}) :
  aJ M A (do let a <-frameOf env;let pl <-entryPlaceOf L Y;let b <-EntryCells.newEntry head a .none (jC L) .none pl;setField (.ref e) 1 b) Q E s:=by
 have N:e ∉ (env::outer).filterMap (·.frame):=by
  intro l;let{_,o,r,z}:=d.mem l;rw[i]at r;cases r;show z vs hd
 show aA (wpAny_frameOf_fun I d J λc g=>?_);show aA (wpAny_entryPlaceOf λpl u=>?_);unfold EntryCells.newEntry newFields;show aA (fB ?_ (u.sizeOk5 _ _ _ _ _));have x:(([head,.ref L,.none,jC L,.none]++(if pl.isEmpty then bB 6 fO else pl)).toArray:BW)[3]?=KE (jC L):=by
  first | (simp;done) | (rcases u with rfl | ⟨_,_,_,_,_,_,_,rfl⟩<;>simp)
 generalize ([head,.ref L,.none,jC L,.none]++(if pl.isEmpty then bB 6 fO else pl)).toArray=m at x ⊢
 have y:c.get? e=KE f:=(g.2.1 e N).trans i;have k1:B.StaysIn c:=λb o q=>(g.2.1 b λl=>by rw[(d.mem l).1]at q;cases q).trans (j b o q);have C:=aF (h:=c) {cls:=.type "traceback",dict:=MS,data:=.fields m} y;show oK C hd hsz ?_;have ne:c.objs.size≠e:=fZ (bA y);have D:=lV hd (·.setIfInBounds 1 (aZ c.objs.size));have O:=hX (nK (·.setIfInBounds 1 (aZ c.objs.size))) C (pJ D);have T:=(gM (c.push {cls:=.type "traceback",dict:=MS,data:=.fields m}) (nK (·.setIfInBounds 1 (aZ c.objs.size))) (eT ne)).trans (bK c rfl);have kp:∀b o,b≠e->c.get? b=KE o->((c.push {cls:=.type "traceback",dict:=MS,data:=.fields m}).update e (nK (·.setIfInBounds 1 (aZ c.objs.size)))).get? b=KE o:=by
  intro b o U q;rw[gM _ _ (eT U)];show aF _ q
 have G:∀b o,s.heap.get? b=KE o->(∀vs,o.data≠.fields vs)->b≠e:=by
  intro b o q z w;subst w;rw[i]at q;cases q;show z vs hd
 show h _ {λb o q=>kp b o (λw=>by rw[w,p]at q;cases q) (k1 b o q),p,d.of_keeps λb o q z=>?_,?_} λb o q z=>?_;{let{H,n}:=g.2.2 b o q;show{_,kp b _ (G b o q z) n,rfl}};{show{_,_,O,Obj.cls_mapFields _ _,afn _ _,D,by simpa using hsz,c.objs.size,_,_,by simp[hsz],k1.fresh,ne,T,rfl,x}};{let{H,n}:=g.2.2 b o q;show{H,kp b _ (G b o q z) n}}
def note
  (j:A.frames=KE (env::outer)) (f:env.frame=KE L) (x:XAt B (env::outer) e cls dct m s.heap) (C:m=MS\/m=KE .none)
  (h:∀h',XAt B (env::outer) e cls dct (KE (jC L)) h'->s.heap.UpToSlots h'->Q Unit.unit {s with heap:=h'}):aJ M A (noteFrame (.ref e) env) Q E s:=by
 let{k,en,l,H,vs,a,rfl,rfl,hd,hsz,n}:=x;unfold noteFrame;simp only[f];rcases C with rfl | rfl;{show aA (dD a hd (show vs[1]?=KE .none from n) ?_);rw[M' #v[]];show entry j l f a k en hd hsz h}
 ·let{T,g,c,D,nT,ne,i,dT,p}:=(show ∃T g c,vs[1]?=KE (.ref T)/\B.get? T=MS/\T≠e/\s.heap.get? T=KE g/\g.data=.fields c/\c[3]?=KE .none from n);show aA (dD a hd D ?_);rw[MZ (show(aZ T != fO)=MT from by simp)];show aA (dD i dT p ?_);rw[M' (show ¬((fO==jC L)=MT)from by simp[jC])];show aA (oK i dT (Array.getElem?_eq_some_iff.mp p).1 ?_);have d:∀b,b≠T->(s.heap.update T (nK (·.setIfInBounds 3 fO))).get? b=s.heap.get? b:=λb G=>gM _ _ (eT G);have r:∀b o,s.heap.get? b=KE o->(∀vs,o.data≠.fields vs)->b≠T:=by
   intro b o q z w;subst w;rw[i]at q;cases q;show z c dT
  show entry j (l.of_keeps λb o q z=>{o,(d b (r b o q z)).trans q,rfl}) f ((d e (eT ne)).trans a) (λb o q=>(d b λw=>by rw[w,nT]at q;cases q).trans (k b o q)) en hd hsz λh' y u=>?_;show h h' y λb o q z=>u b o ((d b (r b o q z)).trans q) z
def land (x:XAt B l e cls dct (KE f) s.heap)
  (h:∀h',XAt B l e cls dct (KE .none) h'->s.heap.UpToSlots h'->Q Unit.unit {s with heap:=h'}):aJ M A (setFlight (.ref e) MS) Q E s:=by
 let{k,en,p,r,vs,i,rfl,rfl,hd,hsz,u}:=x;let{T,d,a,j,nT,ne,g,dT,y}:=(show ∃T d a,vs[1]?=KE (.ref T)/\B.get? T=MS/\T≠e/\s.heap.get? T=KE d/\d.data=.fields a/\a[3]?=KE f from u);have m:3<a.size:=(Array.getElem?_eq_some_iff.mp y).1;have c:∀b,b≠T->(s.heap.update T (nK (·.setIfInBounds 3 ((MS:Option MV).elim fO λf=>jC f)))).get? b=s.heap.get? b:=λb C=>gM _ _ (eT C);have n:∀b o,s.heap.get? b=KE o->(∀vs,o.data≠.fields vs)->b≠T:=by
  intro b o q z w;subst w;rw[g]at q;cases q;show z a dT
 unfold setFlight;show aA (dD i hd j ?_);rw[MZ (show(aZ T != fO)=MT from by simp)];show oK g dT m (h _ {λb o q=>(c b λw=>by rw[w,nT]at q;cases q).trans (k b o q),en,p.of_keeps λb o q z=>{o,(c b (n b o q z)).trans q,rfl},?_} λb o q z=>{o.slots,(c b (n b o q z)).trans q});show{r,vs,(c e (eT ne)).trans i,rfl,rfl,hd,hsz,T,_,_,j,nT,ne,hX _ g (pJ (lV dT _)),lV dT _,by simp[m]}
def leave
  (b:A.frames=KE (env::outer)) (c:env.frame=KE L) (x:XAt B (env::outer) e cls dct a s.heap) (d:a=MS\/a=KE .none)
  (h:∀h',XAt B outer e cls dct (KE .none) h'->s.heap.UpToSlots h'->Q Unit.unit {s with heap:=h'}):aJ M A (leaving env (.ref e)) Q E s:=by
 unfold leaving;show aA (note b c x d λm f g=>land f λi j l=>?_);show h i j.drop (g.trans l)
end
open Sem (wp)
abbrev qh {α:Type}(M:Model)(h:MW)(t:Sem α)(r:α):Prop:=
 ∀A Q E s,(∀b o,h.get? b=KE o->s.heap.get? b=KE o)->Q r s->aJ M A t Q E s
section
variable {prog:aQ}{w:bC}{A:bU}{E:aL->aG->Prop}{h:MW}{g:Array mE}{d:Drawn}{t:Nat}{os:vZ}
variable {nm q:Str}{C N:MV}{bs bm CL:AW}{hdct:Bool}{sn:AZ}{sub:AW}{ab:Bool}{col:Option Bool}{dd:Option MV}{k0 k1 k2 k3 k5:AK}{B newId zI:String}
def afo (F:oC B newId zI CL)(b:bm.contains (.type B)=MT)
  (a:h.get? C=KE (eR nm q C N bs bm hdct sn sub ab col dd k0 k1 k2 k3 k5 newId)) (c:Q Unit.unit #v[h,g,d,t,os]):aJ M A (gJ newId {.ref C::rest,[]}) Q E #v[h,g,d,t,os]:=by
 have e:(aZ C::bm).contains (.type B)=MT:=(by rw[eB,b,jZ]);have f:=F.noStar;simp only[gJ,F.newKind,F.newSplit,F.newRow]
 repeat (first
   |show cU a ?_
   | (show gR a ?_;rw[e])
   |show wpAny_staticBase_exc a ?_
   |show wpAny_madeBy_exc a ?_
   |simp only[bne_self_eq_false,fU,if_false]
   |wp_step)
 show c
def afp (F:oC B newId zI CL)(b:bm.contains (.type B)=MT)(c:bm.contains (.type "AttributeError")=MU)(e:bm.contains (.type "NameError")=MU)
  (a:h.get? C=KE (eR nm q C N bs bm hdct sn sub ab col dd k0 k1 k2 k3 k5 newId))
  (f:R (.ok (.ret (.ref (h.objs.size+1)))) ⟨(h.push {cls:=.type "tuple",data:=.seq rest.toArray}).push {cls:=.ref C,data:=.fields #[.ref h.objs.size,.none,.none,.none,.bool MU,.none]},g,d,t,os⟩) (hrest:rest.length<=sizeLine) :
  kQ (aT prog w) A (.builtin newId {.ref C::rest,[]}) R #v[h,g,d,t,os]:=by
 have m:=F.ends;have i:(aZ C::bm).contains (.type B)=MT:=(by rw[eB,b,jZ]);have j:(aZ C::bm).contains (.type "AttributeError")=MU:=(by rw[eB,c];rfl);have l:(aZ C::bm).contains (.type "NameError")=MU:=(by rw[eB,e];rfl);show codeAny_builtinAt F.entry ?_;unfold fW.«BaseException.__new__»;show wpAt_bind ?_;change wpAt _ _ _ (stack >>= _) _ _ _;show wpAt_bind (wpAt_stack λp below=>wpAt_of_wpAny ?_)
 wp_walk
 show wpAt_of_wpAny ?_;rw[F.owner]
 repeat (first
   |with_reducible show wpAny_madeHere_exc F.canon a ?_
   |with_reducible show cU a ?_
   | (with_reducible show gR a ?_;first | rw[i] | rw[j] | rw[l])
   |wp_step)
 change R _ _;rw[fJ];show f
def Tf (F:oC B newId zI CL)(i:bm.contains (.type B)=MT)(m:bm.contains (.type "AttributeError")=MU)(n:bm.contains (.type "NameError")=MU)
  (a:h.get? C=KE (eR nm q C N bs bm hdct sn sub ab col dd k0 k1 k2 k3 k5 newId)) (hi:qh (aT prog w) h (gH (.ref C) "__init__") (KE (.ref j)))
  (p:h.get? j=KE s) (u:s.cls=.type "function")
  (y:∀h' e,h.objs.size<=e->Heap.MadeExcOf h h' e (.ref C) rest->aJ (aT prog w) A (call (.ref j) (.ref e::rest)) (λr s'=>r=.none/\Q (.done (.ret (.ref e))) s') E #v[h',g,d,t,os]) (hrest:rest.length<=sizeLine) :
  aJ (aT prog w) A (fW.«type.__call__» {.ref C::rest,[]}) Q E #v[h,g,d,t,os]:=by
 repeat (first
   |with_reducible show cU a ?_
   |with_reducible show wpAny_madeBy_exc a ?_
   |wp_step)
 show codeAny_call_builtin_code (rC _ F.quiet) (afo F i a ?_);show afp F i m n a ?_ hrest;change aJ _ _ _ _ _ _;have kp:∀b o,h.get? b=KE o->((h.push {cls:=.type "tuple",data:=.seq rest.toArray}).push {cls:=.ref C,data:=.fields #[.ref h.objs.size,.none,.none,.none,.bool MU,.none]}).get? b=KE o:=
  λb o z=>aF _ (aF _ z)
 have f:=kp _ _ a;have c:=kp _ _ p;have l:((h.push {cls:=.type "tuple",data:=.seq rest.toArray}).push {cls:=.ref C,data:=.fields #[.ref h.objs.size,.none,.none,.none,.bool MU,.none]}).get? (h.objs.size+1)
   = KE {cls:=.ref C,data:=.fields #[.ref h.objs.size,.none,.none,.none,.bool MU,.none]}:=by heap_get
 have D:(aZ C::bm).contains (.ref C)=MT:=∅;unfold qB
 repeat (first
   |with_reducible show cU l ?_
   | (with_reducible show gR f ?_;rw[D])
   |wp_step)
 change aJ _ _ (gH (.ref C) _) _ _ _;show hi _ _ _ _ kp ?_;show gK (aA ?_);unfold bindSpecial;show aA (kX (T:="function") {_,c,u} ?_);rw[MZ #v[]];show WQ (aA (dW (y _ (h.objs.size+1) (sY _) {kp,mY (sY _),h.objs.size,l,mY (aI _),?_}) (λr s' G=>?_) λ_ _ x=>x));{show aF _ (Heap.get?_push_at rfl rfl)}
 ·obtain⟨rfl,H⟩:_:=G
  wp_walk
  show H
def Wo (F:oC B newId zI CL)(c:bm.contains (.type B)=MT)(f:bm.contains (.type "AttributeError")=MU)(i:bm.contains (.type "NameError")=MU)
  (a:h.get? C=KE (eR nm q C N bs bm hdct sn sub ab col dd k0 k1 k2 k3 k5 newId)) (hi:qh (aT prog w) h (gH (.ref C) "__init__") (KE (.ref b)))
  (j:h.get? b=KE l) (m:l.cls=.type "function")
  (n:∀h' e,h.objs.size<=e->Heap.MadeExcOf h h' e (.ref C) rest->aJ (aT prog w) (A.under (.builtin "type.__call__" {.ref C::rest,[]})) (call (.ref b) (.ref e::rest)) (λr s'=>r=.none/\Q (.ref e) s') E #v[h',g,d,t,os]) (hrest:rest.length<=sizeLine) :
  aJ (aT prog w) A (call (.ref C) rest) Q E #v[h,g,d,t,os]:=by
 have s:=tc_lookup;have u:=tc_bind (.ref C);have x:(⟨h,g,d,t,os⟩:aG).TypeIs (.ref C) "type":={_,a,rfl};show pR (codeAny_of_tree ?_);change aJ _ _ (callAny (.ref C) _) _ _ _
 repeat (any_goals (first
   |assumption
   |with_reducible show cU a ?_
   |wp_step))
 show{rfl,?_};show codeAny_call_builtin_at (rC _ ⋯) entry_typeCall (wpAny_check_type_call_sub a (Tf (hrest:=hrest) F c f i a hi j m λh' e sz p=>?_));show n h' e sz p
def aad (F:oC B newId zI CL)(f:bm.contains (.type B)=MT)
  (c:h.get? C=KE (eR nm q C N bs bm hdct sn sub ab col dd k0 k1 k2 k3 k5 i)) (j:h.get? e=KE l) (m:l.cls=.ref C) (p:Q Unit.unit #v[h,g,d,t,os]) :
  aJ M A (gJ zI {.ref e::rest,[]}) Q E #v[h,g,d,t,os]:=by
 have r:(aZ C::bm).contains (.type B)=MT:=(by rw[eB,f,jZ]);have s:=F.noStar;simp only[gJ,F.initKind,F.initSplit,F.initRow]
 repeat (first
   | (with_reducible show cU j ?_;rw[m])
   |with_reducible show cU c ?_
   | (with_reducible show gR c ?_;rw[r])
   |wp_step)
 show nL ?_;rw[show ∀a b n,Bind.check {.positional,"*",B,.self,[{"args",.varPos,MU}]} a b n (sF (λx=>x.fst) ({pos:=.ref e::rest}:Args).kw)=pure Unit.unit from λa b n=>check_star_args _ _ _ _ _ _];show WQ p
def Wp (F:oC B newId zI CL)(c:bm.contains (.type B)=MT)
  (f:h.get? C=KE (eR nm q C N bs bm hdct sn sub ab col dd k0 k1 k2 k3 k5 i)) (a:h.get? e=KE {cls:=.ref C,dict:=dct,data:=.fields #[.ref n,.none,.none,.none,.bool MU,.none]}) (hrest:rest.length<=sizeLine)
  (j:∀h' l,(∀b o,b≠e->h.get? b=KE o->h'.get? b=KE o)->h'.get? e=KE {cls:=.ref C,dict:=dct,data:=.fields #[.ref l,.none,.none,.none,.bool MU,.none]}->Q .none #v[h',g,d,t,os]) :
  aJ (aT prog w) A (call (.builtin zI) (.ref e::rest)) Q E #v[h,g,d,t,os]:=by
 show pR (kM F.init.plain F.initEntry (aad F c f a rfl ?_))
 wp_walk
 show j _ h.objs.size (λb o m z=>?_) ?_;{rw[gM _ _ (eT m)];show aF _ z};{rw[hX _ (aF _ a) rfl];rfl}
end
open Sem (wp)
open Builtin Builtin.ObjectAttr
section
variable {prog:aQ}{w:bC}{A:bU}{E:aL->aG->Prop}{h:MW}{g:Array mE}{d:Drawn}{t:Nat}{os:vZ}
variable {nm q:Str}{C N x:MV}{bs bm CL:AW}{sn:AZ}{sub:AW}{ab:Bool}{col:Option Bool}{dd:Option MV}{k0 k1 k2 k3 k5:AK}{B newId sa owner:String}{name:Str}{v:aL}
def afq (pass:∀self:aL,vW self "__setattr__" bm=pure Unit.unit)
  (n:h.get? C=KE (eR nm q C N bs bm MT sn sub ab col dd k0 k1 k2 k3 k5 newId)) (p:qh (aT prog w) h (gH (.ref C) name) MS)
  (f:h.get? x=KE o) (r:o.cls=.ref C) (i:∀c,o.data≠.cls c) (s:o.dict=MS)
  (D:∀h' t' a,h.get? a=MS->a≠x->h.objs.size<=a->h'.get? x=KE {o with dict:=KE a}->h'.Ns1 a (λy=>if y=name then KE v else MS)->(∀b u,b≠x->h.get? b=KE u->h'.get? b=KE u)->Q (.done (.ret .none)) #v[h',g,d,t',os]) :
  aJ (aT prog w) A (fW.«object.__setattr__» {[.ref x,.str name G,v],[]}) Q E #v[h,g,d,t,os]:=by
 have ps:=pass (.ref x);have H:∀b u,h.get? b=KE u->h.get? b=KE u:=λ_ _ z=>z;unfold fW.«object.__setattr__»
 repeat (first
   |rw[refuse_eq]
   | (rw[tK,ps])
   | (with_reducible show cU f ?_;rw[r])
   |with_reducible show wpAny_mroOf_exc n ?_
   |show p _ _ _ _ H ?_
   |wp_step)
 rw[s,M' (by simp[typeHasDict])]
 split
 ·rename_i z
  cases z
 split
 ·rename_i c z
  show NC z (i c)
 ·have l:(h.push {cls:=.type "dict",data:=.dict #[]}).get? x=KE o:=aF _ f;have j:x≠h.objs.size:=bN (bA f);show aA (wpAny_alloc' (aA (wpAny_update' l (WQ ?_))));have I:((h.push {cls:=.type "dict",data:=.dict #[]}).update x λo=>{cls:=o.cls,dict:=KE h.objs.size,data:=o.data,slots:=o.slots}).get? h.objs.size=KE {cls:=.type "dict",data:=.dict #[]}:=
   (qL _ _ _ _ j.symm).trans (Heap.get?_push_at rfl rfl)
  have nd:((h.push {cls:=.type "dict",data:=.dict #[]}).update x λo=>{cls:=o.cls,dict:=KE h.objs.size,data:=o.data,slots:=o.slots}).Ns h.objs.size (λ_=>MS):={_,#[],_,I,rfl,λe J=>NC J ∅,λ_=>rfl};change aJ _ _ (storeInDict h.objs.size (.str name G) name v) _ _ _;unfold storeInDict newKeyGuard;show aA (WQ (aA (uL (Heap.Ns1.of_empty nd) λh' m sz=>?_)));obtain⟨oD,KL,KM,L,O,T⟩:_:=m.count (Within.cons name v Within.nil);show aA (rS L (by rw[O];show rT (aV T (by rw[aS,kB,eP];omega))) ?_)
  wp_walk
  show D h' _ h.objs.size (mY (aI _)) j.symm (aI _) ?_ m λb u U z=>?_;{show(sz.2 x j).trans (hX _ l ?_);have fr:=(Heap.get?_some_iff.mp f).2;obtain⟨oc,od,Y,CI⟩:_:=o;cases Y<;>first | rfl | show fr};{show(sz.2 b (bN (bA z))).trans ((qL _ _ _ _ U).trans (aF _ z))}
def aae (pass:∀self:aL,vW self "__setattr__" bm=pure Unit.unit)
  (f:h.get? C=KE (eR nm q C N bs bm MT sn sub ab col dd k0 k1 k2 k3 k5 newId)) (i:qh (aT prog w) h (gH (.ref C) name) MS)
  (j:h.get? x=KE o) (l:o.cls=.ref C) (m:o.dict=KE a) (n:h.Ns1 a c) (hw:Within c ns) (hsz:ns.length<sizeLine)
  (p:∀h' t',h'.Ns1 a (λy=>if y=name then KE v else c y)->(∀b u,b≠a->h.get? b=KE u->h'.get? b=KE u)->Q (.done (.ret .none)) #v[h',g,d,t',os]) :
  aJ (aT prog w) A (fW.«object.__setattr__» {[.ref x,.str name r,v],[]}) Q E #v[h,g,d,t,os]:=by
 have ps:=pass (.ref x);have s:∀b u,h.get? b=KE u->h.get? b=KE u:=λ_ _ z=>z;unfold fW.«object.__setattr__»
 repeat (first
   |rw[refuse_eq]
   | (rw[tK,ps])
   | (with_reducible show cU j ?_;rw[l])
   |with_reducible show wpAny_mroOf_exc f ?_
   |show i _ _ _ _ s ?_
   |wp_step)
 rw[m];show WQ ?_;change aJ _ _ (storeInDict a (.str name r) name v) _ _ _;unfold storeInDict newKeyGuard;show aA (WQ (aA (uL n λh' e sz=>?_)));obtain⟨J,L,KM,D,G,H⟩:_:=e.count (Within.cons name v hw);show aA (rS D (by rw[G];show rT (aV H (by rw[aS];omega))) ?_)
 wp_walk
 show p h' _ e λb u I z=>(sz.2 b I).trans z
def Wq {o:Obj}{Q:Unit->aG->Prop}(c:StoreFacts B CL sa owner)(u:bm.contains (.type owner)=MT)
  (y:h.get? C=KE (eR nm q C N bs bm MT sn sub ab col dd k0 k1 k2 k3 k5 newId)) (j:qh (aT prog w) h (gH (.ref C) "__setattr__") (KE (.builtin sa)))
  (l:h.get? x=KE o) (m:o.cls=.ref C)
  (D:∀G t',aJ (aT prog w) A.in1 (fW.«object.__setattr__» {[.ref x,.str name G,v],[]}) (λfin s'=>∃r,fin=.done (.ret r)/\Q Unit.unit s') (λ_ _=>False) #v[h,g,d,t',os]) :
  aJ (aT prog w) A (vY (.ref x) name v) Q E #v[h,g,d,t,os]:=by
 have L:=c.slot.bind (.ref x);have H:(aZ C::bm).contains (.type owner)=MT:=(by rw[eB,u,jZ]);have I:∀b o,h.get? b=KE o->h.get? b=KE o:=λ_ _ z=>z;unfold vY callSpecial? specialOf
 repeat (any_goals (first
   |assumption
   | (with_reducible show cU l ?_;rw[m])
   |show j _ _ _ _ I ?_
   |wp_step))
 show kM c.slot.plain c.entry ?_;change aJ _ _ (gJ sa {[.ref x,.str name t,v],[]}) _ _ _;have n:=c.args (.ref x) (.str name t) v;have go:aJ (aT prog w) A.in1 (fW.«object.__setattr__» ⟨[.ref x,.str name t,v],[]⟩) (λfin s'=>match fin with
     | .done f=>(λr s'=>match r with | .ok (.ret v)=>aJ (aT prog w) A (pure (KE v)) (λa s'=>aJ (aT prog w) A (match a with | some val=>pure PUnit.unit | x=>unsupported "internal:no-__setattr__") Q E s') E s' | .ok a=>False | .error e=>E e s') (Except.ok f) s'
     | .again p=>p.quiet=MT/\kQ (aT prog w) A p (λr s'=>match r with | .ok (.ret v)=>aJ (aT prog w) A (pure (KE v)) (λa s'=>aJ (aT prog w) A (match a with | some val=>pure PUnit.unit | x=>unsupported "internal:no-__setattr__") Q E s') E s' | .ok a=>False | .error e=>E e s') s') (λe s'=>E e s') ⟨h,g,d,t+1,os⟩:=by
  show dW (D t (t+1)) (λfin s' z=>?_) λ_ _ z=>z.elim;obtain⟨r,rfl,z⟩:_:=z;show WQ (WQ z)
 simp only[gJ,c.kind,c.split];show aA ?_;unfold qB
 repeat (first
   | (with_reducible show cU l ?_;rw[m])
   | (with_reducible show gR y ?_;rw[H])
   |wp_step)
 cases i:Manifest.signature? sa with
 |none=>show WQ go
 |some s=>
  simp only[argsOk,i]at n;have J:Bind.checkArgs sa s ⟨[.ref x,.str name t,v],[]⟩=pure Unit.unit:=n;change aJ _ _ (Bind.checkArgs sa s {[.ref x,.str name t,v],[]}) _ _ _;rw[J];show WQ go
end
open Sem (wp)
section
variable {prog:aQ}{w:bC}{A:bU}{E:aL->aG->Prop}{h:MW}{g:Array mE}{d:Drawn}{t:Nat}{os:vZ}
variable {nm q:Str}{C N x:MV}{bs bm CL:AW}{hdct:Bool}{sn:AZ}{sub:AW}{ab:Bool}{col:Option Bool}{dd:Option MV}{k0 k1 k2 k3 k5:AK}{B newId:String}{name:Str}{v:aL}
def oga_x
  (p:h.get? C=KE (eR nm q C N bs bm MT sn sub ab col dd k0 k1 k2 k3 k5 newId)) (e:qh (aT prog w) h (gH (.ref C) name) MS)
  (a:h.get? x=KE o) (c:o.cls=.ref C) (hd:o.data=.fields vs) (f:o.dict=KE i) (j:h.Ns i l) (m:l name=KE v) (r:handedOut v=pure v) (s:Q (.done (.ret v)) #v[h,g,d,t,os]) :
  aJ (aT prog w) A (fW.«object.__getattribute__» {[.ref x,.str name y],[]}) Q E #v[h,g,d,t,os]:=by
 have n:∀b u,h.get? b=KE u->h.get? b=KE u:=λ_ _ z=>z
 repeat (any_goals (first
   |assumption
   | (with_reducible show cU a ?_;rw[c])
   |show e _ _ _ _ n ?_
   |wp_step))
 rw[hd];dsimp only;unfold instanceDict
 repeat (any_goals (first
   |assumption
   | (with_reducible show cU a ?_;rw[c])
   |wp_step))
 rw[f];show WQ ?_;show wpAny_nsGet j ?_;rw[m]
 repeat (any_goals (first
   |assumption
   |wp_step))
def Ws (b:h.get? C=KE (eR nm q C N bs bm hdct sn sub ab col dd k0 k1 k2 k3 k5 newId))(c:bm.contains (.type "BaseException")=MT)
  (e:h.get? x=KE o) (f:o.cls=.ref C) (i:Q Unit.unit #v[h,g,d,t,os]):aJ M A (gJ "BaseException.__getattribute__" {[.ref x,a],[]}) Q E #v[h,g,d,t,os]:=by
 have j:builtinKind "BaseException.__getattribute__"=KE .slot:=⋯;have l:splitId "BaseException.__getattribute__"=KE ("BaseException","__getattribute__"):=⋯;have m:(aZ C::bm).contains (.type "BaseException")=MT:=(by rw[eB,c];rfl);have n:=F.args_bexc_ga (.ref x) a;simp only[gJ,j,l];show aA ?_;unfold qB
 repeat (first
   | (with_reducible show cU e ?_;rw[f])
   | (with_reducible show gR b ?_;rw[m])
   |wp_step)
 show i
def get_x (FB:ExcAttrBase B CL)(j:bm.contains (.type "BaseException")=MT)
  (f:h.get? C=KE (eR nm q C N bs bm MT sn sub ab col dd k0 k1 k2 k3 k5 newId)) (l:qh (aT prog w) h (gH (.ref C) name) MS)
  (m:qh (aT prog w) h (gH (.ref C) "__getattribute__") (KE (.builtin "BaseException.__getattribute__"))) (n:qh (aT prog w) h (gH (.ref C) "__getattr__") MS)
  (c:h.get? x=KE o) (e:o.cls=.ref C) (hd:o.data=.fields vs) (p:o.dict=KE r) (s:h.Ns r y) (D:y name=KE v) (G:handedOut v=pure v) (J:Q v {h,g,d,t+1,os}) :
  aJ (aT prog w) A (vD (.ref x) name expr) Q E #v[h,g,d,t,os]:=by
 have L:=FB.ga.bind (.ref x);have O:(expr&&uV (fQ "BaseException.__getattribute__"))=MU:=(by cases expr<;>rfl);have H:(fQ "BaseException.__getattribute__"==fQ "object.__getattribute__")=MU:=⋯;have T:(uV (aZ C)&&fQ "BaseException.__getattribute__"==fQ "object.__getattribute__")=MU:=(by rw[H];rfl);have i:∀b u,h.get? b=KE u->h.get? b=KE u:=λ_ _ z=>z;unfold vD;show aA (wpAny_mkText ?_);have I:∀a,aJ (aT prog w) A (getAttrBy (.ref x) (.str name a) MT expr) Q E ⟨h,g,d,t+1,os⟩:=by
  intro a
  repeat (any_goals (first
    |assumption
    | (with_reducible show cU c ?_;rw[e])
    | (with_reducible show m _ _ _ _ i ?_)
    | (with_reducible show n _ _ _ _ i ?_)
    |wp_step))
  show kM FB.ga.plain F.entry_bexc_ga ?_;change aJ _ _ (gJ "BaseException.__getattribute__" {[.ref x,.str name a],[]}) _ _ _;show Ws f j c e ?_;change aJ _ _ (fW.«object.__getattribute__» {[.ref x,.str name a],[]}) _ _ _;show oga_x f l c e hd p s D G ?_
  repeat (any_goals (first
    |assumption
    |wp_step))
 show I _
end
open Sem (wp)
section
variable {M:Model}{A:bU}{E:aL->aG->Prop}{env:Env}{s:aG}
variable {nm q:Str}{C N:MV}{bs bm:AW}{hdct:Bool}{sn:AZ}{sub:AW}{ab:Bool}{col:Option Bool}{dd:Option MV}{k0 k1 k2 k3 k5:AK}{newId:String}
def P3 (f:bm.contains (.type "BaseException")=MT)(i:A.handled=MS)
  (h:aJ M A x (λv a=>∃e b dct,v=.ref e/\a.heap.get? C=KE (eR nm q C N bs bm hdct sn sub ab col dd k0 k1 k2 k3 k5 newId)/\a.heap.get? e=KE {cls:=.ref C,dict:=dct,data:=.fields #[.ref b,.none,.none,.none,.bool MU,.none]}/\E (.ref e) a) E s) :
  aJ M A (raiseStmt env (KE x) MS) Q E s:=by
 have j:(aZ C::bm).contains (.type "BaseException")=MT:=(by rw[eB,f,jZ]);unfold raiseStmt;show aA (dW h (λv a l=>?_) λ_ _ z=>z);obtain⟨e,b,dct,rfl,c,m,n⟩:_:=l;obtain⟨p,g,d,r,os⟩:_:=a
 repeat (first
   |with_reducible show cU m ?_
   |with_reducible show cU c ?_
   | (with_reducible show gR c ?_;rw[j])
   |wp_step)
 show wpAny_raiseNew_none i n
def Th (c:bm.contains (.type "BaseException")=MT)(d:A.handled=MS)
  (h:aJ M A (eval e env) (λv a=>∃x f dct,v=.ref x/\a.heap.get? C=KE (eR nm q C N bs bm hdct sn sub ab col dd k0 k1 k2 k3 k5 newId)/\a.heap.get? x=KE {cls:=.ref C,dict:=dct,data:=.fields #[.ref f,.none,.none,.none,.bool MU,.none]}/\E (.ref x) a) E s) :
  aJ M A (exec (.Raise (KE e) MS pos) env) Q E s:=by
 rw[arm_exec_Raise]
 first
  |show aA (lQ (P3 c d (aA (dW h (λv g b=>aA (lQ (WQ b))) λ_ _ z=>z))))
  | (simp only[evalOpt,Option.map];show aA (lQ (P3 c d (aA (dW h (λv g b=>aA (lQ (WQ b))) λ_ _ z=>z)))))
end
open Sem (wp)
section
variable {prog:aQ}{w:bC}{A:bU}{E:aL->aG->Prop}{s:aG}{env:Env}
def Wu
  (h:aJ (aT prog w) (A.mark (KE (.ref e))) (eval t env) (λc b=>qh (aT prog w) b.heap (excMatches (.ref e) c) MT/\
    aJ (aT prog w) (A.mark (KE (.ref e))) (setFlight (.ref e) MS) (λ_ g=>
      aJ (aT prog w) (A.mark (KE (.ref e))) (uK env n (.ref e)) (λ_ i=>
        aJ (aT prog w) (A.mark (KE (.ref e))) (execs (l::a) env) (λf j=>aJ (aT prog w) A (do bindName env n .none;qE env n pos) (λ_ m=>Q f m) (λ_ _=>False) j) (λ_ _=>False) i) (λ_ _=>False) g) (λ_ _=>False) b) (λ_ _=>False) s) :
  aJ (aT prog w) A (handleBy (.ref e) env (.ExceptHandler (KE t) (KE n) (l::a) pos::rest)) Q E s:=by
 show wpAny_handleBy_cons (codeAny_handlers_test (dW h (λc b d=>?_) λ_ _ z=>z.elim)) (by intro q;cases q);obtain⟨p,d⟩:_:=d;show p _ _ _ _ (λ_ _ z=>z) ?_;show codeAny_handlers_suite_as (dW d (λ_ g r=>dW r (λ_ i u=>dW u (λf j x=>?_) λ_ _ z=>z.elim) λ_ _ z=>z.elim) λ_ _ z=>z.elim);show dW x (λ_ _ z=>z) λ_ _ z=>z.elim
def gone (f:env.kindOf n=KE .local)(i:s.heap.Ns env.locals m)
  (g:(env.scope.kind == .class||(env.scope.kind == .module&&env.locals != env.globals))=MU)
  (h:∀h' u,h'.Ns env.locals (λx=>if x=n then u else m x)->fK env.locals s.heap h'->Q Unit.unit {s with heap:=h',toks:=s.toks+1}) :
  aJ (aT prog w) A (do bindName env n .none;qE env n pos) Q E s:=by
 show aA (wpAny_bindName (wpAny_storeName_local f i (λG d j=>?_) g));unfold qE;show nL (dW (wpAny_unbindName_local (E:=λ_ _=>False) (v:=.none) f d ∅ g λl u p r=>?_) (λ_ _ z=>z) λ_ _ z=>z.elim);show h l u ?_ ?_;{obtain⟨o,C,D,a,b,c,e⟩:_:=p;show{o,C,D,a,b,c,λy=>?_};rw[e y];by_cases q:y=n<;>simp[q]};{show j.trans r}
end
end Fly
namespace L2
open PySem PySem.Spec PyProof.Rows Fly
def jj (e C:MV)(dct:Option MV):HO:=.ext λh=>∃a,h.get? e=KE {cls:=.ref C,dict:=dct,data:=.fields #[.ref a,.none,.none,.none,.bool MU,.none]}
def r8 (e C:MV)(dct:Option MV):HO:=.ext λh=>∃a vs,h.get? e=KE a/\a.cls=.ref C/\a.dict=dct/\a.data=.fields vs
def XAs (H:Hp)(e C:MV)(fs:List (Str×V)):Prop:=∃a,(H e=KE (jj e C (KE a))\/H e=KE (r8 e C (KE a)))/\H a=KE (.xd fs)
section
variable {P:aQ}{w:bC}{H H':Hp}{h h':MW}{e C dx:MV}{dct:Option MV}
def Gq (q:h.get? e=KE {cls:=.ref C,dict:=dct,data:=.fields #[.ref a,.none,.none,.none,.bool MU,.none]}):ObjOk P w H h e (jj e C dct):=
 {#v[a,q],{_,q},λ_ _ ⟨t,z⟩ k=>{t,k _ z}}
def afr (q:h.get? e=KE a)(b:a.cls=.ref C)(hd:a.dict=dct)(c:a.data=.fields vs):ObjOk P w H h e (r8 e C dct):=
 {#v[a,vs,q,b,hd,c],{_,q},λ_ _ ⟨o,v,z,r⟩ k=>{o,v,k _ z,r}}
def o7 (x:HOk P w H h)(q:H e=KE (jj e C dct)):∃a,h.get? e=KE {cls:=.ref C,dict:=dct,data:=.fields #[.ref a,.none,.none,.none,.bool MU,.none]}:=(x e _ q).1
def Li (x:HOk P w H h)(q:H e=KE (r8 e C dct)):∃a vs,h.get? e=KE a/\a.cls=.ref C/\a.dict=dct/\a.data=.fields vs:=(x e _ q).1
end
def del (H:Hp)(e:MV):Hp:=λb=>if b=e then MS else H b
def Lj:del H e e=MS:=MZ rfl
def qi (h:b≠e):del H e b=H b:=M' h
def Sub (H H':Hp):Prop:=∀b o,H b=KE o->H' b=KE o
def CXx (P:aQ)(w:bC):CXT:=λouter H s E d s'=>∃e C a H' B,d=.ref e/\s'.os=s.os/\nO s'.gens/\XAt B outer e (.ref C) a (KE .none) s'.heap/\HOk P w H' B/\H' e=MS/\
 s.heap.get? e=MS/\Un (frs outer) [] H H' s.heap s'.heap/\(∀b o,s.heap.get? b=KE o->b ∉ frs outer->∃c,B.get? b=KE c/\(H b=MS->c=o))/\E (.ref C) a H'
def no0:b ∉ ([]:DV):=by simp
def afs {X:Cx}{s s':aG}{B m:MW}(I:Inv X j' σ H s)(hex:X.ex=[])(D:X.stack=X.e::X.outer)(E:X.e.frame=KE X.e.locals)
  (G:XAt B X.stack e (.ref C) J (KE .none) s'.heap) (x:XAt B l e (.ref C) J (KE .none) m) (up:s'.heap.UpToSlots m) (L:s.heap.get? e=MS)
  (un:Un (frs X.stack) [] H H' s.heap s'.heap) (old:∀b o,s.heap.get? b=KE o->b ∉ frs X.stack->∃c,B.get? b=KE c/\(H b=MS->c=o)) :
  X.s₀.heap.get? e=MS/\Un (frs X.outer) [] X.H₀ H' X.s₀.heap m/\(∀b o,X.s₀.heap.get? b=KE o->b ∉ frs X.outer->∃c,B.get? b=KE c/\(X.H₀ b=MS->c=o)):=by
 have nx:∀b:MV,b ∉ X.ex:=λb=>(by rw[hex];show no0);have y:frs X.stack=X.e.locals::frs X.outer:=(by rw[D];change tM _ (_::_)=_;rw[iZ,E];rfl);have N:∀b o,X.s₀.heap.get? b=KE o->b≠X.e.locals:=λb o q=>bN (bW (bA q) I.ok.above);have out:∀b o,X.s₀.heap.get? b=KE o->b ∉ frs X.outer->b ∉ frs X.stack:=λb o q a z=>by
  rw[y]at z;rcases aX.mp z with z | z;{show N b o q z};{show a z}
 have ins:∀b,b∈frs X.outer->b∈frs X.stack:=λb a=>(by rw[y];show aP _ a);have fr:∀b o,b∈frs X.outer->s'.heap.get? b=KE o->∃A,m.get? b=KE {o with slots:=A}:=λb o a q=>by
  obtain⟨_,c,f,O⟩:_:=G.frames.mem (ins b a);rw[q]at f;cases f;show up b o q O
 have p:∀b o,X.s₀.heap.get? b=KE o->b ∉ frs X.outer->∃c,B.get? b=KE c/\(X.H₀ b=MS->c=o):=λb o q a=>by
  obtain⟨i,d⟩:_:=I.base.there b o q (nx b);obtain⟨r,g,k2⟩:_:=old b i d (out b o q a);show{r,g,λn=>?_};have j:=I.base.keep b o q n a (nx b);rw[d]at j;cases j;show k2 (I.base.free b o q n (nx b))
 show{?_,{λb o q n a _=>?_,λb o q n a _=>?_,λb o q n _=>?_,λb o q _=>?_,λb xs q=>un.tups b xs (I.base.tups b xs q),λb o u q=>un.frzs b o u (I.base.frzs b o u q),λb ps q=>?_},p}
 ·cases q:X.s₀.heap.get? e with
  |none=>rfl
  |some o=>
   obtain⟨i,d⟩:_:=I.base.there e o q (nx e);rw[L]at d;cases d
 {obtain⟨c,f,Q⟩:_:=p b o q a;rw[Q n]at f;show x.stays b o f};{obtain⟨T,d⟩:_:=I.base.slot b o q n a (nx b);obtain⟨CJ,g⟩:_:=un.slot b _ d (I.base.free b o q n (nx b)) (ins b a) no0;obtain⟨w,j⟩:_:=fr b _ a g;show#v[w,j]};{obtain⟨i,d⟩:_:=I.base.there b o q (nx b);show un.free b i d (I.base.free b o q n (nx b)) no0};{by_cases a:b∈frs X.outer;{obtain⟨i,d⟩:_:=I.base.there b o q (nx b);obtain⟨r,g⟩:_:=un.there b i d no0;obtain⟨A,j⟩:_:=fr b r a g;show{_,j}};{obtain⟨c,f,_⟩:_:=p b o q a;show{c,x.stays b c f}}};{obtain⟨U,d⟩:_:=I.base.tbls b ps q;obtain⟨Y,g⟩:_:=un.tbls b _ d;show{U++Y,by rw[g,Array.append_assoc]}}
section
variable {P:aQ}{w:bC}{K:aE}{mg:Str->AK}{base:MW}{N:AZ}{wF:Str}{scope:lS}{f:MV}{cd:aL}{A:bU}{outer:List Env}{s0:aG}{H0:Hp}{E:XK}
def passX:oa (CXx P w) (rj (CXx P w) P w K mg base N wF scope f cd A outer s0 H0 E) E:=by
 intro p q H s r s' I c;obtain⟨e,C,d,H',B,rfl,os,bare,a,hok,g,i,un,old,j⟩:_:=c;show Fly.leave (s:=s') I.ok.frames rfl a (.inr rfl) λu b up=>?_;obtain⟨l,m,n⟩:_:=afs I rfl rfl rfl a b up i un old;show{e,C,d,H',B,rfl,os.trans I.os,bare,b,hok,g,l,m,n,j}
theorem Ja {h c a:MW}:∀{l:List Env},h.FunFrames c l->(∀L∈frs l,a.get? L=MS)->h.FunFrames a l
 | [],_,_=>trivial
 |env::l,⟨k,⟨L,o,b,_,d,hd⟩,r⟩,n=>by
  have e:frs (env::l)=L::frs l:=(by change tM _ (_::_)=_;rw[iZ,b];rfl);rw[e]at n;show{k,{L,o,b,n L (aR ..),d,hd},Ja r λL' z=>n L' (aP _ z)}
def ajn {Y:CW}{σ:St}{H:Hp}{s:aG}{e C:MV}{j:Option MV}(I:Inv (rj (CXx P w) P w K mg base N wF scope f cd A outer s0 H0 E) Y σ H s)(g:H e=KE (jj e C j))(h0:H0 e=MS)
  (hE:E (.ref C) j (del H e)):(rj (CXx P w) P w K mg base N wF scope f cd A outer s0 H0 E).xe (.ref e) s:=by
 obtain⟨t0,q⟩:_:=o7 I.hok g;have G:∀o,s0.heap.get? e=KE o->False:=λo z=>by
  have:=I.base.free e o z h0 no0;rw[g]at this;cases this
 have KS:s0.heap.get? e=MS:=by
  cases z:s0.heap.get? e with
  |none=>rfl
  |some o=>show(G o z).elim
 let st:=nI wF scope ‹s0› f cd::outer
 let M:Hp:=λb=>if b=e\/b∈frs st then KE (.own 0)else MS
 have l:∀{b},b≠e->b ∉ frs st->M b=MS:=λh1 J=>M' λz=>z.elim h1 J;have Me:M e≠MS:=by change(if e=e\/_ then _ else _)≠MS;rw[MZ (.inl rfl)];simp
 have Mf:∀b∈frs st,M b≠MS:=λb a=>by change(if b=e\/b∈frs st then _ else _)≠MS;rw[MZ (.inr a)];simp
 have O:∀b,M b≠MS->(nq s.heap M).get? b=MS:=λb n=>by
  cases z:(nq s.heap M).get? b with
  |none=>rfl
  |some o=>show NC (Gf z).2 n
 have stay:(nq s.heap M).StaysIn s.heap:=λb o z=>(Gf z).1;have fr:s.heap.FunFrames (nq s.heap M) st:=Ja I.stack λL hL=>O L (Mf L hL);have xa:XAt (nq s.heap M) st e (.ref C) j MS s.heap:={stay,O e Me,fr,_,_,q,rfl,rfl,rfl,(by change 1<6;decide),rfl};have trk:∀b o,H b=KE o->b ∉ frs st:=λb o z a=>by
  have:=I.stkFree b a;rw[z]at this;cases this
 have hok:HOk P w (del H e) (nq s.heap M):=λb o z=>by
  by_cases a:b=e;{subst a;rw[Lj]at z;cases z}
  ·rw[qi a]at z;show(I.hok b o z).stay (λc u hc y=>Cr y ?_) (λc y=>?_) λc xs y=>?_;{rcases hc with rfl | hc;{show l a (trk _ _ z)};{show l (λw=>by rw[w,g]at hc;cases hc) (trk _ _ hc)}}
   {rw[qi λw=>by rw[w,g]at y;cases y];show y};{rw[qi λw=>by rw[w,g]at y;cases y];show y}
 have Q:∀b o,s0.heap.get? b=KE o->b≠e:=λb o z w=>G o (w ▸ z);have nl:∀b o,s0.heap.get? b=KE o->b≠‹s0›:=λb o z=>bN (bA z);have p:frs st=‹s0›::frs outer:=rfl;have out:∀b o,s0.heap.get? b=KE o->b ∉ frs outer->b ∉ frs st:=λb o z a y=>by
  rw[p]at y;rcases aX.mp y with y | y;{show nl b o z y};{show a y}
 have old:∀b o,s0.heap.get? b=KE o->b ∉ frs outer->∃i,(nq s.heap M).get? b=KE i/\(H0 b=MS->i=o):=λb o z a=>by
  obtain⟨T,d⟩:_:=I.base.there b o z no0;show{T,Cr d (l (Q b o z) (out b o z a)),λn=>?_};have:=I.base.keep b o z n a no0;rw[d]at this;cases this;rfl
 show Fly.leave (s:=s) I.ok.frames rfl xa (.inl rfl) λJ r up=>?_;show{e,C,j,del H e,_,rfl,I.os,I.bare,r,hok,Lj,KS,{λb o z n a _=>?_,λb o z n a _=>?_,λb o z n _=>?_,λb o z _=>?_,λb xs z=>?_,λb o u z=>?_,λb ps z=>?_},old,hE};{obtain⟨i,z',k'⟩:_:=old b o z a;rw[k' n]at z';show r.stays b o z'};{obtain⟨sl,d⟩:_:=I.base.slot b o z n a no0;obtain⟨_,i,z',x⟩:_:=fr.mem (b:=b) (by change b∈frs st;rw[p];show aP _ a);rw[d]at z';cases z';obtain⟨U,D⟩:_:=up b _ d x;show#v[U,D]};{rw[qi (Q b o z)];show I.base.free b o z n no0};{by_cases a:b∈frs outer;{obtain⟨T,d⟩:_:=I.base.there b o z no0;obtain⟨_,i,z',x⟩:_:=fr.mem (b:=b) (by change b∈frs st;rw[p];show aP _ a);rw[d]at z';cases z';obtain⟨U,D⟩:_:=up b _ d x;show{_,D}};{obtain⟨i,z',_⟩:_:=old b o z a;show{i,r.stays b i z'}}}
 {have d:=I.base.tups b xs z;rw[qi λw=>by rw[w,g]at d;cases d];show d};{have d:=I.base.frzs b o u z;rw[qi λw=>by rw[w,g]at d;cases d];show d};{obtain⟨m,d⟩:_:=I.base.tbls b ps z;show{m,by rw[qi λw=>by rw[w,g]at d;cases d];show d}}
end
end L2
namespace VL
open PySem L2 PySem.Deep
structure B where
 P:aQ
 w:bC
 K:aE
abbrev _root_.L2.Cx.B (X:Cx):B:=#v[X.p,X.w,X.K]
inductive Tr where
 |v (x:V)
 |tup (l:List Tr)
 |lst (l:List Tr)
 |scr (l:List Tr)
 |dct (ks:D1) (l:List Tr)
 |dk (ks:List Key) (l:List Tr)
 |obj (C:MV) (fs:AZ) (l:List Tr)
 |xc (x:Str) (fs:List (Str×V))
abbrev _root_.EZ:=List (Option Tr)
abbrev _root_.D2:=List Tr
abbrev Tr.int (i:Int):Tr:=.v (.int i)
abbrev Tr.bl (b:Bool):Tr:=.v (.bl b)
abbrev Tr.str (x:Str):Tr:=.v (.str x)
abbrev Tr.non:Tr:=.v .non
mutual
inductive Rp (b:B)(F:Hp):V->Tr->Prop where
 |v {x:V}:oq x=MT->Rp b F x (.v x)
 |tup {a:MV}{xs:EX}{l:D2}:SqT b.K F a xs->Rps b F xs l->Rp b F (.ref a) (.tup l)
 |lst {a:MV}{xs:EX}{l:D2}:F a=KE (.lst xs)->Rps b F xs l->Rp b F (.ref a) (.lst l)
 |scr {a:MV}{xs:EX}{l:D2}:SqL b.K F a xs->Rps b F xs l->Rp b F (.ref a) (.scr l)
 |dct {a:MV}{kvs:DE}{ks:D1}{l:D2}:DictAt b.P b.w b.K F a kvs->ks=kvs.map (·.1)->Rps b F (kvs.map (·.2.2)) l->Rp b F (.ref a) (.dct ks l)
 |dk {a:MV}{kvs:List (Key×V)}{ks:List Key}{l:D2}:F a=KE (.dK kvs)->ks=kvs.map (·.1)->Rps b F (kvs.map (·.2)) l->Rp b F (.ref a) (.dk ks l)
 |obj {a C dx:MV}{fs:List (Str×V)}{ns:AZ}{l:D2}:F a=KE (.ins C dx fs)->ns=fs.map (·.1)->Rps b F (fs.map (·.2)) l->Rp b F (.ref a) (.obj C ns l)
 |xc {a D:MV}{x:Str}{fs:List (Str×V)}:XAs F a D fs->bS b.K bF x=KE (KE (.ref D))->Rp b F (.ref a) (.xc x fs)
inductive Rps (b:B)(F:Hp):EX->D2->Prop where
 |nil:Rps b F [] []
 |cons {x:V}{xs:EX}{d:Tr}{l:D2}:Rp b F x d->Rps b F xs l->Rps b F (x::xs) (d::l)
end
section
variable {b:B}{F F' H H':Hp}
def yt (h:SqL K H a xs)(e:Same H H'):SqL K H' a xs:=by
 rcases h with(h | ⟨o,h⟩) | h;{show .inl (.inl (e _ _ h))};{show .inl (.inr {o,e _ _ h})};{show .inr h}
def C1 (h:XAs F a D fs)(e:Same F F'):XAs F' a D fs:=by
 obtain⟨c,d,f⟩:_:=h;show{c,d.imp (e _ _) (e _ _),e _ _ f}
mutual
theorem Rp.mono (e:Same F F'):∀{x d},Rp b F x d->Rp b F' x d
 |_,_,.v h=>.v h
 |_,_,.tup h r=>.tup (h.same e) (Rps.mono e r)
 |_,_,.lst h r=>.lst (e _ _ h) (Rps.mono e r)
 |_,_,.scr h r=>.scr (yt h e) (Rps.mono e r)
 |_,_,.dct h k r=>.dct (h.mono e) k (Rps.mono e r)
 |_,_,.dk h k r=>.dk (e _ _ h) k (Rps.mono e r)
 |_,_,.obj h k r=>.obj (e _ _ h) k (Rps.mono e r)
 |_,_,.xc h k=>.xc (C1 h e) k
theorem Rps.mono (e:Same F F'):∀{xs l},Rps b F xs l->Rps b F' xs l
 |_,_,.nil=>.nil
 |_,_,.cons h r=>.cons (Rp.mono e h) (Rps.mono e r)
end
theorem Rps.length:∀{xs l},Rps b F xs l->xs.length=l.length
 |_,_,.nil=>rfl
 |_,_,.cons _ r=>by rw[aS,aS,r.length]
theorem Rps.append:∀{xs ys l m},Rps b F xs l->Rps b F ys m->Rps b F (xs++ys) (l++m)
 |_,_,_,_,.nil,s=>s
 |_,_,_,_,.cons h r,s=>.cons h (r.append s)
theorem Rps.take:∀{xs l},Rps b F xs l->∀n,Rps b F (xs.take n) (l.take n)
 |_,_,.nil,n=>by rw[List.take_nil,List.take_nil];show .nil
 |_,_,.cons h r,0=>.nil
 |_,_,.cons h r,n+1=>.cons h (r.take n)
theorem Rps.drop:∀{xs l},Rps b F xs l->∀n,Rps b F (xs.drop n) (l.drop n)
 |_,_,.nil,n=>by rw[List.drop_nil,List.drop_nil];show .nil
 |_,_,.cons h r,0=>.cons h r
 |_,_,.cons h r,n+1=>r.drop n
theorem Rps.reverse:∀{xs l},Rps b F xs l->Rps b F xs.reverse l.reverse
 |_,_,.nil=>.nil
 |_,_,.cons h r=>by rw[kJ,kJ];show(r.reverse).append (.cons h .nil)
theorem Rps.get:∀{xs:EX}{l:D2}{i:Nat}{d:Tr},Rps b F xs l->l[i]?=KE d->∃x,xs[i]?=KE x/\Rp b F x d
 |_,_,i,_,.nil,e=>by simp at e
 |_,_,0,_,.cons h r,e=>by simp at e;subst e;show{_,rfl,h}
 |_,_,i+1,_,.cons h r,e=>by
  obtain⟨x,a,c⟩:_:=Rps.get (i:=i) r (⇑e);show{x,by simpa using a,c}
theorem Rps.set (h':Rp b F y e):∀{xs l} i,Rps b F xs l->Rps b F (xs.set i y) (l.set i e)
 |_,_,_,.nil=>.nil
 |_,_,0,.cons _ r=>.cons h' r
 |_,_,i+1,.cons h r=>.cons h (Rps.set h' i r)
def Rp.vI (h:Rp b F x (.v y)):x=y/\oq y=MT:=by cases h with | v h=>show#v[rfl,h]
def Rp.xcI (h:Rp b F x (.xc y fs)):∃a D,x=.ref a/\XAs F a D fs/\bS b.K bF y=KE (KE (.ref D)):=by cases h with | xc h k=>show{_,_,rfl,h,k}
def Rp.tupI (h:Rp b F x (.tup l)):∃a xs,x=.ref a/\SqT b.K F a xs/\Rps b F xs l:=by cases h with | tup h r=>show{_,_,rfl,h,r}
def Rp.scrI (h:Rp b F x (.scr l)):∃a xs,x=.ref a/\SqL b.K F a xs/\Rps b F xs l:=by cases h with | scr h r=>show{_,_,rfl,h,r}
def Rp.lstI (h:Rp b F x (.lst l)):∃a xs,x=.ref a/\F a=KE (.lst xs)/\Rps b F xs l:=by cases h with | lst h r=>show{_,_,rfl,h,r}
end
structure Wd where
 F:Hp
 H:Hp
 C:Nat->Option MV
def CellOk (b:B)(F H:Hp)(a:MV):Tr->Prop
 | .lst l=>∃xs,H a=KE (.lst xs)/\Rps b F xs l
 | .dct ks l=>∃kvs c,H a=KE (mr b.P b.w a c kvs)/\(∀e∈kvs,KeyAt b.K F e.2.1 e.1)/\kvs.length<=sizeLine/\(a==gW)=MU/\ks=kvs.map (·.1)/\Rps b F (kvs.map (·.2.2)) l
 | .dk ks l=>∃kvs,H a=KE (.dK kvs)/\ks=kvs.map (·.1)/\Rps b F (kvs.map (·.2)) l
 | .obj C ns l=>∃d fs,H a=KE (.ins C d fs)/\ns=fs.map (·.1)/\Rps b F (fs.map (·.2)) l
 |_=>False
inductive Ev where
 |val (d:Tr)
 |new (d:Tr)
 |cel (j:Nat)
inductive Wt where
 |v (d:Tr)
 |c (j:Nat)
abbrev _root_.FQ:=List (Option Wt)
structure M where
 loc:FQ
 cel:EZ
def Rev (b:B)(O W:Wd)(x:V):Ev->Prop
 | .val d=>Rp b W.F x d
 | .new d=>∃a,x=.ref a/\O.H a=MS/\W.F a=MS/\(∀j,W.C j≠KE a)/\CellOk b W.F W.H a d
 | .cel j=>∃a,x=.ref a/\∀c,W.C j=KE c->c=a
def Rwt (b:B)(W:Wd)(x:V):Wt->Prop
 | .v d=>Rp b W.F x d
 | .c j=>∃a,x=.ref a/\W.C j=KE a
structure Wok (b:B)(W:Wd)(cel:EZ):Prop where
 sub:Same W.F W.H
 cell:∀j d,cel[j]?=KE (KE d)->∃a,W.C j=KE a/\W.F a=MS/\CellOk b W.F W.H a d
 live:∀j a,W.C j=KE a->∃d,cel[j]?=KE (KE d)
 dist:∀j k a,W.C j=KE a->W.C k=KE a->j=k
structure Rel (b:B)(W:Wd)(m:M)(σ:St):Prop where
 ok:Wok b W m.cel
 loc:∀(i:Nat)(w:Wt),m.loc[i]?=KE (KE w)->∃x,σ[i]?=KE (KE x)/\Rwt b W x w
 len:m.loc.length=σ.length
def imm:HO->Prop
 | .tup _=>True
 | .frz _ _=>True
 | .xd _=>True
 |_=>False
structure Le (W W':Wd):Prop where
 same:Same W.F W'.F
 fr:∀a o,W.H a=KE o->(∀j,W.C j≠KE a)->W'.H a=KE o
 nw:∀a,W.F a=MS->W'.F a≠MS->W.H a=MS\/(∃j,W.C j=KE a)\/∃o,W.H a=KE o/\imm o
 cl:∀j a,W'.C j=KE a->W.C j=KE a\/(W.H a=MS/\j≠0)
 dm:∀a,W'.H a=MS->W.H a=MS
structure Lx (W W':Wd):Prop extends Le W W' where
 cx:∀j a,W'.C j=KE a->W.C j=KE a
def Le.refl (W:Wd):Le W W:={λ_ _ h=>h,λ_ _ h _=>h,λ_ h h'=>NC h h',λ_ _ h=>.inl h,λ_ h=>h}
theorem Lx.refl (W:Wd):Lx W W:={Le.refl W,λ_ _ h=>h}
def Le.trans (h:Le A B')(k:Le B' C):Le A C where
 same:=λa o e=>k.same a o (h.same a o e)
 fr:=λa o e n=>k.fr a o (h.fr a o e n) λj e'=>(h.cl j a e').elim (n j) λz=>by rw[e]at z;cases z.1
 nw:=λa e n=>by
  cases q:B'.F a with
  |some o=>show h.nw a e (by rw[q];show λz=>by cases z)
  |none=>
   rcases k.nw a q n with z | ⟨j,z⟩ | ⟨o,z,im⟩;{show .inl (h.dm a z)};{rcases h.cl j a z with z | z;{show .inr (.inl #v[j,z])};{show .inl z.1}}
   ·cases qa:A.H a with
    |none=>show .inl rfl
    |some u=>
     by_cases c:∃j,A.C j=KE a;{show .inr (.inl c)};{have:=h.fr a u qa λj e'=>c #v[j,e'];rw[z]at this;cases this;show .inr (.inr #v[o,rfl,im])}
 cl:=λj a e=>by
  rcases k.cl j a e with z | z;{show h.cl j a z};{show .inr {h.dm a z.1,z.2}}
 dm:=λa z=>h.dm a (k.dm a z)
theorem Lx.trans (h:Lx A b)(k:Lx b C):Lx A C:={h.toLe.trans k.toLe,λj a e=>h.cx j a (k.cx j a e)}
section
variable {b:B}{W W':Wd}{x:V}
def jd (h:KeyAt K H c ks)(e:Same H H'):KeyAt K H' c ks:=h.tups (Tups.of e)
theorem CellOk.mono (h:CellOk b F H a d)(e:Same F F')(k:∀o,H a=KE o->H' a=KE o):CellOk b F' H' a d:=by
 cases d with
 |lst l=>obtain⟨xs,c,f⟩:_:=h;show{xs,k _ c,f.mono e}
 |dct ks l=>obtain⟨kvs,i,c,f,g,j,m,n⟩:_:=h;show{kvs,i,k _ c,λx p=>jd (f x p) e,g,j,m,n.mono e}
 |dk ks l=>obtain⟨kvs,c,f,g⟩:_:=h;show{kvs,k _ c,f,g.mono e}
 |v _=>show h.elim
 |tup _=>show h.elim
 |scr _=>show h.elim
 |xc _ _=>show h.elim
 |obj C ns l=>obtain⟨q,fs,c,f,g⟩:_:=h;show{q,fs,k _ c,f,g.mono e}
def CellOk.has (h:CellOk b F H a d):∃o,H a=KE o:=by
 cases d with
 |lst l=>obtain⟨xs,c,e⟩:_:=h;show{_,c}
 |dct ks l=>obtain⟨kvs,f,c,_⟩:_:=h;show{_,c}
 |dk ks l=>obtain⟨kvs,c,_⟩:_:=h;show{_,c}
 |v _=>show h.elim
 |tup _=>show h.elim
 |scr _=>show h.elim
 |xc _ _=>show h.elim
 |obj C ns l=>obtain⟨g,fs,c,_⟩:_:=h;show{_,c}
def CellOk.nimm (h:CellOk b F H a d):∀o,H a=KE o->¬imm o:=λo e=>by
 cases d with
 |lst l=>obtain⟨xs,c,f⟩:_:=h;rw[c]at e;cases e;show λz=>z
 |dct ks l=>obtain⟨kvs,g,c,_⟩:_:=h;rw[c]at e;cases e;show λz=>z
 |dk ks l=>obtain⟨kvs,c,_⟩:_:=h;rw[c]at e;cases e;show λz=>z
 |v _=>show h.elim
 |tup _=>show h.elim
 |scr _=>show h.elim
 |xc _ _=>show h.elim
 |obj C ns l=>obtain⟨i,fs,c,_⟩:_:=h;rw[c]at e;cases e;show λz=>z
def CellOk.rp (h:CellOk b F H a d)(e:Same F H):Rp b H (.ref a) d:=by
 cases d with
 |lst l=>obtain⟨xs,c,f⟩:_:=h;show .lst c (f.mono e)
 |dct ks l=>obtain⟨kvs,i,c,f,g,j,m,n⟩:_:=h;show .dct {#v[i,c],λx p=>jd (f x p) e,g,j} m (n.mono e)
 |dk ks l=>obtain⟨kvs,c,f,g⟩:_:=h;show .dk c f (g.mono e)
 |v _=>show h.elim
 |tup _=>show h.elim
 |scr _=>show h.elim
 |xc _ _=>show h.elim
 |obj C ns l=>obtain⟨q,fs,c,f,g⟩:_:=h;show .obj c f (g.mono e)
def eh (F H:Hp)(a:MV):Hp:=λx=>if x=a then H a else F x
def wq (h:F a=MS):Same F (eh F H a):=λx o e=>by
 unfold eh;by_cases c:x=a;{subst c;rw[h]at e;cases e};{rw[M' c];show e}
def Ab (h:Same F H):Same (eh F H a) H:=λx o e=>by
 unfold eh at e;by_cases c:x=a;{subst c;rw[MZ rfl]at e;show e};{rw[M' c]at e;show h _ _ e}
def CellOk.keep (h:CellOk b F H a d)(n:F a=MS):Rp b (eh F H a) (.ref a) d:=
 (h.mono (F':=eh F H a) (H':=eh F H a) (wq n) λo e=>by unfold eh;rw[MZ rfl];show e).rp λ_ _ e=>e
theorem Rev.mono (h:Rev b O W x i)(l:Lx W W'):Rev b O W' x i:=by
 cases i with
 |val d=>show Rp.mono l.same h
 |new d=>
  obtain⟨a,rfl,h0,c,f,g⟩:_:=h;obtain⟨o,n⟩:_:=g.has;show{a,rfl,h0,?_,λj e=>f j (l.cx j a e),g.mono l.same λo e=>l.fr a o e f};cases q:W'.F a with
  |none=>rfl
  |some r=>
   rcases l.nw a c (by rw[q];show λz=>by cases z)with z | ⟨j,z⟩ | ⟨u,z,p⟩;{rw[n]at z;cases z};{show NC z (f j)};{show NC p (g.nimm u z)}
 |cel j=>obtain⟨a,rfl,c⟩:_:=h;show{a,rfl,λm e=>c m (l.cx j m e)}
def Rev.old (h:Rev b O W x c)(l:Le e O):Rev b e W x c:=by
 cases c with
 |val d=>show h
 |new d=>obtain⟨a,rfl,h0,h⟩:_:=h;show{a,rfl,l.dm a h0,h}
 |cel j=>show h
end
abbrev GE:=M->(Ev->M->Prop)->Prop
abbrev GT:=M->(Bool->M->Prop)->Prop
abbrev GA:=M->(List Ev->M->Prop)->Prop
structure wt where
 nx:M->Prop
 rt:Ev->M->Prop
 bk:M->Prop:=λ_=>False
 ct:M->Prop:=λ_=>False
abbrev GS:=wt->M->Prop
def lf (b:B)(f:GE):TE:=λc H Q=>∃W m R,W.H=H/\Rel b W m c/\f m R/\∀d e a x,R d e->Lx W a->Rel b a e c->Rev b W a x d->Q x a.H
def lfT (b:B)(f:GT):TT:=λd H Q=>∃W m R,W.H=H/\Rel b W m d/\f m R/\∀c e a,R c e->Lx W a->Rel b a e d->Q c a.H
def lfA (b:B)(f:GA):TA:=λc H Q=>∃W m R,W.H=H/\Rel b W m c/\f m R/\∀d e a xs,R d e->Lx W a->Rel b a e c->Paired (Rev b W a) xs d->Q xs a.H
def lfS (b:B)(O:Wd)(g:GS):TS:=λD f H=>∃W m E,W.H=H/\Le O W/\Rel b W m f/\g E m/\(∀d c a,E.nx d->Le O c->Same W.F c.F->Rel b c d a->D.nx a c.H)/\
 (∀e d c a x,E.rt e d->Le O c->Rel b c d a->Rev b O c x e->D.rt x c.H)/\(∀d c a,E.bk d->Le O c->Same W.F c.F->Rel b c d a->D.bk a c.H)/\(∀d c a,E.ct d->Le O c->Same W.F c.F->Rel b c d a->D.ct a c.H)
def iw {b:B}{f:GE}{c:St}{H:Hp}{Q:VK}{G:Prop}(h:lf b f c H Q)(k:∀W m R,W.H=H->Rel b W m c->f m R->(∀d e a x,R d e->Lx W a->Rel b a e c->Rev b W a x d->Q x a.H)->G):G:=by
 obtain⟨W,m,R,g,i,j,l⟩:_:=h;show k W m R g i j l
def Ti {b:B}{f:GT}{a:St}{H:Hp}{Q:Bool->Hp->Prop}{G:Prop}(h:lfT b f a H Q)(k:∀W m R,W.H=H->Rel b W m a->f m R->(∀c e d,R c e->Lx W d->Rel b d e a->Q c d.H)->G):G:=by
 obtain⟨W,m,R,g,i,j,l⟩:_:=h;show k W m R g i j l
def Tj {b:B}{f:GA}{c:St}{H:Hp}{Q:EX->Hp->Prop}{G:Prop}(h:lfA b f c H Q)(k:∀W m R,W.H=H->Rel b W m c->f m R->(∀d e a xs,R d e->Lx W a->Rel b a e c->Paired (Rev b W a) xs d->Q xs a.H)->G):G:=by
 obtain⟨W,m,R,g,i,j,l⟩:_:=h;show k W m R g i j l
def mv {b:B}{O:Wd}{g:GS}{D:zr}{e:St}{H:Hp}{G:Prop}(h:lfS b O g D e H)(k:∀W m E,W.H=H->Le O W->Rel b W m e->g E m->(∀d c a,E.nx d->Le O c->Same W.F c.F->Rel b c d a->D.nx a c.H)->(∀f d c a x,E.rt f d->Le O c->Rel b c d a->Rev b O c x f->D.rt x c.H)->(∀d c a,E.bk d->Le O c->Same W.F c.F->Rel b c d a->D.bk a c.H)->(∀d c a,E.ct d->Le O c->Same W.F c.F->Rel b c d a->D.ct a c.H)->G):G:=by
 obtain⟨W,m,E,i,j,l,n,p,q,r,s⟩:_:=h;show k W m E i j l n p q r s
structure VE (X:Cx)(e:MX)(f:GE):Prop where
 out:PE X e (lf X.B f)
structure VT (X:Cx)(e:MX)(f:GT):Prop where
 out:PT X e (lfT X.B f)
structure VW (X:Cx)(e:MX)(f:GT):Prop where
 out:PW X e (lfT X.B f)
structure VA (X:Cx)(es:CY)(f:GA):Prop where
 out:PA X es (lfA X.B f)
structure VS (X:Cx)(st:MY)(g:GS):Prop where
 out:∀O,PS X st (lfS X.B O g)
structure VSs (X:Cx)(st:List MY)(g:GS):Prop where
 out:∀O,PSs X st (lfS X.B O g)
section
variable {X:Cx}
def PE.sub (h:PE X e t')(k:∀a H Q,t a H Q->t' a H Q):PE X e t:=λb s a H Q I q=>h b s a H Q I (k a H Q q)
def PT.sub (h:PT X e t')(k:∀a H Q,t a H Q->t' a H Q):PT X e t:=λb s a H Q I q=>h b s a H Q I (k a H Q q)
def PW.sub (h:PW X e t')(k:∀a H Q,t a H Q->t' a H Q):PW X e t:=λb c s a H Q I q=>h b c s a H Q I (k a H Q q)
def PA.sub (h:PA X b t')(k:∀a H Q,t a H Q->t' a H Q):PA X b t:=λpos c s a H Q I q=>h pos c s a H Q I (k a H Q q)
def PS.sub (h:PS X st t')(k:∀D a H,t D a H->t' D a H):PS X st t:=λb s a H D I q=>h b s a H D I (k D a H q)
def PSs.sub (h:PSs X st t')(k:∀D a H,t D a H->t' D a H):PSs X st t:=λb s a H D I q=>h b s a H D I (k D a H q)
end
def Same.tr (h:Same A b)(k:Same b C):Same A C:=λa o e=>k a o (h a o e)
def Same.id:Same A A:=λ_ _ e=>e
def lk (m:M):Ev->(Tr->Prop)->Prop
 | .val d,Q=>Q d
 | .new d,Q=>Q d
 | .cel j,Q=>match m.cel[j]? with
  |some (KE d)=>Q d
  |_=>False
def frzW (j:Nat)(d:Tr):Option Wt->Option Wt
 |some (.c k)=>if k=j then KE (.v d)else KE (.c k)
 |w=>w
def frz (m:M)(j:Nat)(d:Tr):M:={m.loc.map (frzW j d),m.cel.set j MS}
def fz (m:M):Ev->(Tr->M->Prop)->Prop
 | .val d,Q=>Q d m
 | .new d,Q=>Q d m
 | .cel j,Q=>match m.cel[j]? with
  |some (KE d)=>Q d (frz m j d)
  |_=>False
def Top (b:B)(W:Wd)(x:V):Tr->Prop
 | .lst l=>∃a xs,x=.ref a/\W.H a=KE (.lst xs)/\Rps b W.F xs l
 | .dct ks l=>∃a kvs,x=.ref a/\DictAt b.P b.w b.K W.H a kvs/\(∀e∈kvs,KeyAt b.K W.F e.2.1 e.1)/\ks=kvs.map (·.1)/\Rps b W.F (kvs.map (·.2.2)) l
 | .dk ks l=>∃a kvs,x=.ref a/\W.H a=KE (.dK kvs)/\ks=kvs.map (·.1)/\Rps b W.F (kvs.map (·.2)) l
 | .obj C ns l=>∃a c fs,x=.ref a/\W.H a=KE (.ins C c fs)/\ns=fs.map (·.1)/\Rps b W.F (fs.map (·.2)) l
 |d=>Rp b W.F x d
section
variable {b:B}{W W':Wd}{x:V}{d:Tr}{cel:EZ}{σ:St}{m:M}
def Top.of (h:Rp b W.F x d)(e:Same W.F W.H):Top b W x d:=by
 cases h with
 |v h=>show .v h
 |tup h r=>show .tup h r
 |scr h r=>show .scr h r
 |xc h k=>show .xc h k
 |obj h k r=>show{_,_,_,rfl,e _ _ h,k,r}
 |lst h r=>show{_,_,rfl,e _ _ h,r}
 |dct h k r=>show{_,_,rfl,h.mono e,h.keys,k,r}
 |dk h k r=>show{_,_,rfl,e _ _ h,k,r}
def Top.rp (h:Top b W x d)(e:Same W.F W.H):Rp b W.H x d:=by
 cases d with
 |v _=>show Rp.mono e h
 |tup _=>show Rp.mono e h
 |scr _=>show Rp.mono e h
 |xc _ _=>show Rp.mono e h
 |obj C ns l=>obtain⟨a,c,fs,rfl,h,k,r⟩:_:=h;show .obj h k (r.mono e)
 |lst l=>obtain⟨a,xs,rfl,h,r⟩:_:=h;show .lst h (r.mono e)
 |dct ks l=>obtain⟨a,kvs,rfl,h,_,k,r⟩:_:=h;show .dct h k (r.mono e)
 |dk ks l=>obtain⟨a,kvs,rfl,h,k,r⟩:_:=h;show .dk h k (r.mono e)
def CellOk.top (h:CellOk b W.F W.H a d)(e:Same W.F W.H):Top b W (.ref a) d:=by
 cases d with
 |lst l=>obtain⟨xs,f,c⟩:_:=h;show#v[a,xs,rfl,f,c]
 |dct ks l=>obtain⟨kvs,i,f,c,g,j,n,p⟩:_:=h;show{a,kvs,rfl,{#v[i,f],λx q=>jd (c x q) e,g,j},c,n,p}
 |dk ks l=>obtain⟨kvs,f,c,g⟩:_:=h;show#v[a,kvs,rfl,f,c,g]
 |v _=>show h.elim
 |tup _=>show h.elim
 |scr _=>show h.elim
 |xc _ _=>show h.elim
 |obj C ns l=>obtain⟨r,fs,f,c,g⟩:_:=h;show#v[a,r,fs,rfl,f,c,g]
def vi (e:lk m (.cel j) Q):∃d,m.cel[j]?=KE (KE d)/\Q d:=by
 change (match m.cel[j]? with | some (KE d)=>Q d | _=>False)at e
 rcases h:m.cel[j]? with _ | _ | d;{rw[h]at e;show e.elim};{rw[h]at e;show e.elim};{rw[h]at e;show#v[d,rfl,e]}
def ajo (e:fz m (.cel j) Q):∃d,m.cel[j]?=KE (KE d)/\Q d (frz m j d):=by
 change (match m.cel[j]? with | some (KE d)=>Q d (frz m j d) | _=>False)at e
 rcases h:m.cel[j]? with _ | _ | d;{rw[h]at e;show e.elim};{rw[h]at e;show e.elim};{rw[h]at e;show#v[d,rfl,e]}
variable {O:Wd}
def gn (ok:Wok b W m.cel)(h:Rev b O W x c)(e:lk m c Q):∃d,Top b W x d/\Q d:=by
 cases c with
 |val d=>show{d,Top.of h ok.sub,e}
 |new d=>
  obtain⟨a,rfl,_,_,_,f⟩:_:=h;show{d,f.top ok.sub,e}
 |cel j=>
  obtain⟨a,rfl,g⟩:_:=h;obtain⟨d,i,e⟩:_:=vi e;obtain⟨l,n,f,p⟩:_:=ok.cell j d i;cases g l n;show{d,p.top ok.sub,e}
def lp (n:c≠a):eh F H a c=F c:=by unfold eh;rw[M' n]
def qj (l:Lx O W)(f:Rel b W m σ)(h:Rev b O W x Y)(e:fz m Y Q):∃d m' W',Q d m'/\Lx O W'/\W'.H=W.H/\Rel b W' m' σ/\Rp b W'.F x d:=by
 cases Y with
 |val d=>show#v[d,m,W,e,l,rfl,f,h]
 |new d=>
  obtain⟨a,rfl,h0,s,L,G⟩:_:=h;have E:Same W.F (eh W.F W.H a):=wq s;show{d,m,{eh W.F W.H a,W.H,W.C},e,{{λc o z=>E c o (l.same c o z),l.fr,λc z n=>?_,l.cl,l.dm},l.cx},rfl,{{Ab f.ok.sub,λj d' N=>?_,f.ok.live,f.ok.dist},λi w hw=>?_,f.len},G.keep s};{by_cases q:c=a;{subst q;show .inl h0};{have I:eh W.F W.H a c≠MS:=n;rw[lp q]at I;show l.nw c z I}};{obtain⟨u,r,g,A⟩:_:=f.ok.cell j d' N;show{u,r,?_,A.mono E λ_ z=>z};change eh W.F W.H a u=MS;rw[lp (λz=>L j (by rw[<-z];show r))];show g}
  ·obtain⟨y,r,g⟩:_:=f.loc i w hw;show{y,r,?_};cases w with
   |v d'=>show Rp.mono E g
   |c j=>show g
 |cel j=>
  obtain⟨a,rfl,s⟩:_:=h;obtain⟨d,N,e⟩:_:=ajo e;obtain⟨u,L,G,h4⟩:_:=f.ok.cell j d N;cases s u L;have s:=L;have E:Same W.F (eh W.F W.H a):=wq G;have J:∀k c,(if k=j then MS else W.C k)=KE c->k≠j/\W.C k=KE c:=λk c z=>by
   by_cases q:k=j;{rw[MZ q]at z;cases z};{rw[M' q]at z;show#v[q,z]}
  show{d,frz m j d,{eh W.F W.H a,W.H,λk=>if k=j then MS else W.C k},e,{{λc o z=>E c o (l.same c o z),l.fr,λc z n=>?_,λk c z=>l.cl k c (J k c z).2,l.dm},λk c z=>l.cx k c (J k c z).2},rfl,{{Ab f.ok.sub,λk d' hk=>?_,λk c z=>?_,λk k' c z z'=>f.ok.dist k k' c (J k c z).2 (J k' c z').2},λi w hw=>?_,by change(m.loc.map _).length=_;rw[aC];show f.len},h4.keep G};{by_cases q:c=a;{subst q;show .inr (.inl {j,l.cx j c s})};{have I:eh W.F W.H a c≠MS:=n;rw[lp q]at I;show l.nw c z I}}
  ·have T:(m.cel.set j MS)[k]?=KE (KE d'):=hk;have p:k≠j:=λz=>by
    subst z;rw[dA (bZ.mp N).1]at T;cases T
   rw[cZ (λz=>p z.symm)]at T;obtain⟨u,r,g,A⟩:_:=f.ok.cell k d' T;show{u,by change(if k=j then MS else W.C k)=_;rw[M' p];show r,?_,A.mono E λ_ z=>z}
   change eh W.F W.H a u=MS;rw[lp (λz=>p (f.ok.dist k j u r (by rw[z];show s)))];show g
  ·obtain⟨p,z⟩:_:=J k c z;obtain⟨d',q⟩:_:=f.ok.live k c z;show{d',by change(m.cel.set j MS)[k]?=_;rw[cZ (λz=>p z.symm)];show q}
  ·have D:(m.loc.map (frzW j d))[i]?=KE (KE w):=hw;rw[aW]at D;rcases q:m.loc[i]? with _ | _ | w0;{rw[q]at D;cases D};{rw[q]at D;cases D}
   ·rw[q]at D;obtain⟨y,r,g⟩:_:=f.loc i w0 q;show{y,r,?_};cases w0 with
    |v d'=>cases D;show Rp.mono E g
    |c k=>
     have U:(if k=j then KE (Wt.v d)else KE (.c k))=KE w:=by simpa[frzW]using D
     by_cases p:k=j;{rw[MZ p]at U;cases U;obtain⟨c,rfl,A⟩:_:=g;rw[p,s]at A;cases A;show h4.keep G};{rw[M' p]at U;cases U;obtain⟨c,rfl,A⟩:_:=g;show{c,rfl,by change(if k=j then MS else W.C k)=_;rw[M' p];show A}}
def pj (ok:Wok b W cel)(c:W.H p=MS)(r:CellOk b W.F (upd W.H p o) p d) :
  Lx W {W.F,upd W.H p o,W.C}/\Wok b {W.F,upd W.H p o,W.C} cel/\Rev b W {W.F,upd W.H p o,W.C} (.ref p) (.new d):=by
 have k:∀a u,W.H a=KE u->upd W.H p o a=KE u:=λa u e=>(by rw[au (bp e c)];show e);have Fn:W.F p=MS:=by
  cases q:W.F p with
  |none=>rfl
  |some u=>have:=ok.sub _ _ q;rw[c]at this;cases this
 have s:∀j,W.C j≠KE p:=λj e=>by
  obtain⟨d',q⟩:_:=ok.live j p e;obtain⟨a,f,i,g⟩:_:=ok.cell j d' q;rw[e]at f;cases f;obtain⟨u,l⟩:_:=g.has;rw[c]at l;cases l
 show{{{λ_ _ z=>z,λa u e _=>k a u e,λ_ z n=>NC z n,λ_ _ z=>.inl z,λa z=>?_},λ_ _ z=>z},{λa u z=>k a u (ok.sub a u z),λj d' w=>?_,ok.live,ok.dist},p,rfl,c,Fn,s,r}
 ·cases q:W.H a with
  |none=>rfl
  |some u=>have:=k a u q;rw[show upd W.H p o a=MS from z]at this;cases this
 ·obtain⟨a,f,i,g⟩:_:=ok.cell j d' w;show{a,f,i,g.mono (λ_ _ z=>z) λu e=>k a u e}
def Gr (ok:Wok b W cel)(c:W.H p=MS)(l:Rp b (upd W.F p o) (.ref p) d) :
  Lx W {upd W.F p o,upd W.H p o,W.C}/\Wok b {upd W.F p o,upd W.H p o,W.C} cel/\Rev b W {upd W.F p o,upd W.H p o,W.C} (.ref p) (.val d):=by
 have k:∀a u,W.H a=KE u->upd W.H p o a=KE u:=λa u e=>(by rw[au (bp e c)];show e);have Fn:W.F p=MS:=by
  cases q:W.F p with
  |none=>rfl
  |some u=>have:=ok.sub _ _ q;rw[c]at this;cases this
 have f:Same W.F (upd W.F p o):=λa u e=>(by rw[au (bp e Fn)];show e);have g:∀{a},a≠p->upd W.F p o a=W.F a:=λn=>au n;show{{{f,λa u e _=>k a u e,λa z n=>?_,λ_ _ z=>.inl z,λa z=>?_},λ_ _ z=>z},{λa u z=>?_,λj d' r=>?_,ok.live,ok.dist},l};{by_cases q:a=p;{subst q;show .inl c};{show NC z (by rw[<-g q];show n)}}
 ·cases q:W.H a with
  |none=>rfl
  |some u=>have:=k a u q;rw[show upd W.H p o a=MS from z]at this;cases this
 {have z':upd W.F p o a=KE u:=z;change upd W.H p o a=KE u;by_cases q:a=p;{subst q;rw[ay]at z' ⊢;show z'};{rw[au q]at z' ⊢;show ok.sub a u z'}};{obtain⟨a,s,w,i⟩:_:=ok.cell j d' r;obtain⟨u,y⟩:_:=i.has;show{a,s,by change upd W.F p o a=MS;rw[g (bp y c)];show w,i.mono f λu e=>k a u e}}
open Classical in
noncomputable def lq (F H:Hp):Hp:=λa=>if (∃o,H a=KE o/\imm o)then H a else F a
def aft (ok:Wok b W cel):Lx W {lq W.F W.H,W.H,W.C}/\Wok b {lq W.F W.H,W.H,W.C} cel/\Same W.F (lq W.F W.H):=by
 have f:Same W.F (lq W.F W.H):=λa u e=>by
  unfold lq
  split;{show ok.sub a u e};{show e}
 show{{{f,λ_ _ h _=>h,λa z n=>?_,λ_ _ z=>.inl z,λ_ z=>z},λ_ _ z=>z},{λa u z=>?_,λj d' l=>?_,ok.live,ok.dist},f}
 ·have g:lq W.F W.H a≠MS:=n;unfold lq at g
  split at g;{rename_i c;show .inr (.inr c)};{show NC z g}
 ·have z':lq W.F W.H a=KE u:=z;unfold lq at z'
  split at z';{show z'};{show ok.sub a u z'}
 ·obtain⟨a,p,q,i⟩:_:=ok.cell j d' l;show{a,p,?_,i.mono f λ_ e=>e};change lq W.F W.H a=MS;unfold lq;rw[M' (λ⟨o,z,r⟩=>i.nimm o z r)];show q
def Lk (h:SqT K H a xs):SqT K (lq F H) a xs:=by
 rcases h with(h | ⟨o,h⟩) | h;{show .inl (.inl (by unfold lq;rw[MZ {_,h,trivial}];show h))};{show .inl (.inr {o,by unfold lq;rw[MZ {_,h,trivial}];show h})};{show .inr h}
def Rel.lift (f:Rel b W m σ)(l:Lx W W')(e:∀j,W'.C j=W.C j)(ok:Wok b W' m.cel):Rel b W' m σ:=⟨ok,λi w hw=>by
  obtain⟨y,n,g⟩:_:=f.loc i w hw;show{y,n,?_};cases w with
  |v d'=>show Rp.mono l.same g
  |c j=>obtain⟨a,p,q⟩:_:=g;show{a,p,by rw[e];show q},f.len⟩
end
section
variable {X:Cx}
def aa (i:Nat):GE:=λm Q=>match m.loc[i]? with
 |some (KE (.v d))=>Q (.val d) m
 |some (KE (.c j))=>Q (.cel j) m
 |_=>False
def ajp (hN:X.N[i]?=KE x)(g:Vis X.e.scope x)(hd:↑((x==("__debug__":Str))=MU))(l:↑((x==("__classdict__":Str))=MU)):VE X (.Name x pos) (aa i):=⟨PE.sub (t5 hN g hd l) λu H Q n=>iw n λW m R p b h q=>by
    subst p;change (match m.loc[i]? with | some (KE (.v d))=>R (.val d) m | some (KE (.c j))=>R (.cel j) m | _=>False)at h
    rcases e:m.loc[i]? with _ | _ | w
    · rw[e]at h;show h.elim
    · rw[e]at h;show h.elim
    · rw[e]at h;let{y,r,f}:=b.loc i w e;show{y,r,?_};cases w with
      |v d=>show q _ m W y h (Lx.refl W) b f
      |c j=>
        let{a,rfl,s}:=f;show q _ m W _ h (Lx.refl W) b {a,rfl,λz e=>by rw[s]at e;cases e;rfl}⟩
def gC (d:Tr):GE:=λm Q=>Q (.val d) m
def Ac (h:∀F,Rp b F v d):∀a H Q,lf b (gC d) a H Q->tC v a H Q:=λa H Q c=>iw c λW m R e f g q=>by
 subst e;show q _ m W v g (Lx.refl W) f (h W.F)
def ah:VE X (.Constant (.int i) j pos) (gC (.v (.int i))):=#v[PE.sub zt (Ac λ_=>.v rfl)]
def tm:VE X (.Constant (.bool c) j pos) (gC (.v (.bl c))):=#v[PE.sub acz (Ac λ_=>.v rfl)]
def Ez:VE X (.Constant .none j pos) (gC (.v .non)):=#v[PE.sub U9 (Ac λ_=>.v rfl)]
def az:VE X (.Constant (.str x) j pos) (gC (.v (.str x))):=#v[PE.sub aia (Ac λ_=>.v rfl)]
def afu (a:Gl X x)(b:X.mg x=KE u)(r:RelV v u)(h:∀F,Rp X.B F v d)(hd:↑((x==("__debug__":Str))=MU)):VE X (.Name x pos) (gC d):=#v[PE.sub (rf a b r hd) (Ac h)]
abbrev G2:=Tr->Tr->(Ev->Prop)->Prop
def gOp (r:G2)(fa b:GE):GE:=λm Q=>fa m λc d=>b d λe a=>lk a c λx=>lk a e λy=>r x y λf=>Q f a
structure After (b:B)(W:Wd)(cel:EZ)(W':Wd):Prop where
 lx:Lx W W'
 cs:∀j,W'.C j=W.C j
 ok:Wok b W' cel
def rG (b:B)(r:G2):R2:=λx y H Q=>∃W cel c d R,W.H=H/\Wok b W cel/\Top b W x c/\Top b W y d/\r c d R/\∀e a z,R e->After b W cel a->Rev b W a z e->Q z a.H
def OpG (X:Cx)(f:aL->aL->Sem aL)(r:G2):Prop:=OpR X f (rG X.B r)
theorem WW (ok:Wok b W cel):After b W cel W:={Lx.refl W,λ_=>rfl,ok}
def ye (h:lf b (gOp r fa f) d H Q):lf b fa d H λx g=>lf b f d g λy i=>rG b r x y i Q:=by
 let{W,m,R,j,l,h,q}:=h;show{W,m,_,j,l,h,λU n p x s l1 u w=>{p,n,_,rfl,u,s,λY e W2 y A l2 a C=>?_}};let{D,E,G}:=gn a.ok (w.mono l2) A;let{I,ty,J}:=gn a.ok C G;show{W2,e.cel,D,I,_,rfl,a.ok,E,ty,J,λL N z O c T=>q L e N z O (l1.trans (l2.trans c.lx)) (a.lift c.lx c.cs c.ok) (T.old (l1.trans l2).toLe)}
def aw (c:OpG X (eS op) r)(d:VE X a fa)(e:VE X b f):VE X (.BinOp a op b pos) (gOp r fa f):=#v[PE.sub (pe_op c d.out e.out) λ_ _ _ h=>ye h]
def yf (c:OpG X (dU op) r)(d:VE X a fa)(e:VE X b f)(g:↥(nH op b=MU)):VE X (.Compare a [op] [b] pos) (gOp r fa f):=#v[PE.sub (Pv c d.out e.out g) λ_ _ _ h=>ye h]
def gT (f:GE):GT:=λm Q=>f m λa b=>match a with
 | .val (.v (.bl c))=>Q c b
 |_=>False
def P4 (h:lfT b (gT f) c H Q):lf b f c H λx H'=>∃k,x=.bl k/\Q k H':=by
 let{W,m,R,d,e,h,q}:=h;show{W,m,_,d,e,h,λn g i x a l1 j l=>?_}
 split at a;{let{rfl,_}:=Rp.vI l;show{_,rfl,q _ g i a l1 j}};{show a.elim}
def bq (ho:OpG X (dU op) r)(ha:VE X a fa)(hb:VE X b fb)(hm:↥(nH op b=MU)):VT X (.Compare a [op] [b] pos) (gT (gOp r fa fb)):=#v[PT.sub (aeh ho ha.out hb.out hm) λσ H Q h=>op_lift (P4 h)]
where op_lift {b:B}{r:G2}{fa fb:GE}{σ:St}{H:Hp}{Q:VK}(h:lf b (gOp r fa fb) σ H Q):tOp (rG b r) (lf b fa) (lf b fb) σ H Q:=ye h
def Gs (f:GT):GT:=λm Q=>f m λc a=>Q (!c) a
def gAnd (f g:GT):GT:=λm Q=>f m λc a=>if c=MT then g a Q else Q MU a
def gOr (f g:GT):GT:=λm Q=>f m λc a=>if c=MT then Q MT a else g a Q
def Ad (h:VT X a f):VT X (.UnaryOp .Not a pos) (Gs f):=#v[PT.sub (Kw h.out) λn H Q b=>Ti b λW m R d e h q=>{W,m,_,d,e,h,λc g i j l1 l=>q _ g i j l1 l}]
def yg (h:VT X a f):VW X (.BoolOp op [a] pos) f:=by
 show#v[?_];cases op;{show aee h.out};{show Vb h.out}
def aah (h:lfT b (gAnd f g) a H Q):lfT b f a H λc d=>if c=MT then lfT b g a d Q else Q MU d:=by
 let{W,m,R,n,p,h,q}:=h;show{W,m,_,n,p,h,λc e i j l1 l=>?_};cases c with
 |true=>show{i,e,_,rfl,l,j,λc r W2 s l2 u=>q c r W2 s (l1.trans l2) u}
 |false=>show q _ e i j l1 l
def afv (h:lfT b (gOr f g) a H Q):lfT b f a H λc d=>if c=MT then Q MT d else lfT b g a d Q:=by
 let{W,m,R,n,p,h,q}:=h;show{W,m,_,n,p,h,λc e i j l1 l=>?_};cases c with
 |false=>show{i,e,_,rfl,l,j,λc r W2 s l2 u=>q c r W2 s (l1.trans l2) u}
 |true=>show q _ e i j l1 l
def ajq {rest:CY}(c:VT X a f)(d:VW X (.BoolOp .And (b::rest) pos) g):VW X (.BoolOp .And (a::b::rest) pos) (gAnd f g):=#v[PW.sub (aib c.out d.out) λ_ _ _ h=>aah h]
def E1 {rest:CY}(c:VT X a f)(d:VW X (.BoolOp .Or (b::rest) pos) g):VW X (.BoolOp .Or (a::b::rest) pos) (gOr f g):=#v[PW.sub (ada c.out d.out) λ_ _ _ h=>afv h]
def Gu (h:VW X e f):VT X e f:=#v[h.out.pt]
def Tn (fa b:GE):GE:=λm Q=>gT fa m λc a=>if c=MT then b a Q else Q (.val (.v (.bl MU))) a
def Wv (h:VE X a fa):VE X (.BoolOp op [a] pos) fa:=#v[Vc h.out]
def Ww {rest:CY}(l:VE X a fa)(n:VE X (.BoolOp .And (b::rest) pos) d):VE X (.BoolOp .And (a::b::rest) pos) (Tn fa d):=⟨PE.sub (Vd l.out n.out) λp H Q r=>iw r λW m R s u h q=>by
  show P4 (Q:=λc e=>if c=MT then lf _ d p e Q else Q (.bl MU) e) {W,m,_,s,u,h,λc f g i l1 j=>?_}
  cases c with
  |true=>show{g,f,_,rfl,j,i,λw y W2 x z l2 A C=>q w y W2 x z (l1.trans l2) A (C.old l1.toLe)}
  |false=>show q _ f g _ i l1 j (Rp.v rfl)⟩
def gIf (t:GT)(fa b:GE):GE:=λm Q=>t m λc a=>if c=MT then fa a Q else b a Q
def Kn (r:VT X c t)(s:VE X a fa)(u:VE X b w):VE X (.IfExp c a b pos) (gIf t fa w):=⟨PE.sub (Y5 r.out s.out u.out) λC H Q y=>iw y λW m R z A h q=>by
  show{W,m,_,z,A,h,λc j l n l1 p=>?_};cases c with
  |true=>show{l,j,_,rfl,p,n,λd e W2 x f l2 g i=>q d e W2 x f (l1.trans l2) g (i.old l1.toLe)}
  |false=>show{l,j,_,rfl,p,n,λd e W2 x f l2 g i=>q d e W2 x f (l1.trans l2) g (i.old l1.toLe)}⟩
def truG:Tr->(Bool->Prop)->Prop
 | .v .non,Q=>Q MU
 | .v (.bl c),Q=>Q c
 | .v (.int i),Q=>Q (i != 0)
 | .tup l,Q=>Q (!l.isEmpty)
 | .lst l,Q=>Q (!l.isEmpty)
 |_,_=>False
def ku (f:GE):GT:=λm Q=>f m λb a=>lk a b λd=>truG d λc=>Q c a
theorem Top.tup {b:B}{W:Wd}{x:V}{l:D2}(h:Top b W x (.tup l))(e:Same W.F W.H):∃a xs,x=.ref a/\SqT b.K W.H a xs/\Rps b W.F xs l:=by
 let{a,xs,rfl,c,d}:=Rp.tupI h;show{a,xs,rfl,c.same e,d}
theorem Top.v {b:B}{W:Wd}{x y:V}(h:Top b W x (.v y)):x=y:=(Rp.vI h).1
def Cp {a b:Type}{xs:List a}{l:List b}(h:xs.length=l.length):xs.isEmpty=l.isEmpty:=by
 cases xs<;>cases l<;>first | rfl | simp at h
def afw {Q:Bool->Prop}(e:Same W.F W.H)(h:Top b W x d)(q:truG d Q):∃k,Zc b.K x W.H k/\Q k:=by
 unfold truG at q
 split at q;{cases h.v;show{_,rfl,q}};{cases h.v;show{_,rfl,q}};{cases h.v;show{_,rfl,q}};{let{a,xs,rfl,c,f}:=h.tup e;show{_,.inr (.inl {xs,c,by rw[Cp f.length]}),q}};{let{a,xs,rfl,c,f}:=h;show{_,.inl {xs,SqL.of c,by rw[Cp f.length]},q}};{show q.elim}
def gq (e:VE X a f)(g:autoParam (∀c,tG a X.e c=(do let v <-c;mL a.pos;jF [v] (truthy v))) XW._auto_1):VT X a (ku f):=⟨PT.sub (Zd e.out g) λA H Q i=>Ti i λW m R j l h q=>⟨W,m,_,j,l,h,λC n p x r l1 b s=>by
    let{d,u,w}:=gn b.ok s r;let{k,y,z}:=afw b.ok.sub u w;show{k,y,q k n p z l1 b}⟩⟩
def gaN:GA:=λm Q=>Q [] m
def gaE (f:GE)(r:GA):GA:=λm Q=>f m λa b=>r b λc d=>Q (a::c) d
def gaV (f:GE)(r:GA):GA:=λm Q=>f m λa b=>fz b a λd c=>r c λe g=>Q (.val d::e) g
def ag:VA X [] gaN:=#v[PA.sub n9 λd H Q a=>Tj a λW m R b c h q=>by subst b;show q [] m W [] h (Lx.refl W) c .nil]
def bx (b:VE X e f)(c:VA X a r)(d:↥(aO (e::a) X.e=(MU,eval e X.e)::aO a X.e)):VA X (e::a) (gaE f r):=⟨PA.sub (df b.out c.out d) λD H Q g=>Tj g λW m R i j h q=>⟨W,m,_,i,j,h,λE l n x p l1 s u=>⟨n,l,_,rfl,s,p,λG w W2 xs y l2 A C=>
    q _ w W2 _ y (l1.trans l2) A (.cons (u.mono l2) (Paired.mapP C λ_ _ z=>z.old l1.toLe))⟩⟩⟩
def ae (b:VE X e f)(c:VA X a r)(g:↥(aO (e::a) X.e=(MU,eval e X.e)::aO a X.e)):VA X (e::a) (gaV f r):=⟨PA.sub (df b.out c.out g) λL H Q i=>Tj i λW m R j l h q=>⟨W,m,_,j,l,h,λN O T x n l1 p s=>by
    let{d,u,W2,w,l2,y,A,C}:=qj l1 p s n;show{W2,u,_,y,A,w,λU D E xs G l3 I J=>q _ D E _ G (l2.trans l3) I (.cons (Rp.mono l3.same C) (Paired.mapP J λ_ _ z=>z.old l2.toLe))}⟩⟩
theorem Rps.of_vals:∀{xs ds},Paired (Rev b O W) xs (ds.map Ev.val)->Rps b W.F xs ds
 | [],[],.nil=>.nil
 |_::_,_::_,.cons h t=>.cons h (Rps.of_vals t)
def vj:List Ev->(D2->Prop)->Prop
 | [],Q=>Q []
 | .val d::r,Q=>vj r λds=>Q (d::ds)
 |_::_,_=>False
theorem mw:∀{a xs Q},Paired (Rev b O W) xs a->vj a Q->∃ds,Rps b W.F xs ds/\Q ds
 |_,_,_,.nil,h=>{[],.nil,h}
 | .val d::_,_::_,_,.cons h t,q=>by
  let{ds,r,q}:=mw t q;show{d::ds,.cons h r,q}
 | .new _::_,_,_,_,q=>q.elim
 | .cel _::_,_,_,_,q=>q.elim
def big (n:Nat)(h:n<=1000000):n<=sizeLine:=aV h #v[]
def gTup (r:GA):GE:=λm Q=>r m λa b=>vj a λds=>ds.length<=1000000/\Q (.val (.tup ds)) b
def gLst (r:GA):GE:=λm Q=>r m λa b=>vj a λds=>ds.length<=1000000/\Q (.new (.lst ds)) b
def ao (h:VA X j r):VE X (.Tuple j k pos) (gTup r):=⟨PE.sub (Vs h.out) λE H Q l=>iw l λW m R n s h q=>⟨W,m,_,n,s,h,λG w f xs x l1 b y=>by
  let{ds,g,z,A}:=mw y x;show{by rw[g.length];show big _ z,λp i=>?_};have fn:f.F p=MS:=by
    cases c:f.F p with
    |none=>rfl
    |some u=>have:=b.ok.sub _ _ c;rw[i]at this;cases this
  let{l2,C,D}:=Gr (d:=.tup ds) (o:=.tup xs) b.ok i (.tup (SqT.of ay) (g.mono λa u e=>by rw[au (bp e fn)];show e));show q _ w _ _ A (l1.trans l2) (b.lift l2 (λ_=>rfl) C) D⟩⟩
def br (h:VA X c r):VE X (.List c pos) (gLst r):=⟨PE.sub (K2 h.out) λx H Q e=>iw e λW m R f g h q=>⟨W,m,_,f,g,h,λy i A xs j l1 a l=>by
  let{ds,b,z,n}:=mw l j;show{by rw[b.length];show big _ z,λp s=>?_};let{l2,u,w}:=pj (d:=.lst ds) (o:=.lst xs) a.ok s #v[xs,ay,b];show q _ i _ _ n (l1.trans l2) (a.lift l2 (λ_=>rfl) u) (w.old l1.toLe)⟩⟩
def nu {a:Type}(o:Option a)(Q:a->Prop):Prop:=match o with
 |some x=>Q x
 |none=>False
def jb {a:Type}{o:Option a}{Q:a->Prop}(h:nu o Q):∃x,o=KE x/\Q x:=by
 cases o with
 |some x=>show#v[x,rfl,h]
 |none=>show h.elim
def bj {a:Type}{o:Option a}{Q:a->Prop}{x:a}(e:o=KE x)(h:Q x):nu o Q:=by subst e;show h
def ixG:G2
 | .lst l,.v (.int i),R=>nu (atI l i) λd=>R (.val d)
 | .scr l,.v (.int i),R=>nu (atI l i) λd=>R (.val d)
 | .tup l,.v (.int i),R=>nu (atI l i) λd=>R (.val d)
 | .v (.str z),.v (.int i),R=>z.length<=1000000/\nu (atI z.cps.toList i) λc=>R (.val (.v (.str #v[#[c]])))
 |_,_,_=>False
theorem Rps.atI {b:B}{F:Hp}{xs:EX}{l:D2}{i:Int}{d:Tr}(r:Rps b F xs l)(h:L2.atI l i=KE d):∃x,L2.atI xs i=KE x/\Rp b F x d:=by
 unfold L2.atI at h ⊢;rw[r.length];cases q:ixN l.length i with
 |none=>rw[q]at h;cases h
 |some j=>rw[q]at h;show r.get h
def adi:IxR X (rG X.B ixG):=by
 intro value slice j s l H x y v u Q I m n h p;let{W,cel,w,A,R,rfl,ok,r,ty,h,q}:=h;unfold ixG at h
 split at h;{let{a,xs,rfl,b,f}:=r;cases ty.v;let{d,e,h}:=jb h;let{z,g,i}:=f.atI e;show Gn value slice j s l W.H _ _ v u Q I m n {a,xs,_,z,rfl,rfl,SqL.of b,g,q _ W z h (WW ok) i} p};{let{a,xs,rfl,b,f}:=Rp.scrI r;cases ty.v;let{d,e,h}:=jb h;let{z,g,i}:=f.atI e;show Gn value slice j s l W.H _ _ v u Q I m n {a,xs,_,z,rfl,rfl,yt b ok.sub,g,q _ W z h (WW ok) i} p};{let{a,xs,rfl,b,f}:=r.tup ok.sub;cases ty.v;let{d,e,h}:=jb h;let{z,g,i}:=f.atI e;show aix value slice j s l W.H _ _ v u Q I m n {a,xs,_,z,rfl,rfl,b,g,q _ W z h (WW ok) i} p};{cases r.v;cases ty.v;let{hz,h}:=h;let{c,e,h}:=jb h;show aiy value slice j s l W.H _ _ v u Q I m n {_,_,c,rfl,rfl,big _ hz,e,q _ W _ h (WW ok) (Rp.v rfl)} p};{show h.elim}
def ba (c:VE X a fa)(d:VE X b e)(f:autoParam (Gm b) VQ._auto_1):VE X (.Subscript a b pos) (gOp ixG fa e):=#v[PE.sub (Sz adi c.out d.out f) λ_ _ _ h=>ye h]
abbrev GO:=M->(BV->M->Prop)->Prop
def lfO (b:B)(f:GO):TO:=λc H Q=>∃W m R,W.H=H/\Rel b W m c/\f m R/\∀o d a,R o d->Lx W a->Rel b a d c->Q o a.H
def adj {b:B}{f:GO}{a:St}{H:Hp}{Q:BV->Hp->Prop}{G:Prop}(h:lfO b f a H Q)(k:∀W m R,W.H=H->Rel b W m a->f m R->(∀o d c,R o d->Lx W c->Rel b c d a->Q o c.H)->G):G:=by
 let{W,m,R,e,g,i,j}:=h;show k W m R e g i j
structure VO (X:Cx)(e:Option MX)(f:GO):Prop where
 out:PO X e (lfO X.B f)
def goN:GO:=λm Q=>Q MS m
def goS (f:GE):GO:=λm Q=>f m λa b=>match a with
 | .val (.v (.int i))=>Q (KE i) b
 |_=>False
def fg:VO X MS goN:=#v[λa s b H Q I c=>adj c λW m R d e h q=>by subst d;show aen a s b W.H Q I (q MS m W h (Lx.refl W) e)]
def fj (b:VE X e f):VO X (KE e) (goS f):=⟨λc s d H Q I g=>adj g λW m R i j h q=>aeo b.out c s d H Q I ⟨W,m,_,i,j,h,λu l n x a l1 p r=>by
  split at a
  · cases(Rp.vI r).1;show{_,rfl,q _ l n a l1 p}
  · show a.elim⟩⟩
def slG (d:Tr)(lo hi:BV)(R:Ev->Prop):Prop:=match d with
 | .lst l=>R (.new (.lst (dg l lo hi)))
 | .scr l=>R (.new (.lst (dg l lo hi)))
 | .tup l=>R (.val (.tup (dg l lo hi)))
 | .v (.str z)=>z.length<=1000000/\R (.val (.v (.str (lU z lo hi))))
 |_=>False
def gSl (fa:GE)(b c:GO):GE:=λm Q=>fa m λd e=>b e λlo f=>c f λhi a=>lk a d λx=>slG x lo hi λg=>Q g a
def rSl (b:B):V->BV->BV->Hp->VK->Prop:=λx lo hi H Q=>∃W cel c R,W.H=H/\Wok b W cel/\Top b W x c/\slG c lo hi R/\∀d a z,R d->After b W cel a->Rev b W a z d->Q z a.H
def Rps.cut {b:B}{F:Hp}{xs:EX}{l:D2}(r:Rps b F xs l)(lo hi:BV):Rps b F (xi xs lo hi) (dg l lo hi):=by
 unfold xi dg;rw[r.length];show(r.drop _).take _
def Wok.Fn (ok:Wok b W cel)(a:W.H p=MS):W.F p=MS:=by
 cases c:W.F p with
 |none=>rfl
 |some u=>have:=ok.sub _ _ c;rw[a]at this;cases this
def Wok.sameU (ok:Wok b W cel)(c:W.H p=MS):Same W.F (upd W.F p o):=λa u e=>by rw[au (bp e (ok.Fn c))];show e
def uz {b:B}{W:Wd}{cel:EZ}{R:Ev->Prop}{Q:VK}{xs:EX}{l:D2}(ok:Wok b W cel)(q:∀c a z,R c->After b W cel a->Rev b W a z c->Q z a.H)(h:R (.new (.lst l)))(r:Rps b W.F xs l) :
  ∀p,W.H p=MS->Q (.ref p) (upd W.H p (.lst xs)):=λp e=>by
 let{l2,f,g}:=pj (d:=.lst l) (o:=.lst xs) ok e #v[xs,ay,r];show q _ _ _ h {l2,λ_=>rfl,f} g
def Bg {b:B}{W:Wd}{cel:EZ}{R:Ev->Prop}{Q:VK}{xs:EX}{l:D2}(ok:Wok b W cel)(q:∀c a z,R c->After b W cel a->Rev b W a z c->Q z a.H)(h:R (.val (.tup l)))(r:Rps b W.F xs l) :
  ∀p,W.H p=MS->Q (.ref p) (upd W.H p (.tup xs)):=λp e=>by
 let{l2,f,g}:=Gr (d:=.tup l) (o:=.tup xs) ok e (.tup (SqT.of ay) (r.mono (ok.sameU e)));show q _ _ _ h {l2,λ_=>rfl,f} g
def sl_ok:SlR X (rSl X.B):=by
 intro f s g H x v i j lo hi l Q I m n pl p h;let{W,cel,w,R,rfl,ok,r,h,q}:=h;unfold slG at h
 split at h;{let{a,xs,rfl,b,d}:=r;show Pz f s g W.H _ v i j lo hi l Q I m n pl p {a,xs,rfl,SqL.of b,uz ok q h (d.cut lo hi)}};{let{a,xs,rfl,b,d}:=Rp.scrI r;show Pz f s g W.H _ v i j lo hi l Q I m n pl p {a,xs,rfl,yt b ok.sub,uz ok q h (d.cut lo hi)}};{let{a,xs,rfl,b,d}:=r.tup ok.sub;by_cases c:Wm xs lo hi;{show afk f s g W.H _ v i j lo hi l Q I m n pl p {a,xs,rfl,b,c,q _ W _ h (WW ok) ?_};let{y,ys,e,k1,k2}:=Rp.tupI r;cases e;have u:xs=ys:=I.tuple_inj b (k1.same ok.sub);subst u;have z:=d.cut lo hi;rw[show xi xs lo hi=xs by unfold xi;rw[c.1,c.2,tP,uU,cW]]at z;show Rp.tup k1 z};{show aiv f s g W.H _ v i j lo hi l Q I m n pl p {a,xs,rfl,b,c,Bg ok q h (d.cut lo hi)}}}
 {cases r.v;let{hz,h}:=h;show ajf f s g W.H _ v i j lo hi l Q I m n pl p {_,rfl,big _ hz,q _ W _ h (WW ok) (Rp.v rfl)}};{show h.elim}
def i5 (e:VE X a fa)(f:VO X lo g)(i:VO X hi j):VE X (.Subscript a (.Slice lo hi MS Y) pos) (gSl fa g j):=⟨PE.sub (Zo sl_ok e.out f.out i.out) λσ H Q l=>iw l λW m R n p h q=>⟨W,m,_,n,p,h,λea r s x u l1 w y=>⟨s,r,_,rfl,w,u,λlo A W2 C l2 D=>⟨W2,A,_,rfl,D,C,λhi d E G l3 c=>by
    let{I,J,L}:=gn c.ok (y.mono (l2.trans l3)) G;show{E,d.cel,I,_,rfl,c.ok,J,L,λN O z T b U=>q N d O z T (l1.trans (l2.trans (l3.trans b.lx))) (c.lift b.lx b.cs b.ok) (U.old (l1.trans (l2.trans l3)).toLe)}⟩⟩⟩⟩
end
open PySem.SeqAt
section
variable {X:Cx}
def ib (C:Int->Int->Prop)(g:Int->Int->V):G2
 | .v (.int i),.v (.int j),R=>C i j/\R (.val (.v (g i j)))
 |_,_,_=>False
def dw (g:Int->Int->V):G2
 | .v (.int i),.v (.int j),R=>R (.val (.v (g i j)))
 |_,_,_=>False
def E2 (h:OpR X f (rI C g))(a:∀i j,oq (g i j)=MT):OpG X f (ib C g):=by
 intro b s c H x y v u Q I d e h';let{W,cel,m,n,R,rfl,ok,l,ty,h',q}:=h';unfold ib at h'
 split at h';{cases l.v;cases ty.v;show h b s c W.H _ _ v u Q I d e {_,_,rfl,rfl,h'.1,q _ W _ h'.2 (WW ok) (Rp.v (a _ _))}};{show h'.elim}
def u6 (h:OpR X f (rI0 g))(a:∀i j,oq (g i j)=MT):OpG X f (dw g):=by
 intro b s c H x y v u Q I d e h';let{W,cel,m,n,R,rfl,ok,l,ty,h',q}:=h';unfold dw at h'
 split at h';{cases l.v;cases ty.v;show h b s c W.H _ _ v u Q I d e {_,_,rfl,rfl,q _ W _ h' (WW ok) (Rp.v (a _ _))}};{show h'.elim}
def Ae:OpG X (eS .Sub) (dw λi j=>.int (i-j)):=u6 aij λ_ _=>rfl
def t7:OpG X (eS .Mod) (ib (λ_ j=>0<j) λi j=>.int (i % j)):=E2 ail λ_ _=>rfl
def Gv:OpG X (eS .FloorDiv) (ib Ky λi j=>.int (i / j)):=E2 aeg λ_ _=>rfl
def Ag:OpG X (eS .LShift) (ib Ct λi j=>.int (i*2 ^ j.toNat)):=E2 aim λ_ _=>rfl
def Wx:OpG X (eS .RShift) (ib (λ_ j=>0<=j) λi j=>.int (i / 2 ^ j.toNat)):=E2 ain λ_ _=>rfl
def E3:OpG X (eS .BitAnd) (dw λi j=>.int (dZ i j)):=u6 aio λ_ _=>rfl
def To:OpG X (eS .BitOr) (dw λi j=>.int (eI i j)):=u6 op_or λ_ _=>rfl
def adk:OpG X (dU .Lt) (dw λi j=>.bl (decide (i<j))):=u6 op_lt λ_ _=>rfl
def yu:OpG X (dU .Gt) (dw λi j=>.bl (decide (j<i))):=u6 op_gt λ_ _=>rfl
def og_ge:OpG X (dU .GtE) (dw λi j=>.bl (decide (j<=i))):=u6 op_ge λ_ _=>rfl
def c5:G2
 | .v (.int i),.v (.int j),R=>R (.val (.v (.int (i+j))))
 | .v (.str i),.v (.str j),R=>i.length+j.length<=1000000/\R (.val (.v (.str (i++j))))
 | .tup l,.tup m,R=>l.length+m.length<=1000000/\R (.val (.tup (l++m)))
 | .lst l,.lst m,R=>l.length+m.length<=1000000/\R (.new (.lst (l++m)))
 |_,_,_=>False
def bw:OpG X (eS .Add) c5:=by
 intro f s g H x y v u Q I i j h;let{W,cel,n,p,R,rfl,ok,e,ty,h,q}:=h;unfold c5 at h
 split at h;{cases e.v;cases ty.v;show aii f s g W.H _ _ v u Q I i j {_,_,rfl,rfl,q _ W _ h (WW ok) (Rp.v rfl)}};{cases e.v;cases ty.v;show So f s g W.H _ _ v u Q I i j {_,_,rfl,rfl,big _ h.1,q _ W _ h.2 (WW ok) (Rp.v rfl)}};{let{a,xs,rfl,l,d}:=e.tup ok.sub;let{b,ys,rfl,k1,k2}:=ty.tup ok.sub;let{hz,h}:=h;have m:xs.length+ys.length<=sizeLine:=(by rw[d.length,k2.length];show big _ hz);show Zu f s g W.H _ _ v u Q I i j ?_;by_cases c:xs=[];{subst c;cases d;show .inr {a,b,ys,rfl,rfl,l,k1,q _ W _ h (WW ok) ty}};{show .inl {a,b,xs,ys,rfl,rfl,l,k1,c,m,λz=>?_,λ_=>Bg ok q h (d.append k2)};subst z;cases k2;rw[bP]at h;show q _ W _ h (WW ok) e}}
 {let{a,xs,rfl,l,d}:=e;let{b,ys,rfl,k1,k2}:=ty;show ajb f s g W.H _ _ v u Q I i j {a,b,xs,ys,rfl,rfl,l,k1,by rw[d.length,k2.length];show big _ h.1,uz ok q h.2 (d.append k2)}};{show h.elim}
def ud:G2
 | .v (.int i),.v (.int j),R=>CMul i j/\R (.val (.v (.int (i*j))))
 | .lst l,.v (.int k),R=>-1000000<=k/\k<=1000000/\l.length*k.toNat<=1000000/\R (.new (.lst (bB k.toNat l).flatten))
 |_,_,_=>False
theorem Rps.rep (r:Rps b F xs l):∀n,Rps b F (bB n xs).flatten (bB n l).flatten
 |0=>.nil
 |n+1=>by rw[fX,fX,jN,jN];show r.append (r.rep n)
def og:OpG X (eS .Mult) ud:=by
 intro b s c H x y v u Q I d e h;let{W,cel,l,m,R,rfl,ok,f,ty,h,q}:=h;unfold ud at h
 split at h;{cases f.v;cases ty.v;show aik b s c W.H _ _ v u Q I d e {_,_,rfl,rfl,h.1,q _ W _ h.2 (WW ok) (Rp.v rfl)}};{let{a,xs,rfl,i,g}:=f;cases ty.v;let{n,p,j,h}:=h;show ajc b s c W.H _ _ v u Q I d e {a,_,xs,rfl,rfl,i,(),(),by rw[g.length];show big _ j,uz ok q h (g.rep _)}};{show h.elim}
def Ah (a:Bool):G2
 | .v x,.v .non,R=>R (.val (.v (.bl (if a then !decide (x=.non)else decide (x=.non)))))
 | .tup _,.v .non,R=>R (.val (.v (.bl a)))
 | .lst _,.v .non,R=>R (.val (.v (.bl a)))
 | .xc _ _,.v .non,R=>R (.val (.v (.bl a)))
 |_,_,_=>False
def og_is:OpG X (dU .Is) (Ah MU):=by
 intro b s c H x y v u Q I d e h;let{W,cel,j,l,R,rfl,ok,f,ty,h,q}:=h;unfold Ah at h
 split at h;{cases f.v;cases ty.v;show Eg b s c W.H _ _ v u Q I d e {rfl,q _ W _ h (WW ok) (Rp.v rfl)}};{let{a,xs,rfl,g,i}:=f.tup ok.sub;cases ty.v;show Eg b s c W.H _ _ v u Q I d e {rfl,q _ W _ h (WW ok) (Rp.v rfl)}};{let{a,xs,rfl,g,i}:=f;cases ty.v;show Eg b s c W.H _ _ v u Q I d e {rfl,q _ W _ h (WW ok) (Rp.v rfl)}};{let{a,D,rfl,_}:=Rp.xcI f;cases ty.v;show Eg b s c W.H _ _ v u Q I d e {rfl,q _ W _ h (WW ok) (Rp.v rfl)}};{show h.elim}
def C3:OpG X (dU .IsNot) (Ah MT):=by
 intro b s c H x y v u Q I d e h;let{W,cel,j,l,R,rfl,ok,f,ty,h,q}:=h;unfold Ah at h
 split at h;{cases f.v;cases ty.v;show Bb b s c W.H _ _ v u Q I d e {rfl,q _ W _ h (WW ok) (Rp.v rfl)}};{let{a,xs,rfl,g,i}:=f.tup ok.sub;cases ty.v;show Bb b s c W.H _ _ v u Q I d e {rfl,q _ W _ h (WW ok) (Rp.v rfl)}};{let{a,xs,rfl,g,i}:=f;cases ty.v;show Bb b s c W.H _ _ v u Q I d e {rfl,q _ W _ h (WW ok) (Rp.v rfl)}};{let{a,D,rfl,_}:=Rp.xcI f;cases ty.v;show Bb b s c W.H _ _ v u Q I d e {rfl,q _ W _ h (WW ok) (Rp.v rfl)}};{show h.elim}
def Kp:V->V->Bool
 | .int _,.int _=>MT
 | .str _,.str _=>MT
 | .bl _,.bl _=>MT
 | .non,.non=>MT
 | .non,.int _=>MT
 | .int _,.non=>MT
 | .non,.str _=>MT
 | .str _,.non=>MT
 |_,_=>MU
mutual
def iy:Nat->Tr->Tr->Bool
 |_,.v x,.v y=>Kp x y
 |n+1,.tup l,.tup m=>cmpL n l m
 |n+1,.lst l,.lst m=>cmpL n l m
 |_,_,_=>MU
def cmpL:Nat->D2->D2->Bool
 |n,a::l,b::m=>iy n a b&&cmpL n l m
 |_,_,_=>MT
end
theorem Bh:∀{n:Nat}{l m:D2}{j:Nat}{a b:Tr},cmpL n l m=MT->l[j]?=KE a->m[j]?=KE b->iy n a b=MT
 |n,[],_,_,_,_,_,e,_=>by simp at e
 |n,_::_,[],_,_,_,_,_,e=>by simp at e
 |n,a::l,b::m,0,_,_,h,c,d=>by
  simp at c d;subst c d;rw[cmpL,eG]at h;show h.1
 |n,a::l,b::m,j+1,_,_,h,c,d=>by
  rw[cmpL,eG]at h;show Bh h.2 (⇑c) (⇑d)
def aaj (h:Kp x y=MT):eqV x y=MT↔x=y:=by
 unfold Kp at h
 split at h<;>first | (cases h;done) | simp[eqV]
theorem Rps.paired {b:B}{F:Hp}:∀{xs:EX}{l:D2},Rps b F xs l->Paired (Rp b F) xs l
 |_,_,.nil=>.nil
 |_,_,.cons h r=>.cons h r.paired
mutual
theorem Rp.inj (i:∀a xs ys,SqT b.K F a xs->SqT b.K F a ys->xs=ys)(j:∀a xs ys,SqL b.K F a xs->SqL b.K F a ys->xs=ys):∀{n x d e},iy n d e=MT->Rp b F x d->Rp b F x e->d=e
 |_,_,.v _,.v _,_,f,g=>by rw[<-(Rp.vI f).1,<-(Rp.vI g).1]
 |n+1,_,.tup l,.tup m,c,f,g=>by
  let{a,xs,rfl,p,q}:=Rp.tupI f;let{u,ys,e,r,s}:=Rp.tupI g;cases e;have:=i _ _ _ p r;subst this;rw[Rps.inj i j (n:=n) (by simpa[iy]using c) q s]
 |n+1,_,.lst l,.lst m,c,f,g=>by
  let{a,xs,rfl,p,q}:=Rp.lstI f;let{u,ys,e,r,s}:=Rp.lstI g;cases e;have:=j _ _ _ (SqL.of p) (SqL.of r);subst this;rw[Rps.inj i j (n:=n) (by simpa[iy]using c) q s]
theorem Rps.inj (d:∀a xs ys,SqT b.K F a xs->SqT b.K F a ys->xs=ys)(e:∀a xs ys,SqL b.K F a xs->SqL b.K F a ys->xs=ys):∀{n xs l m},cmpL n l m=MT->Rps b F xs l->Rps b F xs m->l=m
 |_,_,_,_,_,.nil,.nil=>rfl
 |n,_,_::_,_::_,c,.cons f g,.cons i j=>by
  rw[cmpL,eG]at c;rw[Rp.inj d e c.1 f i,Rps.inj d e c.2 g j]
end
open Classical in
def P5 {D:CW}{E:St}{H:Hp}{s:aG}{A:bU}{d:Type}{R:V->d->Prop}(I:Inv X D E H s){a b:MV}{xs ys:EX}{ks ls:List d}(G:SqL X.K H a xs)(J:SqL X.K H b ys)(g:Paired R xs ks)(i:Paired R ys ls)(m:A.units<dB)
  (L:∀(j:Nat)(k l:d),ks[j]?=KE k->ls[j]?=KE l->∀(x y:V)(u v:aL),R x k->R y l->RelV x u->RelV y v->EqAt A.in1 s u v (decide (k=l))):RcAt A s (.ref a) (.ref b) (decide (ks=ls)):=by
 let{its,n,p,_}:=I.list G;let{N,r,w,_}:=I.list J;have f:its.toArray.size=ks.length:=(by rw[aK,<-n.length,Paired.length g]);have C:N.toArray.size=ls.length:=(by rw[aK,<-r.length,Paired.length i]);by_cases c:ks.length=ls.length
 ·have q:=RcAt.lists (s:=s) (A:=A) p.isList w.isList (by rw[f,C,c]) m (t6 g i n r L);have e:(bG its.toArray.size).all (λj=>decide (ks[j]?=ls[j]?))=decide (ks=ls):=by
   rw[f,<-o6 ks ls,c,sG];simp
  rw[e]at q;show q
 ·have q:=RcAt.lists_lengths (A:=A) (s:=s) p.isList w.isList (by rw[f,C];simpa using c) m;rw[NA (λz=>c (by rw[z]))];show q
open Classical in
def Wy {D:CW}{E:St}{H:Hp}{s:aG}{A:bU}{d:Type}{R:V->d->Prop}(I:Inv X D E H s){a b:MV}{xs ys:EX}{ks ls:List d}(G:SqL X.K H a xs)(J:SqL X.K H b ys)(g:Paired R xs ks)(i:Paired R ys ls)(m:A.units<dB)
  (L:∀(j:Nat)(k l:d),ks[j]?=KE k->ls[j]?=KE l->∀(x y:V)(u v:aL),R x k->R y l->RelV x u->RelV y v->EqAt A.in1 s u v (decide (k=l))):RcNeAt A s (.ref a) (.ref b) (!decide (ks=ls)):=by
 let{its,n,p,_}:=I.list G;let{N,r,w,_}:=I.list J;have f:its.toArray.size=ks.length:=(by rw[aK,<-n.length,Paired.length g]);have C:N.toArray.size=ls.length:=(by rw[aK,<-r.length,Paired.length i]);by_cases c:ks.length=ls.length
 ·have q:=RcNeAt.lists (s:=s) (A:=A) p.isList w.isList (by rw[f,C,c]) m (t6 g i n r L);have e:(bG its.toArray.size).all (λj=>decide (ks[j]?=ls[j]?))=decide (ks=ls):=by
   rw[f,<-o6 ks ls,c,sG];simp
  rw[e]at q;show q
 ·have q:=RcNeAt.lists_lengths (A:=A) (s:=s) p.isList w.isList (by rw[f,C];simpa using c) m;rw[NA (λz=>c (by rw[z]))];show q
open Classical in
def Wz {z:CW}{C:St}{H:Hp}{s:aG}{A:bU}{c:Type}{R:V->c->Prop}(I:Inv X z C H s){a b:MV}{xs ys:EX}{ks ls:List c}(D:SqT X.K H a xs)(E:SqT X.K H b ys)(d:Paired R xs ks)(e:Paired R ys ls)(m:A.units<dB)
  (n:∀(j:Nat)(k l:c),ks[j]?=KE k->ls[j]?=KE l->∀(x y:V)(u v:aL),R x k->R y l->RelV x u->RelV y v->EqAt A.in1 s u v (decide (k=l))):RcAt A s (.ref a) (.ref b) (decide (ks=ls))/\RcNeAt A s (.ref a) (.ref b) (!decide (ks=ls)):=by
 let{its,f,p,_}:=I.tuple D;let{g,i,r,_}:=I.tuple E;have G:its.toArray.size=ks.length:=(by rw[aK,<-f.length,Paired.length d]);have J:g.toArray.size=ls.length:=(by rw[aK,<-i.length,Paired.length e]);have q:=vG (s:=s) (A:=A) (show s.heap.IsTuple a its.toArray from p) (show s.heap.IsTuple b g.toArray from r) m (t6 d e f i n);have w:=RcNeAt.tuples (s:=s) (A:=A) (show s.heap.IsTuple a its.toArray from p) (show s.heap.IsTuple b g.toArray from r) m (t6 d e f i n);rw[G,J,o6]at q w;show#v[q,w]
open Classical in
def Be {Y:CW}{σ:St}{H:Hp}{s:aG}(I:Inv X Y σ H s):∀(n:Nat) {d e:Tr}{x y:V}{u v:aL}{A:bU},iy n d e=MT->A.units+n<dB->Rp X.B H x d->Rp X.B H y e->RelV x u->RelV y v->EqAt A s u v (decide (d=e)):=by
 intro n;have Q:∀a xs ys,SqT X.B.K H a xs->SqT X.B.K H a ys->xs=ys:=λa xs ys=>I.tuple_inj;have L:∀a xs ys,SqL X.B.K H a xs->SqL X.B.K H a ys->xs=ys:=λa xs ys=>I.list_inj;have flat:∀{d e:V}{x y:V}{u v:aL}{A:bU},Kp d e=MT->Rp X.B H x (.v d)->Rp X.B H y (.v e)->RelV x u->RelV y v->EqAt A s u v (decide (Tr.v d=Tr.v e)):=λ{d e x y u v A} c g i b f=>by
  let{rfl,f1}:=Rp.vI g;let{rfl,f2}:=Rp.vI i;have z:=K6 (A:=A) (s:=s) b f f1 f2;have k:=aaj c;have p:eqV x y=decide (Tr.v x=Tr.v y):=by
   by_cases w:x=y;{rw[k.mpr w,NB (by rw[w])]}
   ·have:eqV x y=MU:=by
     cases q:eqV x y with
     |false=>rfl
     |true=>show NC (k.mp q) w
    rw[this,NA (λz=>w (by injection z))]
  rw[p]at z;show z
 induction n with
 |zero=>
  intro d e x y u v A c hu g i b f;cases d with
  |v d=>
   cases e with
   |v e=>show flat (by simpa[iy]using c) g i b f
   |_=>simp[iy]at c
  |_=>simp[iy]at c
 |succ n T=>
  intro d e x y u v A c hu g i b f;cases d with
  |v d=>
   cases e with
   |v e=>show flat (by simpa[iy]using c) g i b f
   |_=>simp[iy]at c
  |tup l=>
   cases e with
   |tup m=>
    let{a,xs,rfl,E,r}:=Rp.tupI g;let{G,ys,rfl,J,C}:=Rp.tupI i;cases(show u=.ref a from b);cases(show v=.ref G from f);have D:cmpL n l m=MT:=(by simpa[iy]using c);have z:=afm (A:=A) (R:=Rp X.B H) (ks:=l) (ls:=m) I (λz=>by subst z;show Rps.inj Q L D r C) E J r.paired C.paired () λj k l' N O x y u v k1 k2 b f=>
     T (A:=A.in1) (Bh D N O) (by rw[jD];lia) k1 k2 b f
    have p:decide (l=m)=decide (Tr.tup l=Tr.tup m):=(by rw[decide_eq_decide];show{λz=>by rw[z],λz=>by injection z});rw[p]at z;show z
   |_=>simp[iy]at c
  |lst l=>
   cases e with
   |lst m=>
    let{a,xs,rfl,E,r}:=Rp.lstI g;let{G,ys,rfl,J,C}:=Rp.lstI i;cases(show u=.ref a from b);cases(show v=.ref G from f);have D:cmpL n l m=MT:=(by simpa[iy]using c);have p:decide (l=m)=decide (Tr.lst l=Tr.lst m):=(by rw[decide_eq_decide];show{λz=>by rw[z],λz=>by injection z});rw[<-p];by_cases U:a=G;{subst U;have e4:=L _ _ _ (SqL.of E) (SqL.of J);subst e4;rw[NB (Rps.inj Q L D r C)];show uT _}
    ·show sA U (P5 I (SqL.of E) (SqL.of J) r.paired C.paired () λj k l' N O x y u v k1 k2 b f=>
       T (A:=A.in1) (Bh D N O) (by rw[jD];lia) k1 k2 b f)
   |_=>simp[iy]at c
  |_=>simp[iy]at c
def Bi {b:CW}{d:St}{H:Hp}{s:aG}(I:Inv X b d H s)(n:X.A.units+64<dB){l m:D2}(c:cmpL 39 l m=MT)(j:Nat)(k a:Tr)(e:l[j]?=KE k)(f:m[j]?=KE a)(x y:V)(u v:aL)
  (k1:Rp X.B H x k) (k2:Rp X.B H y a) (g:RelV x u) (i:RelV y v):EqAt X.A.in1 s u v (@decide (k=a) (lN _)):=Be I 39 (A:=X.A.in1) (Bh c e f) (by rw[jD];lia) k1 k2 g i
def eqG (a:Bool):G2
 | .v x,.v y,R=>Zb x y=MT/\R (.val (.v (.bl (if a then !decide (x=y)else decide (x=y)))))
 | .tup l,.tup m,R=>cmpL 39 l m=MT/\∀c:Bool,(c=MT↔l=m)->R (.val (.v (.bl (if a then !c else c))))
 | .lst l,.lst m,R=>cmpL 39 l m=MT/\∀c:Bool,(c=MT↔l=m)->R (.val (.v (.bl (if a then !c else c))))
 |_,_,_=>False
open Classical in
def d7 (i:X.A.units+64<dB):OpG X (dU .Eq) (eqG MU):=by
 intro n s p H x y v u Q I b c h;let{W,cel,w,z,R,rfl,ok,j,ty,h,q}:=h;have l:=j.rp ok.sub;have m:=ty.rp ok.sub;unfold eqG at h
 split at h;{cases j.v;cases ty.v;show op_eq n s p W.H _ _ v u Q I b c {h.1,q _ W _ h.2 (WW ok) (Rp.v rfl)}};{let{a,xs,rfl,d,e}:=Rp.tupI l;let{r,ys,rfl,f,g}:=Rp.tupI m;cases b;cases c;show(Wz (A:=X.A) I d f e.paired g.paired () (Bi I i h.1)).1 _ _ _ _ {.bl _,W.H,I,rfl,q _ W _ (h.2 _ WX) (WW ok) (Rp.v rfl)}};{let{a,xs,rfl,d,e}:=Rp.lstI l;let{r,ys,rfl,f,g}:=Rp.lstI m;cases b;cases c;show P5 (A:=X.A) I (SqL.of d) (SqL.of f) e.paired g.paired () (Bi I i h.1) _ _ _ _ {.bl _,W.H,I,rfl,q _ W _ (h.2 _ WX) (WW ok) (Rp.v rfl)}};{show h.elim}
open Classical in
def Kq (i:X.A.units+64<dB):OpG X (dU .NotEq) (eqG MT):=by
 intro n s p H x y v u Q I b c h;let{W,cel,w,z,R,rfl,ok,j,ty,h,q}:=h;have l:=j.rp ok.sub;have m:=ty.rp ok.sub;unfold eqG at h
 split at h;{cases j.v;cases ty.v;show op_ne n s p W.H _ _ v u Q I b c {h.1,q _ W _ h.2 (WW ok) (Rp.v rfl)}};{let{a,xs,rfl,d,e}:=Rp.tupI l;let{r,ys,rfl,f,g}:=Rp.tupI m;cases b;cases c;show(Wz (A:=X.A) I d f e.paired g.paired () (Bi I i h.1)).2 _ _ _ _ {.bl _,W.H,I,rfl,q _ W _ (h.2 _ WX) (WW ok) (Rp.v rfl)}};{let{a,xs,rfl,d,e}:=Rp.lstI l;let{r,ys,rfl,f,g}:=Rp.lstI m;cases b;cases c;show Wy (A:=X.A) I (SqL.of d) (SqL.of f) e.paired g.paired () (Bi I i h.1) _ _ _ _ {.bl _,W.H,I,rfl,q _ W _ (h.2 _ WX) (WW ok) (Rp.v rfl)}};{show h.elim}
def inL (a:Bool)(d:Tr)(l:D2)(R:Ev->Prop):Prop:=(∀e∈l,iy 39 e d=MT)/\∀c:Bool,(c=MT↔d∈l)->R (.val (.v (.bl (if a then !c else c))))
def inG (a:Bool):G2
 |d,.lst l,R=>inL a d l R
 |d,.tup l,R=>inL a d l R
 |_,_,_=>False
open Classical in
noncomputable def isT (b:B)(H:Hp)(d:Tr)(u:aL):Bool:=decide (∃z,RelV z u/\Rp b H z d)
open Classical in
def W4 (I:Inv X g i H s)(c:iy 39 e d=MT)(r:RelV x u)(h:Rp X.B H x e):isT X.B H d u=decide (e=d):=by
 unfold isT;rw[decide_eq_decide];constructor;{intro b;let{z,f,hz}:=b;cases r.inj f;show Rp.inj (λa xs ys=>I.tuple_inj) (λa xs ys=>I.list_inj) c h hz};{intro b;subst b;show#v[x,r,h]}
open Classical in
def Bj (I:Inv X g i H s){xs l its}(h:Rps X.B H xs l)(r:Vals xs its)(c:∀e∈l,iy 39 e d=MT):its.any (isT X.B H d)=decide (d∈l):=by
 induction r generalizing l with
 |nil=>cases h;simp
 |cons r _ b=>
  cases h with
  |@cons _ _ e l h t=>
   rw[kI,W4 I (c _ aR) r h,b t λe f=>c e (aP _ f)];by_cases a:e=d;{simp[a]};{have:¬d=e:=λz=>a z.symm;simp[a,this]}
def E4 (I:Inv X i j H s)(m:A.units+40<dB)(a:Rp X.B H y d)(b:RelV y v){xs l its}(h:Rps X.B H xs l)(r:Vals xs its)(c:∀e∈l,iy 39 e d=MT):∀u∈its,EqAt A s u v (isT X.B H d u):=by
 induction r generalizing l with
 |nil=>show λu z=>nomatch z
 |cons r _ f=>
  cases h with
  |cons h t=>
   intro u BP;rcases aX.mp BP with rfl | BP;{rw[W4 I (c _ aR) r h];show Be I 39 (c _ aR) () h a r b};{show f t (λe g=>c e (aP _ g)) u BP}
open Classical in
def E5 (l:X.A.units+64<dB):OpG X (dU .In) (inG MU):=by
 intro m s n H x y v u Q I d e h;let{W,cel,b,p,R,rfl,ok,i,ty,h,q}:=h;have f:=i.rp ok.sub;have g:=ty.rp ok.sub;unfold inG at h
 split at h;{let{j,ys,rfl,c,a}:=Rp.lstI g;cases e;let{its,r,pl,hz}:=I.list (SqL.of c);show in_listAt (isT X.B W.H b) pl.isList (λw hw=>E4 I (by change X.A.units+1+40<dB;lia) f d a r h.1 w (⇑hw)) {.bl _,W.H,I,rfl,?_};show q _ W _ (h.2 (its.toArray.any (isT X.B W.H b)) (by rw[pG,Bj I a r h.1];show WX)) (WW ok) (Rp.v rfl)};{let{j,ys,rfl,c,a}:=Rp.tupI g;cases e;let{its,r,pl,hz}:=I.tuple c;show in_tupleAt (isT X.B W.H b) pl (λw hw=>E4 I (by change X.A.units+1+40<dB;lia) f d a r h.1 w (⇑hw)) {.bl _,W.H,I,rfl,?_};show q _ W _ (h.2 (its.toArray.any (isT X.B W.H b)) (by rw[pG,Bj I a r h.1];show WX)) (WW ok) (Rp.v rfl)};{show h.elim}
open Classical in
def aak (l:X.A.units+64<dB):OpG X (dU .NotIn) (inG MT):=by
 intro m s n H x y v u Q I d e h;let{W,cel,b,p,R,rfl,ok,i,ty,h,q}:=h;have f:=i.rp ok.sub;have g:=ty.rp ok.sub;unfold inG at h
 split at h;{let{j,ys,rfl,c,a}:=Rp.lstI g;cases e;let{its,r,pl,hz}:=I.list (SqL.of c);show notIn_listAt (isT X.B W.H b) pl.isList (λw hw=>E4 I (by change X.A.units+1+40<dB;lia) f d a r h.1 w (⇑hw)) {.bl _,W.H,I,rfl,?_};show q _ W _ (h.2 (its.toArray.any (isT X.B W.H b)) (by rw[pG,Bj I a r h.1];show WX)) (WW ok) (Rp.v rfl)};{let{j,ys,rfl,c,a}:=Rp.tupI g;cases e;let{its,r,pl,hz}:=I.tuple c;show notIn_tupleAt (isT X.B W.H b) pl (λw hw=>E4 I (by change X.A.units+1+40<dB;lia) f d a r h.1 w (⇑hw)) {.bl _,W.H,I,rfl,?_};show q _ W _ (h.2 (its.toArray.any (isT X.B W.H b)) (by rw[pG,Bj I a r h.1];show WX)) (WW ok) (Rp.v rfl)};{show h.elim}
def xj (f:GE):GE:=λm Q=>f m λa b=>match a with
 | .val (.v (.int i))=>Q (.val (.v (.int (-i)))) b
 |_=>False
def qk (h:VE X a f):VE X (.UnaryOp .USub a pos) (xj f):=⟨PE.sub (pe_un aip h.out) λn H Q c=>iw c λW m R d e h q=>⟨W,m,_,d,e,h,λp g i x b l1 j l=>by
  split at b
  · cases(Rp.vI l).1;show{_,rfl,q _ g i _ b l1 j (Rp.v rfl)}
  · show b.elim⟩⟩
def lks (m:M):List Ev->(D2->Prop)->Prop
 | [],Q=>Q []
 |e::r,Q=>lk m e λd=>lks m r λds=>Q (d::ds)
theorem Bk (ok:Wok b W m.cel):∀{a xs Q},Paired (Rev b O W) xs a->lks m a Q->∃ds,Paired (Top b W) xs ds/\Q ds
 |_,_,_,.nil,h=>{[],.nil,h}
 |_,_,_,.cons h t,q=>by
  let{d,c,q}:=gn ok h q;let{ds,r,q}:=Bk ok t q;show{d::ds,.cons c r,q}
abbrev GL:=D2->(Ev->Prop)->Prop
def gCB (r:GL)(ga:GA):GE:=λm Q=>ga m λb a=>lks a b λds=>r ds λc=>Q c a
def rGA (b:B)(r:GL):EX->Hp->VK->Prop:=λxs H Q=>∃W cel ds R,W.H=H/\Wok b W cel/\Paired (Top b W) xs ds/\r ds R/\∀c a z,R c->After b W cel a->Rev b W a z c->Q z a.H
def my (X:Cx)(f:aL)(r:GL):Prop:=ia X f (rGA X.B r)
def P6 (h:lf b (gCB r ga) e H Q):lfA b ga e H λxs f=>rGA b r xs f Q:=by
 let{W,m,R,g,i,h,q}:=h;show{W,m,_,g,i,h,λA d j xs l l1 c n=>?_};let{ds,p,s}:=Bk c.ok n l;show{j,d.cel,ds,_,rfl,c.ok,p,s,λu w z x a y=>q u d w z x (l1.trans a.lx) (c.lift a.lx a.cs a.ok) (y.old l1.toLe)}
def b7 {x:Str}{id:String}{r:GL}{e:MX}{a:CY}{ga:GA}{p pos:Pos}(b:my X (.builtin id) r)(c:Gl X x)(d:X.mg x=MS)(f:fR x=KE (.builtin id))(g:VA X (e::a) ga)(i:↑(x≠"__name__"))(j:↑((x==("__debug__":Str))=MU))
  (l:↥(aO (e::a) X.e=(MU,eval e X.e)::aO a X.e)) (m:↥((eE pos (aO a X.e)).any (·.1)=MU)):VE X (.Call (.Name x p) (e::a) [] pos) (gCB r ga):=#v[PE.sub (vd b c d f g.out i j l m) λ_ _ _ h=>P6 h]
def lr (b:my X (.type T) r)(c:Gl X x)(d:X.mg x=MS)(f:fR x=KE (.type T))(g:VA X (e::a) ga)(i:↑(x≠"__name__"))(j:↑((x==("__debug__":Str))=MU))
  (l:↥(aO (e::a) X.e=(MU,eval e X.e)::aO a X.e)) (m:↥((eE pos (aO a X.e)).any (·.1)=MU)):VE X (.Call (.Name x p) (e::a) [] pos) (gCB r ga):=#v[PE.sub (Vu b c d f g.out i j l m) λ_ _ _ h=>P6 h]
def cp {a b:Type}{F:a->b->Prop}{xs:List a}{d:b}(h:Paired F xs [d]):∃x,xs=[x]/\F x d:=by
 cases h with
 |cons h t=>cases t;show{_,rfl,h}
def yh {a b:Type}{F:a->b->Prop}{xs:List a}{d e:b}(h:Paired F xs [d,e]):∃x y,xs=[x,y]/\F x d/\F y e:=by
 cases h with
 |cons h t=>
  let{y,rfl,k}:=cp t;show{_,y,rfl,h,k}
def ja:GL
 | [.lst l],R=>R (.val (.v (.int l.length)))
 | [.scr l],R=>R (.val (.v (.int l.length)))
 | [.tup l],R=>R (.val (.v (.int l.length)))
 | [.v (.str z)],R=>z.length<=1000000/\R (.val (.v (.int z.length)))
 |_,_=>False
def fu:my X (.builtin "len") ja:=by
 intro d s e H xs us Q I r h;let{W,cel,ds,R,rfl,ok,f,h,q}:=h;unfold ja at h
 split at h;{let{x,rfl,a,xs,rfl,b,c}:=cp f;show vh d s e W.H _ us Q I r {a,xs,rfl,.inl (SqL.of b),by rw[c.length];show q _ W _ h (WW ok) (Rp.v rfl)}};{let{x,rfl,t}:=cp f;let{a,xs,rfl,b,c}:=Rp.scrI t;show vh d s e W.H _ us Q I r {a,xs,rfl,.inl (yt b ok.sub),by rw[c.length];show q _ W _ h (WW ok) (Rp.v rfl)}};{let{x,rfl,t}:=cp f;let{a,xs,rfl,b,c}:=t.tup ok.sub;show vh d s e W.H _ us Q I r {a,xs,rfl,.inr b,by rw[c.length];show q _ W _ h (WW ok) (Rp.v rfl)}};{let{x,rfl,t}:=cp f;cases t.v;show K8 d s e W.H _ us Q I r {_,rfl,big _ h.1,q _ W _ h.2 (WW ok) (Rp.v rfl)}};{show h.elim}
def absG:GL
 | [.v (.int i)],R=>R (.val (.v (.int (if i<0 then -i else i))))
 |_,_=>False
def ajr:my X (.builtin "abs") absG:=by
 intro a s b H xs us Q I r h;let{W,cel,ds,R,rfl,ok,c,h,q}:=h;unfold absG at h
 split at h;{let{x,rfl,t}:=cp c;cases t.v;show Ze a s b W.H _ us Q I r {_,rfl,q _ W _ h (WW ok) (Rp.v rfl)}};{show h.elim}
def intG:GL
 | [.v (.int i)],R=>R (.val (.v (.int i)))
 | [.v (.bl k)],R=>R (.val (.v (.int (if k then 1 else 0))))
 |_,_=>False
def ajs:my X (.type "int") intG:=by
 intro a s b H xs us Q I r h;let{W,cel,ds,R,rfl,ok,c,h,q}:=h;unfold intG at h
 split at h;{let{x,rfl,t}:=cp c;cases t.v;show Ii a s b W.H _ us Q I r (.inl {_,rfl,q _ W _ h (WW ok) (Rp.v rfl)})};{let{x,rfl,t}:=cp c;cases t.v;show Ii a s b W.H _ us Q I r (.inr {_,rfl,q _ W _ h (WW ok) (Rp.v rfl)})};{show h.elim}
def two (g:Int->Int->Int):GL
 | [.v (.int i),.v (.int j)],R=>R (.val (.v (.int (g i j))))
 |_,_=>False
def ajt (a:X.calm=MT):my X (.builtin "max") (two λi j=>if j > i then j else i):=by
 intro b s c H xs us Q I r h;let{W,cel,ds,R,rfl,ok,d,h,q}:=h;unfold two at h
 split at h;{let{x,y,rfl,e,f}:=yh d;cases e.v;cases f.v;show Vo a b s c W.H _ us Q I r {_,_,rfl,q _ W _ h (WW ok) (Rp.v rfl)}};{show h.elim}
def aju (a:X.calm=MT):my X (.builtin "min") (two λi j=>if j<i then j else i):=by
 intro b s c H xs us Q I r h;let{W,cel,ds,R,rfl,ok,d,h,q}:=h;unfold two at h
 split at h;{let{x,y,rfl,e,f}:=yh d;cases e.v;cases f.v;show Vp a b s c W.H _ us Q I r {_,_,rfl,q _ W _ h (WW ok) (Rp.v rfl)}};{show h.elim}
theorem Rps.flat {b:B}{F:Hp}{a:Type}{g:a->V}:∀{xs:EX}{ns:List a},Rps b F xs (ns.map λn=>Tr.v (g n))->xs=ns.map g
 |_,[],.nil=>rfl
 |_,_::ns,.cons h t=>by rw[(Rp.vI h).1,Rps.flat t];rfl
def Tp:GL
 | [.lst l],R=>∃ns:LQ,l=ns.map (λn=>Tr.v (.int n))/\ns.length<=1000/\(∀n∈ns,-1000000000<=n/\n<=1000000000)/\R (.val (.v (.int ns.sum)))
 |_,_=>False
def W8 (b:X.calm=MT):my X (.builtin "sum") Tp:=by
 intro c s d H xs us Q I r h;let{W,cel,ds,R,rfl,ok,e,h,q}:=h;unfold Tp at h
 split at h;{let{ns,rfl,f,g,h}:=h;let{x,rfl,a,xs,rfl,i,j}:=cp e;cases j.flat;show Wn b c s d W.H _ us Q I r {a,ns,rfl,SqL.of i,f,g,q _ W _ h (WW ok) (Rp.v rfl)}};{show h.elim}
def Gw (g:List Bool->Bool):GL
 | [.lst l],R=>∃bs:List Bool,l=bs.map (λn=>Tr.v (.bl n))/\R (.val (.v (.bl (g bs))))
 |_,_=>False
def ajv (b:X.calm=MT):my X (.builtin "all") (Gw λbs=>bs.all id):=by
 intro c s d H xs us Q I r h;let{W,cel,ds,R,rfl,ok,e,h,q}:=h;unfold Gw at h
 split at h;{let{bs,rfl,h}:=h;let{x,rfl,a,xs,rfl,f,g}:=cp e;cases g.flat;show V5 b c s d W.H _ us Q I r {a,bs,rfl,SqL.of f,q _ W _ h (WW ok) (Rp.v rfl)}};{show h.elim}
def ajw (b:X.calm=MT):my X (.builtin "any") (Gw λbs=>bs.any id):=by
 intro c s d H xs us Q I r h;let{W,cel,ds,R,rfl,ok,e,h,q}:=h;unfold Gw at h
 split at h;{let{bs,rfl,h}:=h;let{x,rfl,a,xs,rfl,f,g}:=cp e;cases g.flat;show Wk b c s d W.H _ us Q I r {a,bs,rfl,SqL.of f,q _ W _ h (WW ok) (Rp.v rfl)}};{show h.elim}
def Ai:GL
 | [.lst l],R=>R (.val (.tup l))
 | [.tup l],R=>R (.val (.tup l))
 |_,_=>False
def C4:my X (.type "tuple") Ai:=by
 intro c s d H xs us Q I r h;let{W,cel,ds,R,rfl,ok,e,h,q}:=h;unfold Ai at h
 split at h;{let{x,rfl,a,xs,rfl,b,f}:=cp e;show zp c s d W.H _ us Q I r {a,xs,rfl,.inl {SqL.of b,Bg ok q h f}}};{let{x,rfl,t}:=cp e;let{a,xs,rfl,b,f}:=t.tup ok.sub;show zp c s d W.H _ us Q I r {a,xs,rfl,.inr {b,q _ W _ h (WW ok) t}}};{show h.elim}
def Tq:GL
 | [.lst l],R=>R (.new (.lst l))
 | [.tup l],R=>R (.new (.lst l))
 |_,_=>False
def afx:my X (.type "list") Tq:=by
 intro d s e H xs us Q I r h;let{W,cel,ds,R,rfl,ok,f,h,q}:=h;unfold Tq at h
 split at h;{let{x,rfl,a,xs,rfl,b,c}:=cp f;show z6 d s e W.H _ us Q I r {a,xs,rfl,.inl (SqL.of b),uz ok q h c}};{let{x,rfl,t}:=cp f;let{a,xs,rfl,b,c}:=t.tup ok.sub;show z6 d s e W.H _ us Q I r {a,xs,rfl,.inr b,uz ok q h c}};{show h.elim}
def tyT (n:String):Tr->Option Bool
 | .v .non=>KE MU
 | .v (.bl _)=>KE (n=="bool"||n=="int")
 | .v (.int _)=>KE (n=="int")
 | .v (.str _)=>KE (n=="str")
 | .tup _=>KE (n=="tuple")
 | .lst _=>KE (n=="list")
 |_=>MS
structure Kit (K:aE)(n:String):Prop where
 non:dN K (.type "NoneType") (.type n)=KE MU
 bl:dN K (.type "bool") (.type n)=KE (n=="bool"||n=="int")
 int:dN K (.type "int") (.type n)=KE (n=="int")
 str:dN K (.type "str") (.type n)=KE (n=="str")
 tup:dN K (.type "tuple") (.type n)=KE (n=="tuple")
 lst:dN K (.type "list") (.type n)=KE (n=="list")
def gIsi (n:String)(f:GE):GE:=λm Q=>f m λb a=>lk a b λd=>nu (tyT n d) λc=>Q (.val (.v (.bl c))) a
def ajy (b:Kit X.K n)(D:Gl X x)(E:X.mg x=MS)(G:fR x=KE (.builtin "isinstance"))(l:Gl X y)(I:X.mg y=MS)(r:fR y=KE (.type n))(J:VE X e f)
  (L:↑(x≠"__name__")) (N:↑((x==("__debug__":Str))=MU)) (O:↑(y≠"__name__")) (i:↑((y==("__debug__":Str))=MU))
  (A:↥(aO [e,.Name y s] X.e=(MU,eval e X.e)::aO [.Name y s] X.e)) (T:↥((eE pos (aO [.Name y s] X.e)).any (·.1)=MU)):VE X (.Call (.Name x p) [e,.Name y s] [] pos) (gIsi n f):=⟨PE.sub (vd Zw D E G (df J.out (df (Pl (v:=.ty n) l I r rfl O i) n9) A) L N A T) λσ H Q U=>iw U λW m R Y wB h q=>⟨W,m,_,Y,wB,h,λev m1 C x j l1 u r1=>by
  obtain⟨d,g,w⟩:_:=gn u.ok r1 j;obtain⟨c,e,h3⟩:_:=jb w;have fin:=q _ m1 C (.bl c) h3 l1 u (Rp.v rfl);have z:∃t,TyQ X.K C.H x t/\dN X.K t (.type n)=KE c:=by
    unfold tyT at e
    split at e
    · cases g.v;show{_,.of .non,by rw[b.non];show e}
    · cases g.v;show{_,.of (.bl _),by rw[b.bl];show e}
    · cases g.v;show{_,.of (.int _),by rw[b.int];show e}
    · cases g.v;show{_,.of (.str _),by rw[b.str];show e}
    · obtain⟨a,xs,rfl,j,w⟩:_:=g.tup u.ok.sub;show{_,.sqt j,by rw[b.tup];show e}
    · obtain⟨a,xs,rfl,j,w⟩:_:=g;show{_,.sql (SqL.of j),by rw[b.lst];show e}
    · cases e
  obtain⟨t,t1,t2⟩:_:=z;show#v[x,t,n,c,rfl,t1,t2,fin]⟩⟩
abbrev tI (x:LQ):Tr:=.tup (x.map λn=>Tr.v (.int n))
theorem Ll {b:B}{F H:Hp}(e:Same F H):∀{xs:EX}{L:LJ},Rps b F xs (L.map tI)->TupsV b.K H xs L
 |_,[],.nil=>.nil
 |_,x::L,.cons h t=>by
  let{a,ys,rfl,c,d}:=Rp.tupI h;cases d.flat;show .cons {a,rfl,c.same e} (Ll e t)
theorem Lm:∀ns:LQ,Rps b F (ns.map V.int) (ns.map λn=>Tr.v (.int n))
 | []=>.nil
 |_::ns=>.cons (.v rfl) (Lm ns)
abbrev GM:=Tr->D2->(Ev->Prop)->Prop
def rGM (b:B)(r:GM):V->EX->Hp->VK->Prop:=λx xs H Q=>∃W cel d ds R,W.H=H/\Wok b W cel/\Top b W x d/\Paired (Top b W) xs ds/\r d ds R/\∀c a z,R c->After b W cel a->Rev b W a z c->Q z a.H
def MtG (X:Cx)(id:String)(r:GM):Prop:=MtR X id (rGM X.B r)
def kin (T:String):Tr->Prop
 | .lst _=>T="list"
 | .v (.str _)=>T="str"
 | .v (.int _)=>T="int"
 |_=>False
def Aj (t:Top b W x d)(h:kin T d):tyV b.K T x W.H:=by
 unfold kin at h
 split at h;{let{a,xs,rfl,c,_}:=t;show .inl {h,xs,SqL.of c}};{cases t.v;show h};{cases t.v;show h};{show h.elim}
def gMt (T:String)(r:GM)(e:GE)(ga:GA):GE:=λm Q=>e m λb c=>lk c b λf=>kin T f/\ga c λg a=>lk a b λd=>lks a g λds=>r d ds λi=>Q i a
def adl {T:String}{name:Str}{id:String}{r:GM}{o e:MX}{a:CY}{i:GE}{ga:GA}{j b:Pos}(s:pU T)(slot:Slot T name id)(u:tH (.builtin id)=pure (.type "method_descriptor"))(w:MtG X id r)(y:VE X o i)(A:VA X (e::a) ga)
  (C:↥(iP o name X.e (eval o X.e)=eval o X.e))
  (D:↥(((eE b (aO (e::a) X.e)).all (λx=>!x.1)&&(mG b (jH [] X.e)).all (λx=>x.1.isSome)&&decide ((e::a).length+([]:List pH).length+(if ([]:List pH).isEmpty then 0 else 1)<30))=MT))
  (E:↥((j.endLine==b.line)=MT)) (G:↥(aO (e::a) X.e=(MU,eval e X.e)::aO a X.e)) (I:↥((eE b (aO a X.e)).any (·.1)=MU)) :
  VE X (.Call (.Attribute o name j) (e::a) [] b) (gMt T r i ga):=⟨PE.sub (S2 s slot u w y.out A.out C D E G I) λσ H Q J=>iw J λW m R L N h q=>⟨W,m,_,L,N,h,λeo O U x g l1 l n=>by
  let{d1,Y,k1,g}:=gn l.ok n g;show{Aj Y k1,U,O,_,rfl,l,g,λxB p W2 xs h2 l2 c r2=>?_};let{d,t2,h3}:=gn c.ok (n.mono l2) h2;let{ds,ts,h4}:=Bk c.ok r2 h3;show{W2,p.cel,d,ds,_,rfl,c.ok,t2,ts,h4,λev W' z h5 f rz=>q ev p W' z h5 (l1.trans (l2.trans f.lx)) (c.lift f.lx f.cs f.ok) (rz.old (l1.trans l2).toLe)}⟩⟩
def ajz {T:String}{name:Str}{id:String}{r:GM}{o:MX}{e:GE}{f g:Pos}(l:pU T)(slot:Slot T name id)(n:tH (.builtin id)=pure (.type "method_descriptor"))(p:MtG X id r)(s:VE X o e)
  (u:↥(iP o name X.e (eval o X.e)=eval o X.e)) (w:↥((f.endLine==g.line)=MT)):VE X (.Call (.Attribute o name f) [] [] g) (gMt T r e gaN):=⟨PE.sub (Vx l slot n p s.out u w) λU H Q y=>iw y λW m R A C h q=>⟨W,m,_,A,C,h,λY i D x c l1 a j=>by
  let{d1,E,k1,c}:=gn a.ok j c;show{Aj E k1,?_};let{d,G,I}:=gn a.ok j c;show{D,i.cel,d,[],_,rfl,a.ok,G,.nil,I,λJ L z N b O=>q J i L z N (l1.trans b.lx) (a.lift b.lx b.cs b.ok) (O.old l1.toLe)}⟩⟩
def Ts:GM
 | .v (.int i),[],R=>R (.val (.v (.int (lF i:Nat))))
 |_,_,_=>False
def afy:MtG X "int.bit_length" Ts:=by
 intro a s b H x xs v us Q I c e h;let{W,cel,d,ds,R,rfl,ok,t,f,h,q}:=h;unfold Ts at h
 split at h;{cases t.v;cases f;show afb a s b W.H _ [] v us Q I c e {_,rfl,rfl,q _ W _ h (WW ok) (Rp.v rfl)}};{show h.elim}
def E6:GM
 | .lst l,[.tup t],R=>∃(L:LJ)(x:LQ),l=L.map tI/\t=x.map (λn=>Tr.v (.int n))/\x∈L/\R (.val (.v (.int (L.idxOf x:Nat))))
 | .lst l,[.v (.str t)],R=>∃ss:AZ,l=ss.map (λn=>Tr.v (.str n))/\t∈ss/\R (.val (.v (.int (ss.idxOf t:Nat))))
 |_,_,_=>False
def Ln (m:X.A.units+64<dB):MtG X "list.index" E6:=by
 intro e s f H x xs v us Q I g i h;let{W,cel,d,ds,R,rfl,ok,t,j,h,q}:=h;unfold E6 at h
 split at h;{let{a,ys,rfl,k1,k2}:=t;let{y,rfl,ty}:=cp j;let{L,w,rfl,rfl,c,h}:=h;let{b,n,rfl,k3,l}:=ty.tup ok.sub;cases l.flat;show Z0 () e s f W.H _ _ v us Q I g i {a,b,ys,L,w,rfl,rfl,SqL.of k1,Ll ok.sub k2,k3,c,q _ W _ h (WW ok) (Rp.v rfl)}};{let{a,ys,rfl,k1,k2}:=t;let{y,rfl,ty}:=cp j;let{ss,rfl,c,h}:=h;cases ty.v;cases k2.flat;show Wl e s f W.H _ _ v us Q I g i {a,ss,_,rfl,rfl,SqL.of k1,c,q _ W _ h (WW ok) (Rp.v rfl)}};{show h.elim}
def ju (ok:Wok b W cel)(f:W.C j=KE a)(g:cel[j]?=KE (KE d))(h':CellOk b W.F (upd W.H a o) a d') :
  Lx W {W.F,upd W.H a o,W.C}/\Wok b {W.F,upd W.H a o,W.C} (cel.set j (KE d')):=by
 let{q,i,l,r}:=ok.cell j d g;rw[f]at i;cases i;have m:j<cel.length:=(bZ.mp g).1;have ne:∀{x u},W.F x=KE u->x≠a:=λe z=>(by subst z;rw[l]at e;cases e);show{{{λ_ _ z=>z,λx u e n=>?_,λ_ z n=>NC z n,λ_ _ z=>.inl z,λx z=>?_},λ_ _ z=>z},{λx u z=>?_,λk e hk=>?_,λk x z=>?_,ok.dist}};{change upd W.H a o x=KE u;rw[au (λz=>n j (by rw[f,z]))];show e};{by_cases c:x=a;{subst c;rw[show({W.F,upd W.H x o,W.C}:Wd).H x=upd W.H x o x from rfl,ay]at z;cases z};{rw[show({W.F,upd W.H a o,W.C}:Wd).H x=upd W.H a o x from rfl,au c]at z;show z}};{change upd W.H a o x=KE u;rw[au (ne z)];show ok.sub x u z};{by_cases c:k=j;{subst c;rw[dA m]at hk;cases hk;show#v[a,f,l,h']};{rw[cZ (λz=>c z.symm)]at hk;let{x,k1,k2,k3}:=ok.cell k e hk;show{x,k1,k2,k3.mono (λ_ _ z=>z) λu z=>?_};change upd W.H a o x=KE u;rw[au (λz=>c (ok.dist k j x k1 (by rw[z];show f)))];show z}};{let{e,p}:=ok.live k x z;by_cases c:k=j;{subst c;show{d',dA m}};{show{e,by rw[cZ (λz=>c z.symm)];show p}}}
abbrev GMc:=Tr->D2->(Ev->Tr->Prop)->Prop
def rMC (b:B)(r:GMc):V->EX->Hp->VK->Prop:=λx xs H Q=>∃W cel j a d ds R,W.H=H/\Wok b W cel/\x=.ref a/\W.C j=KE a/\cel[j]?=KE (KE d)/\Paired (Top b W) xs ds/\r d ds R/\
 ∀e d' c z,R e d'->Lx W c->(∀j,c.C j=W.C j)->Wok b c (cel.set j (KE d'))->Rev b W c z e->Q z c.H
def MtC (X:Cx)(id:String)(r:GMc):Prop:=MtR X id (rMC X.B r)
def gMc (T:String)(i:Nat)(r:GMc)(ga:GA):GE:=λm Q=>match m.loc[i]? with
 |some (KE (.c j))=>lk m (.cel j) λb=>kin T b/\ga m λe a=>lk a (.cel j) λd=>lks a e λds=>r d ds λf d'=>Q f {a.loc,a.cel.set j (KE d')}
 |_=>False
def Xa (h:gMc T i r ga m Q):∃j,m.loc[i]?=KE (KE (.c j))/\lk m (.cel j) λb=>kin T b/\ga m λe a=>lk a (.cel j) λd=>lks a e λds=>r d ds λf d'=>Q f {a.loc,a.cel.set j (KE d')}:=by
 unfold gMc at h
 split at h;{show{_,by assumption,h}};{show h.elim}
def Rel.setc (f:Rel b W m n)(l:Lx W d)(e:∀j,d.C j=W.C j)(ok:Wok b d (m.cel.set j (KE d'))):Rel b d {m.loc,m.cel.set j (KE d')} n:=⟨ok,λi w hw=>by
  let{y,p,g}:=f.loc i w hw;show{y,p,?_};cases w with
  |v d'=>show Rp.mono l.same g
  |c j=>let{a,q,r}:=g;show{a,q,by rw[e];show r},f.len⟩
def Bn {T:String}{name:Str}{id:String}{r:GMc}{i:Nat}{x:Str}{e:MX}{b:CY}{ga:GA}{p n c:Pos}(w:pU T)(slot:Slot T name id)(A:tH (.builtin id)=pure (.type "method_descriptor"))(C:MtC X id r)(hN:X.N[i]?=KE x)(D:Vis X.e.scope x)(E:VA X (e::b) ga)
  (G:↥(iP (.Name x p) name X.e (eval (.Name x p) X.e)=eval (.Name x p) X.e))
  (I:↥(((eE c (aO (e::b) X.e)).all (λx=>!x.1)&&(mG c (jH [] X.e)).all (λx=>x.1.isSome)&&decide ((e::b).length+([]:List pH).length+(if ([]:List pH).isEmpty then 0 else 1)<30))=MT))
  (J:↥((n.endLine==c.line)=MT)) (L:↥(aO (e::b) X.e=(MU,eval e X.e)::aO b X.e)) (O:↥((eE c (aO b X.e)).any (·.1)=MU))
  (hd:↑((x==("__debug__":Str))=MU)) (U:↑((x==("__classdict__":Str))=MU)) :
  VE X (.Call (.Attribute (.Name x p) name n) (e::b) [] c) (gMc T i r ga):=⟨PE.sub (S2 w slot A C (t5 hN D hd U) E.out G I J L O) λσ H Q Y=>iw Y λW m R hW l h q=>by
  subst hW;let{j,hj,h}:=Xa h;let{y,q1,a,rfl,s}:=l.loc i _ hj;have rv:Rev X.B W W (.ref a) (.cel j):={a,rfl,λf e=>by rw[s]at e;cases e;rfl};let{d1,t1,k1,h1}:=gn l.ok rv h;show{_,q1,Aj t1 k1,W,m,_,rfl,l,h1,λxB m2 W2 xs h2 l2 g r2=>?_};let{d,hd,h3}:=vi h2;let{ds,ts,h4}:=Bk g.ok r2 h3;let{f,u,_}:=g.ok.cell j d hd;have ea:f=a:=(by have:=l2.cx j f u;rw[s]at this;cases this;rfl);subst ea;show{W2,m2.cel,j,f,d,ds,_,rfl,g.ok,rfl,u,hd,ts,h4,λev d' W' z h5 l3 cs yU rz=>q ev _ W' z h5 (l2.trans l3) (g.setc l3 cs yU) (rz.old l2.toLe)}⟩
def Lo {T:String}{name:Str}{id:String}{r:GMc}{i:Nat}{x:Str}{p c f:Pos}(l:pU T)(slot:Slot T name id)(n:tH (.builtin id)=pure (.type "method_descriptor"))(s:MtC X id r)(hN:X.N[i]?=KE x)(u:Vis X.e.scope x)
  (w:↥(iP (.Name x p) name X.e (eval (.Name x p) X.e)=eval (.Name x p) X.e)) (A:↥((c.endLine==f.line)=MT))
  (hd:↑((x==("__debug__":Str))=MU)) (C:↑((x==("__classdict__":Str))=MU)) :
  VE X (.Call (.Attribute (.Name x p) name c) [] [] f) (gMc T i r gaN):=⟨PE.sub (Vx l slot n s (t5 hN u hd C) w A) λσ H Q D=>iw D λW m R E b h q=>by
  subst E;let{j,G,h}:=Xa h;let{y,I,a,rfl,g}:=b.loc i _ G;have J:Rev X.B W W (.ref a) (.cel j):={a,rfl,λa' e=>by rw[g]at e;cases e;rfl};let{d1,L,k1,O}:=gn b.ok J h;let{d,hd,U}:=vi O;show{_,I,Aj L k1,W,m.cel,j,a,d,[],_,rfl,b.ok,rfl,g,hd,.nil,U,λY d' W' z h5 l3 cs yU rz=>q Y _ W' z h5 l3 (b.setc l3 cs yU) rz}⟩
theorem Wok.lst {b:B}{W:Wd}{cel:EZ}{j:Nat}{a:MV}{l:D2}(ok:Wok b W cel)(d:W.C j=KE a)(e:cel[j]?=KE (KE (.lst l))):∃xs,W.H a=KE (.lst xs)/\Rps b W.F xs l:=by
 let{g,c,i,xs,f}:=ok.cell j _ e;rw[d]at c;cases c;show#v[xs,f]
def xk (i:Nat)(f:GE):GE:=λm Q=>match m.loc[i]? with
 |some (KE (.c j))=>lk m (.cel j) λb=>kin "list" b/\f m λg n=>fz n g λd a=>lk a (.cel j) λe=>match e with
  | .lst l=>l.length<1000000/\Q (.val (.v .non)) {a.loc,a.cel.set j (KE (.lst (l++[d])))}
  |_=>False
 |_=>False
def vk (hN:X.N[i]?=KE x)(O:Vis X.e.scope x)(T:VE X e f)
  (U:↥(iP (.Name x p) "append" X.e (eval (.Name x p) X.e)=eval (.Name x p) X.e))
  (Y:↥(((eE s (aO [e] X.e)).all (λx=>!x.1)&&(mG s (jH [] X.e)).all (λx=>x.1.isSome)&&decide ([e].length+([]:List pH).length+(if ([]:List pH).isEmpty then 0 else 1)<30))=MT))
  (yW:↥((xF.endLine==s.line)=MT)) (C:↥(aO [e] X.e=(MU,eval e X.e)::aO [] X.e))
  (hd:↑((x==("__debug__":Str))=MU)) (AB:↑((x==("__classdict__":Str))=MU)) :
  VE X (.Call (.Attribute (.Name x p) "append" xF) [e] [] s) (xk i f):=⟨PE.sub (S2 dQ PySem.F.slot_list_append PySem.F.type_list_append z7 (t5 hN O hd AB) (df T.out n9 C) U Y yW C) λσ H Q hG=>iw hG λW m R hW u h q=>by
  subst hW;have h':∃j,m.loc[i]?=KE (KE (.c j))/\lk m (.cel j) λD=>kin "list" D/\f m λE G=>fz G E λd g=>lk g (.cel j) λe=>match e with
    | .lst l=>l.length<1000000/\R (.val (.v .non)) {g.loc,g.cel.set j (KE (.lst (l++[d])))}
    |_=>False:=by
    unfold xk at h
    split at h
    · show{_,by assumption,h}
    · show h.elim
  let{j,hj,h}:=h';let{y,q1,a,rfl,I}:=u.loc i _ hj;have rv:Rev X.B W W (.ref a) (.cel j):={a,rfl,λn e=>by rw[I]at e;cases e;rfl};let{D,t1,k1,h1}:=gn u.ok rv h;show{_,q1,Aj t1 k1,W,m,_,rfl,u,h1,λE G W1 z h2 l1 wA r1=>?_};let{d,g,W2,h3,l2,J,r,r2}:=qj l1 wA r1 h2;let{d0,w,b}:=vi h3
  split at b
  · let{hz,b}:=b;let{n,A,_}:=r.ok.cell j _ w;have ea:n=a:=(by have:=l2.cx j n A;rw[I]at this;cases this;rfl);subst ea;let{xs,g1,L}:=r.ok.lst A w;show{n,xs,z,rfl,rfl,by rw[<-J];show g1,by rw[L.length];show bW hz #v[],?_};let{l3,yU}:=ju (d':=.lst _) (o:=.lst (xs++[z])) r.ok A w {_,ay,L.append (.cons r2 .nil)};rw[<-J];show q _ _ _ .non b (l2.trans l3) (r.setc l3 (λ_=>rfl) yU) (Rp.v rfl)
  · show b.elim⟩
def pq:GMc
 | .lst l,[.lst m],R=>l.length+m.length<=1000000/\R (.val (.v .non)) (.lst (l++m))
 | .lst l,[.tup m],R=>l.length+m.length<=1000000/\R (.val (.v .non)) (.lst (l++m))
 |_,_,_=>False
def pw:MtC X "list.extend" pq:=by
 intro l s m H x xs v us Q I n p h;let{W,cel,j,a,d,ds,R,rfl,ok,rfl,f,hd,r,h,q}:=h;unfold pq at h
 split at h;{let{ys,g,c}:=ok.lst f hd;let{y,rfl,b,e,rfl,k1,k2}:=cp r;let{l3,i}:=ju (d':=.lst _) (o:=.lst (ys++e)) ok f hd {_,ay,c.append k2};show Vy l s m W.H _ _ v us Q I n p {a,b,ys,e,rfl,rfl,g,k1,by rw[c.length,k2.length];show big _ h.1,q _ _ _ .non h.2 l3 (λ_=>rfl) i (Rp.v rfl)}};{let{ys,g,c}:=ok.lst f hd;let{y,rfl,t}:=cp r;let{b,e,rfl,k1,k2}:=t.tup ok.sub;let{l3,i}:=ju (d':=.lst _) (o:=.lst (ys++e)) ok f hd {_,ay,c.append k2};show aez l s m W.H _ _ v us Q I n p {a,b,ys,e,rfl,rfl,g,k1,by rw[c.length,k2.length];show big _ h.1,q _ _ _ .non h.2 l3 (λ_=>rfl) i (Rp.v rfl)}};{show h.elim}
def Ak:GMc
 | .lst l,[],R=>nu l.getLast? λd=>R (.val d) (.lst l.dropLast)
 | .lst l,[.v (.int i)],R=>nu (ixN l.length i) λk=>nu l[k]? λd=>R (.val d) (.lst (l.eraseIdx k))
 |_,_,_=>False
theorem Rps.dropLast (r:Rps b F xs l):Rps b F xs.dropLast l.dropLast:=by
 rw[List.dropLast_eq_take,List.dropLast_eq_take,r.length];show r.take _
theorem Rps.erase:∀{xs l} k,Rps b F xs l->Rps b F (xs.eraseIdx k) (l.eraseIdx k)
 |_,_,_,.nil=>.nil
 |_,_,0,.cons _ r=>r
 |_,_,k+1,.cons h r=>.cons h (Rps.erase k r)
def Lp:MtC X "list.pop" Ak:=by
 intro n s p H x xs v us Q I r u h;let{W,cel,j,a,d,ds,R,rfl,ok,rfl,c,hd,w,h,q}:=h;unfold Ak at h
 split at h;{let{ys,f,b}:=ok.lst c hd;cases w;let{e,g,h}:=jb h;rw[List.getLast?_eq_getElem?]at g;let{y,i,l}:=b.get g;let{l3,m}:=ju (d':=.lst _) (o:=.lst ys.dropLast) ok c hd {_,ay,b.dropLast};show aiz n s p W.H _ _ v us Q I r u {a,ys,y,rfl,rfl,f,by rw[b.length];show i,q _ _ _ y h l3 (λ_=>rfl) m (Rp.mono l3.same l)}};{let{ys,f,b}:=ok.lst c hd;let{y,rfl,t}:=cp w;cases t.v;let{k,hk,h}:=jb h;let{e,g,h}:=jb h;let{y,i,l}:=b.get g;let{z,D,A,C}:=Gj hk;have hz:ys.length<=sizeLine:=(I.lst f).choose_spec.choose_spec.2.2;have E:=n8;rw[<-b.length]at z A C;let{l3,m}:=ju (d':=.lst _) (o:=.lst (ys.eraseIdx k)) ok c hd {_,ay,b.erase k};show Zq n s p W.H _ _ v us Q I r u {a,ys,_,k,y,rfl,rfl,f,(),(),z,i,q _ _ _ y h l3 (λ_=>rfl) m (Rp.mono l3.same l)}};{show h.elim}
def cy:GS:=λE m=>E.nx m
def ak (s t:GS):GS:=λE m=>s {E with nx:=t E} m
def bu:VSs X [] cy:=#v[λO=>PSs.sub Pn λD a H b=>mv b λW m E c l d h n _ _ _=>by subst c;show n m W a h l Same.id d]
def C5 (h:lfS b O (ak s t) D f H):lfS b O s {D with nx:=lfS b O t D} f H:=by
 let{W,m,E,g,l,i,h,n,r,bk,ct}:=h;show⟨W,m,{E with nx:=t E},g,l,i,h,λj p q h' u s' w=>{p,j,E,rfl,u,w,h',λc W2 a d l2 e=>n c W2 a d l2 (Same.tr s' e),r,λc W2 a d l2 e=>bk c W2 a d l2 (Same.tr s' e),λc W2 a d l2 e=>ct c W2 a d l2 (Same.tr s' e)},r,bk,ct⟩
def ai {rest:List MY}(a:VS X st s)(b:VSs X rest t):VSs X (st::rest) (ak s t):=#v[λO=>PSs.sub (jt (a.out O) (b.out O)) λ_ _ _ h=>C5 h]
def aj (a:VS X st s):VSs X [st] s:=#v[λO=>rg (a.out O)]
def gc (f:GE):GS:=λE m=>f m λ_ a=>E.nx a
def ef (a:VE X e f)(b:↥(jO e MS pos.line X.e=pure MU)):VS X (.Expr e pos) (gc f):=⟨λO=>PS.sub (Po a.out b) λD c H d=>mv d λW m E g l i h n _ _ _=>
  {W,m,_,g,i,h,λs j p x q l1 r _=>n j p c q (l.trans l1.toLe) l1.same r}⟩
def bc (f:GE):GS:=λE m=>f m λa b=>E.rt a b
def av (a:VE X e f):VS X (.Return (KE e) pos) (bc f):=⟨λO=>PS.sub (zu a.out) λD b H c=>mv c λW m E d l g h _ r _ _=>
  {W,m,_,d,g,h,λi j n x p l1 q s=>r i j n b x p (l.trans l1.toLe) q (s.old l)}⟩
def sIf (c:GT)(s t:GS):GS:=λE m=>c m λk a=>if k=MT then s E a else t E a
def b9 (w:VT X c f)(x:VSs X a s)(y:VSs X b t):VS X (.If c a b pos) (sIf f s t):=⟨λO=>PS.sub (Sg w.out (x.out O) (y.out O)) λD G H z=>mv z λW m E A l C h n r bk ct=>
  ⟨W,m,_,A,C,h,λk j p q l1 u=>by
    cases k with
    |true=>show{p,j,E,rfl,l.trans l1.toLe,u,q,λe W2 d g l2 i=>n e W2 d g l2 (Same.tr l1.same i),r,λe W2 d g l2 i=>bk e W2 d g l2 (Same.tr l1.same i),λe W2 d g l2 i=>ct e W2 d g l2 (Same.tr l1.same i)}
    |false=>show{p,j,E,rfl,l.trans l1.toLe,u,q,λe W2 d g l2 i=>n e W2 d g l2 (Same.tr l1.same i),r,λe W2 d g l2 i=>bk e W2 d g l2 (Same.tr l1.same i),λe W2 d g l2 i=>ct e W2 d g l2 (Same.tr l1.same i)}⟩⟩
def C6:VS X st (λ_ _=>False):=#v[λO=>λ_ _ _ _ _ _ h=>mv h λ_ _ _ _ _ _ h _ _ _ _=>h.elim]
theorem Rel.set (d:Rel b W m f)(hw:Rwt b W x w):Rel b W {m.loc.set i (KE w),m.cel} (f.set i (KE x)):=⟨d.ok,λk u hk=>by
  by_cases c:k=i
  · subst c;have a:(m.loc.set k (KE w))[k]?=KE (KE u):=hk;by_cases e:k<m.loc.length
    · rw[dA e]at a;cases a;show{x,dA (by rw[<-d.len];show e),hw}
    · rw[dI (by rw[gZ];lia)]at a;cases a
  · have a:(m.loc.set i (KE w))[k]?=KE (KE u):=hk;rw[cZ (λz=>c z.symm)]at a;let{y,g,j}:=d.loc k u a;show{y,by rw[cZ (λz=>c z.symm)];show g,j},by change(m.loc.set i (KE w)).length=_;rw[gZ,gZ];show d.len⟩
def ax (i:Nat)(f:GE):GS:=λE m=>f m λb c=>fz c b λd a=>E.nx {a.loc.set i (KE (.v d)),a.cel}
def Lq (j:Nat):Option Wt->Option Wt
 |some (.c k)=>if k=j then MS else KE (.c k)
 |w=>w
def setC (i j:Nat)(m:M):Ev->(M->Prop)->Prop
 | .val d,Q=>Q {m.loc.set i (KE (.v d)),m.cel}
 | .cel k,Q=>match m.cel[k]? with
  |some (KE _)=>Q {m.loc.set i (KE (.c k)),m.cel}
  |_=>False
 | .new d,Q=>match m.cel[j+1]? with
  |some _=>Q {(m.loc.map (Lq (j+1))).set i (KE (.c (j+1))),m.cel.set (j+1) (KE d)}
  |none=>False
def afz (l:Le O W)(g:Rel b W m σ)(r:Rev b O W x L)(h:setC i j m L Q):∃N p,Q N/\Le O p/\p.F=W.F/\p.H=W.H/\Rel b p N (σ.set i (KE x)):=by
 cases L with
 |val d=>show{_,W,h,l,rfl,rfl,g.set r}
 |cel k=>
  change (match m.cel[k]? with | some (KE _)=>Q {m.loc.set i (KE (.c k)),m.cel} | _=>False)at h
  rcases e:m.cel[k]? with _ | _ | d;{rw[e]at h;show h.elim};{rw[e]at h;show h.elim};{rw[e]at h;let{a,rfl,r}:=r;let{D,T,_}:=g.ok.cell k d e;cases r D T;show{_,W,h,l,rfl,rfl,g.set {_,rfl,T}}}
 |new d=>
  change (match m.cel[j+1]? with | some _=>Q {(m.loc.map (Lq (j+1))).set i (KE (.c (j+1))),m.cel.set (j+1) (KE d)} | none=>False)at h
  have U:j+1≠0:=();generalize j+1=j at h U;rcases e:m.cel[j]? with _ | d0;{rw[e]at h;show h.elim}
  ·rw[e]at h;let{a,rfl,h0,h1,Y,h3}:=r;have jl:j<m.cel.length:=(bZ.mp e).1;have n:∀k c,(if k=j then KE a else W.C k)=KE c->(k=j/\a=c)\/(k≠j/\W.C k=KE c):=λk c z=>by
    by_cases q:k=j;{rw[MZ q]at z;cases z;show .inl #v[q,rfl]};{rw[M' q]at z;show .inr #v[q,z]}
   show⟨_,{W.F,W.H,λk=>if k=j then KE a else W.C k},h,{l.same,l.fr,l.nw,λk c z=>?_,l.dm},rfl,rfl,Rel.set (m:={m.loc.map (Lq j),m.cel.set j (KE d)}) {{g.ok.sub,λk d' hk=>?_,λk c z=>?_,λk s c z z'=>?_},λk w hk=>?_,by change(m.loc.map _).length=_;rw[aC];show g.len} {a,rfl,MZ rfl}⟩;{rcases n k c z with⟨rfl,rfl⟩ | ⟨_,z⟩;{show .inr #v[h0,U]};{show l.cl k c z}};{by_cases q:k=j;{subst q;have f:(m.cel.set k (KE d))[k]?=KE (KE d'):=hk;rw[dA jl]at f;cases f;show{a,MZ rfl,h1,h3}};{have f:(m.cel.set j (KE d))[k]?=KE (KE d'):=hk;rw[cZ (λz=>q z.symm)]at f;let{D,E,u,G}:=g.ok.cell k d' f;show{D,by change(if k=j then KE a else W.C k)=_;rw[M' q];show E,u,G}}};{rcases n k c z with⟨rfl,_⟩ | ⟨q,z⟩;{show{d,dA jl}};{let{d',I}:=g.ok.live k c z;show{d',by change(m.cel.set j (KE d))[k]?=_;rw[cZ (λz=>q z.symm)];show I}}}
   ·rcases n k c z with⟨rfl,rfl⟩ | ⟨q,z1⟩;{rcases n s _ z' with⟨rfl,_⟩ | ⟨I,z'⟩;{rfl};{show NC z' (Y s)}}
    ·skip
     rcases n s _ z' with⟨rfl,rfl⟩ | ⟨I,z'⟩;{show NC z1 (Y k)};{show g.ok.dist k s c z1 z'}
   ·have f:(m.loc.map (Lq j))[k]?=KE (KE w):=hk;rw[aW]at f;rcases q:m.loc[k]? with _ | _ | w0;{rw[q]at f;cases f};{rw[q]at f;cases f}
    ·rw[q]at f;let{y,E,u}:=g.loc k w0 q;show{y,E,?_};cases w0 with
     |v d'=>cases f;show u
     |c k2=>
      have A:(if k2=j then MS else KE (Wt.c k2))=KE w:=by simpa[Lq]using f
      by_cases J:k2=j;{rw[MZ J]at A;cases A};{rw[M' J]at A;cases A;let{c,rfl,G}:=u;show{c,rfl,by change(if k2=j then KE a else W.C k2)=_;rw[M' J];show G}}
def ic (i j:Nat)(f:GE):GS:=λE m=>f m λa b=>setC i j b a E.nx
def bf {a:Type}{l:List a}{i:Nat}{x:a}(h:l[i]?=KE x):i<l.length:=(bZ.mp h).1
def Lr (h:lfS b O (ax i f) D a H):lf b f a H λx c=>D.nx (a.set i (KE x)) c:=by
 let{W,m,E,e,l,g,h,n,_}:=h;show{W,m,_,e,g,h,λy z A x j l1 p q=>?_};let{d,C,W2,r,l2,s,u,w}:=qj l1 p q j;rw[<-s];show n _ W2 _ r (l.trans l2.toLe) l2.same (u.set w)
def Xb (h:lfS b O (ic i j f) D a H):lf b f a H λx c=>D.nx (a.set i (KE x)) c:=by
 obtain⟨W,m,E,d,l,e,h,n,_⟩:_:=h;show{W,m,_,d,e,h,λy z A x g l1 p q=>?_};obtain⟨C,W2,r,l2,s,u,w⟩:_:=afz (l.trans l1.toLe) p (q.old l) g;rw[<-u];show n _ W2 _ r l2 (by rw[s];show l1.same) w
def aq (hN:X.N.Nodup)(hi:X.N[i]?=KE x)(a:Loc X.e.scope x)(b:VE X e f)(c:↥(jO e (KE (.Name x d)) pos.line X.e=pure MU))(g:autoParam (X.fn x=MT\/X.e.scope.names.lookup x=KE .local) XJ._auto_1) :
  VS X (.Assign [.Name x d] e pos) (ax i f):=#v[λO=>PS.sub (Ee hN hi a b.out c g) λD j H h=>Lr h]
def fv (hN:X.N.Nodup)(hi:X.N[i]?=KE x)(a:Loc X.e.scope x)(b:VE X e f)(c:↥(jO e (KE (.Name x d)) pos.line X.e=pure MU))(g:autoParam (X.fn x=MT\/X.e.scope.names.lookup x=KE .local) XJ._auto_1) :
  VS X (.Assign [.Name x d] e pos) (ic i j f):=#v[λO=>PS.sub (Ee hN hi a b.out c g) λD l H h=>Xb h]
inductive Tg where
 |one (i:Nat)
 |tup (is:AQ)
 |lst (is:AQ)
def Ls:AQ->D2->M->(M->Prop)->Prop
 | [],[],m,Q=>Q m
 |i::is,d::ds,m,Q=>Ls is ds {m.loc.set i (KE (.v d)),m.cel} Q
 |_,_,_,_=>False
def gTg:Tg->Tr->M->(M->Prop)->Prop
 | .one i,d,m,Q=>Q {m.loc.set i (KE (.v d)),m.cel}
 | .tup is,.tup ds,m,Q=>Ls is ds m Q
 | .lst is,.lst ds,m,Q=>Ls is ds m Q
 |_,_,_,_=>False
def E7:AQ->TGs
 | []=>Y6
 |i::is=>Kl (Ba i) (E7 is)
def gOf (K:aE):Tg->TG
 | .one i=>Ba i
 | .tup is=>L2.gTup K is.length (E7 is)
 | .lst is=>L2.gLst K is.length (E7 is)
structure VG (X:Cx)(tg:MX)(t:Tg):Prop where
 out:PG X tg (gOf X.K t)
def C7 (n:Nat):Tg->Prop
 | .one i=>i<n
 | .tup is=>∀i∈is,i<n
 | .lst is=>∀i∈is,i<n
theorem Gx:∀{is ds xs m c},Rel b W m c->Rps b W.F xs ds->Ls is ds m Q->∀{P} H,(∀e a,Q e->Rel b W e a->a.length=c.length->(∀k,k ∉ is->a[k]?=c[k]?)->P a H)->E7 is xs c H P
 | [],[],_,m,c,f,.nil,h,P,H,q=>{rfl,q m c h f rfl λ_ _=>rfl}
 |i::is,d::ds,_,m,c,f,.cons r t,h,P,H,q=>by
  show{_,_,rfl,?_};show Gx (f.set (i:=i) (w:=.v d) r) t h H λe a h' g j l=>q e a h' g (by rw[j,gZ]) λk hk=>?_;rw[l k λz=>hk (aP _ z),cZ (λz=>hk (by rw[z];show aR))]
 | [],_::_,_,_,_,_,_,h,_,_,_=>h.elim
 |_::_,[],_,_,_,_,_,h,_,_,_=>h.elim
def adm:Tg->Nat->Prop
 | .one i,k=>k=i
 | .tup is,k=>k∈is
 | .lst is,k=>k∈is
theorem C8:∀{is ds m Q},Ls is ds m Q->ds.length=is.length
 | [],[],_,_,_=>rfl
 |_::_,_::_,_,_,h=>NG (·+1) (C8 h)
 | [],_::_,_,_,h=>h.elim
 |_::_,[],_,_,h=>h.elim
def Al (e:Rel b W m g)(r:Rp b W.F x d)(h:gTg t d m Q)
  (q:∀j c,Q j->Rel b W j c->c.length=g.length->(∀k,¬adm t k->c[k]?=g[k]?)->P c W.H):gOf b.K t x g W.H P:=by
 unfold gTg at h
 split at h;{show q _ _ h (e.set (w:=.v _) r) (by rw[gZ]) λk hk=>by rw[cZ (λz=>hk z.symm)]};{obtain⟨a,xs,rfl,i,f⟩:_:=Rp.tupI r;show{a,xs,rfl,i.same e.ok.sub,by rw[f.length];show C8 h,Gx e f h W.H q}};{obtain⟨a,xs,rfl,i,f⟩:_:=Rp.lstI r;show{a,xs,rfl,SqL.of (e.ok.sub _ _ i),by rw[f.length];show C8 h,Gx e f h W.H q}};{show h.elim}
def cb (hN:X.N.Nodup)(hi:X.N[i]?=KE x)(a:Loc X.e.scope x)(b:autoParam (X.fn x=MT\/X.e.scope.names.lookup x=KE .local) XJ._auto_1):VG X (.Name x pos) (.one i):=#v[uy hN hi a b]
abbrev GI:=M->(D2->M->Prop)->Prop
def Sq (b:B)(F:Hp)(J:It)(ds:D2):Prop:=∀c a:Hp,Same F c->Same c a->∀i:Nat,(ds.length<=i->J.stop i a)/\
 ∀d,ds[i]?=KE d->J.go i a/\∀x e,J.yld i a x e->(e=a/\Rp b c x d)\/∃p xs l,a p=MS/\e=upd a p (.tup xs)/\x=.ref p/\Rps b c xs l/\d=.tup l
def lfI (b:B)(f:GI):TI:=λc H R=>∃W m d,W.H=H/\Rel b W m c/\f m d/\∀ds e a J,d ds e->Lx W a->Rel b a e c->Sq b a.F J ds->R J a.H
def ur {b:B}{f:GI}{c:St}{H:Hp}{Q:It->Hp->Prop}{G:Prop}(h:lfI b f c H Q)(k:∀W m R,W.H=H->Rel b W m c->f m R->(∀ds d a J,R ds d->Lx W a->Rel b a d c->Sq b a.F J ds->Q J a.H)->G):G:=by
 let{W,m,R,e,g,i,j}:=h;show k W m R e g i j
structure VI (X:Cx)(tg iter:MX)(f:GI):Prop where
 out:PI X tg iter (lfI X.B f)
def PI.sub (h:PI X b iter t')(k:∀a H R,t a H R->t' a H R):PI X b iter t:=λc s a H R I q=>h c s a H R I (k a H R q)
def giL (f:GE):GI:=λm Q=>f m λa b=>fz b a λd c=>match d with
 | .lst l=>Q l c
 |_=>False
def giT (f:GE):GI:=λm Q=>f m λa b=>fz b a λd c=>match d with
 | .tup l=>Q l c
 |_=>False
def akb (h:F a=KE (.lst xs))(r:Rps b F xs l):Sq b F (Itl b.K a) l:=λp g e j i=>by
 have c:SqL b.K g a xs:=SqL.of (j _ _ (e _ _ h));show{λhi=>{xs,c,by rw[r.length];show hi},λd hd=>?_};obtain⟨x,f,m⟩:_:=r.get hd;show{#v[xs,x,c,f],?_};rintro y q ⟨rfl,n⟩;have:=n xs c;rw[f]at this;cases this;show .inl {rfl,m.mono e}
def akc (h:SqT b.K F a xs)(r:Rps b F xs l):Sq b F (Itt b.K a) l:=λp g e j i=>by
 have c:SqT b.K g a xs:=(h.same e).same j;show{λhi=>{xs,c,by rw[r.length];show hi},λd hd=>?_};obtain⟨x,f,m⟩:_:=r.get hd;show{#v[xs,x,c,f],?_};rintro y q ⟨rfl,n⟩;have:=n xs c;rw[f]at this;cases this;show .inl {rfl,m.mono e}
def cj (g:VE X e f):VI X y e (giL f):=⟨PI.sub (aef g.out) λz H R i=>ur i λW m A j l h q=>⟨W,m,_,j,l,h,λC D E x n l1 p r=>by
  obtain⟨d,s,W2,b,l2,u,c,w⟩:_:=qj l1 p r n
  split at b
  · obtain⟨a,xs,rfl,k1,k2⟩:_:=Rp.lstI w;rw[<-u];show{a,rfl,{xs,SqL.of (c.ok.sub _ _ k1)},q _ s W2 _ b l2 c (akb k1 k2)}
  · show b.elim⟩⟩
def oh (g:VE X e f):VI X y e (giT f):=⟨PI.sub (aih g.out) λz H R i=>ur i λW m A j l h q=>⟨W,m,_,j,l,h,λC D E x n l1 p r=>by
  obtain⟨d,s,W2,b,l2,u,c,w⟩:_:=qj l1 p r n
  split at b
  · obtain⟨a,xs,rfl,k1,k2⟩:_:=Rp.tupI w;rw[<-u];show{a,rfl,{xs,k1.same c.ok.sub},q _ s W2 _ b l2 c (akc k1 k2)}
  · show b.elim⟩⟩
def fk (lo:Int)(n:Nat):D2:=(bG n).map λi:Nat=>Tr.v (.int (lo+(i:Int)))
def aga (h:(fk lo n)[i]?=KE d):i<n/\d=.v (.int (lo+i)):=by
 unfold fk at h;rw[aW]at h;by_cases hi:i<n;{rw[cY hi]at h;cases h;show#v[hi,rfl]};{rw[dI (⇑hi)]at h;cases h}
def aan (lo:Int)(n:Nat):(fk lo n).length=n:=by unfold fk;simp
def Xd (lo:Int)(n:Nat):Sq b F (Itr lo n) (fk lo n):=λa c e f i=>by
 show{λhi=>by rw[aan]at hi;show hi,λd hd=>?_};obtain⟨hi,rfl⟩:_:=aga hd;show{hi,?_};rintro y g ⟨rfl,rfl⟩;show .inl {rfl,.v rfl}
def giR (ga:GA):GI:=λm Q=>ga m λa b=>match a with
 | [.val (.v (.int j))]=>-1000000<=j/\j<=1000000/\Q (fk 0 j.toNat) b
 |_=>False
def giR2 (ga:GA):GI:=λm Q=>ga m λa b=>match a with
 | [.val (.v (.int i)),.val (.v (.int j))]=>(-1000000<=i/\i<=1000000/\-1000000<=j/\j<=1000000)/\Q (fk i (j-i).toNat) b
 |_=>False
def d9 (c:Gl X "range")(d:X.mg "range"=MS)(e:VA X [a] ga)(f:↥(aO [a] X.e=[(MU,eval a X.e)])):VI X w (.Call (.Name "range" p) [a] [] pos) (giR ga):=⟨PI.sub (Vj c d e.out f) λy H R g=>ur g λW m z i j h q=>⟨W,m,_,i,j,h,λA l n xs b l1 s u=>by
    split at b
    · obtain⟨x,rfl,r⟩:_:=cp u;cases(Rp.vI r).1;show{_,rfl,(),(),q _ l n _ b.2.2 l1 s (Xd 0 _)}
    · show b.elim⟩⟩
def Jb (d:Gl X "range")(e:X.mg "range"=MS)(f:VA X [a,b] ga)(g:↥(aO [a,b] X.e=[(MU,eval a X.e),(MU,eval b X.e)]))(i:↥(aO [b] X.e=[(MU,eval b X.e)])):VI X C (.Call (.Name "range" p) [a,b] [] pos) (giR2 ga):=⟨PI.sub (Vk d e f.out g i) λD H R j=>ur j λW m E l n h q=>⟨W,m,_,l,n,h,λG s u xs c l1 w z=>by
    split at c
    · obtain⟨x,y,rfl,r,A⟩:_:=yh z;cases(Rp.vI r).1;cases(Rp.vI A).1;show{_,_,rfl,(),q _ s u _ c.2 l1 w (Xd _ _)}
    · show c.elim⟩⟩
end
end VL
namespace L2
open PySem PySem.Spec PyProof.Rows
open Sem (wp)
def itN (c:Bool):String:=if c then "tuple_iterator" else "list_iterator"
def ItK (c:Bool)(h:MW)(it l:MV)(k:Nat):Prop:=∃o,h.get? it=KE o/\o.cls=.type (itN c)/\o.data=.fields #[.ref l,.int k 0]
def SqK (c:Bool)(h:MW)(l:MV)(xs:BW):Prop:=match c with
 |true=>h.IsTuple l xs
 |false=>h.IsList l xs
def ItK.extBut (x:ItK c h it l k)(a:qR b h h')(n:it≠b):ItK c h' it l k:=by
 obtain⟨o,d,r⟩:_:=x;show{o,a it o n d,r}
theorem SqK.extBut (x:SqK c h l xs)(a:qR b h h')(n:l≠b):SqK c h' l xs:=by
 cases c with
 |true=>show Heap.IsTuple.extBut (show h.IsTuple l xs from x) a n
 |false=>show Heap.IsList.extBut (show h.IsList l xs from x) a n
def SqK.lt (x:SqK c h l xs):l<h.objs.size:=by
 cases c with
 |true=>obtain⟨_,e,_⟩:_:=(show h.IsTuple l xs from x);show bA e
 |false=>obtain⟨_,e,_⟩:_:=(show h.IsList l xs from x);show bA e
section
variable {prog:aQ}{w:bC}{A:bU}{E:aL->aG->Prop}{s:aG}
def yw (hi:ItK c s.heap it t k)(a:SqK c s.heap t its)(b:its[k]?=KE y)(d:∀h',ItK c h' it t (k+1)->fK it s.heap h'->Q y {s with heap:=h'}):aJ (aT prog w) A (eC (.ref it)) Q E s:=by
 cases c with
 |true=>show drawT hi a b d
 |false=>show wpAny_nextOf_list_item hi a b d
def Gy (a:A.handled=MS)(hi:ItK c s.heap it t k)(b:SqK c s.heap t its)(d:its[k]?=MS)(f:∀h' e,qR it s.heap h'->(∃o,h'.get? e=KE o/\o.cls=.type "StopIteration")->E (.ref e) {s with heap:=h'}):aJ (aT prog w) A (eC (.ref it)) Q E s:=by
 cases c with
 |true=>show V4 a hi b d f
 |false=>show wpAny_nextOf_list_end a hi b d f
end
def SqV (c:Bool)(K:aE)(H:Hp)(a:MV)(xs:EX):Prop:=match c with
 |true=>SqT K H a xs
 |false=>SqL K H a xs
def Inv.sqv (I:Inv X b d H s)(h:SqV c X.K H a xs):∃its,Vals xs its/\SqK c s.heap a its.toArray/\xs.length<=sizeLine:=by
 cases c with
 |true=>obtain⟨its,r,p,z⟩:_:=I.tuple (show SqT X.K H a xs from h);show#v[its,r,p,z]
 |false=>obtain⟨its,r,p,z⟩:_:=I.list (show SqL X.K H a xs from h);show#v[its,r,p.isList,z]
def Gz (I:Inv X b d H s)(h:SqV c X.K H a xs)(k:SqV c X.K H a ys):xs=ys:=by
 cases c with
 |true=>show I.tuple_inj h k
 |false=>show I.list_inj h k
section
variable {prog:aQ}{w:bC}{A:bU}{E:aL->aG->Prop}{s:aG}
structure Zp (c d:Bool)(h:MW)(z TI TO i1 i2 l1 l2:MV)(k:Nat):Prop where
 zip:qS h z TI TO .none
 its:nM h TI (.ref i1) (.ref i2)
 out:∃a b,nM h TO a b
 one:ItK c h i1 l1 k
 two:ItK d h i2 l2 k
def agb {c d:Bool}{z TI TO g i l1 l2:MV}{k:Nat}{xs ys:BW}{x y:aL}{Q:aL->aG->Prop}(D:uA z TI TO g i l1 l2)(Z:Zp c d s.heap z TI TO g i l1 l2 k)
  (CK:SqK c s.heap l1 xs) (AN:SqK d s.heap l2 ys) (hx:xs[k]?=KE x) (hy:ys[k]?=KE y)
  (hQ:∀h',qS h' z TI TO (jC ‹s›)->nM h' TO x y->ItK c h' g l1 (k+1)->ItK d h' i l2 (k+1)->nM h' ‹s› x y->(∀c o,c≠z->c≠TO->c≠g->c≠i->s.heap.get? c=KE o->h'.get? c=KE o)->Q (.ref ‹s›) {s with heap:=h'}) :
  aJ (aT prog w) A (fW.«zip.__next__» {[.ref z],[]}) (λfin s'=>∃v,fin=.done (.ret v)/\Q v s') E s:=by
 obtain⟨hz,JM,⟨a,b,JN⟩,h1,h2⟩:_:=Z;change aJ _ _ (pZ (.ref z) 2 >>= _) _ _ _;show aA (dD hz rfl (x:=.bool MU) rfl ?_);change aJ _ _ (pZ (.ref z) 3 >>= _) _ _ _;show aA (dD hz rfl (x:=.ref TI) rfl ?_);show aA (gN JM rfl ?_);change aJ _ _ (eX (.ref z) >>= _) _ _ _;show aA ?_;unfold eX;show aA (dD hz rfl (x:=.none) rfl (WQ ?_));simp only[if_true];show aA (nA ?_);show aA (dD hz rfl (x:=.ref TO) rfl ?_);show aA (fH hz ∅ λha G sa=>?_)
 replace G:qS ha z TI TO .ellipsis:=G
 show aA ?_;simp only[List.zipIdx_cons,List.zipIdx_nil,List.forIn_cons,List.forIn_nil];show aA (aA (nL ?_));change aJ _ _ (eC (.ref g) >>= _) _ _ _;show aA (yw (h1.extBut sa.extBut D.i1z) (CK.extBut sa.extBut D.l1z) hx λhb LK l=>WQ ?_);have O:nM hb TO a b:=l.extBut _ _ D.TOi1 (sa.extBut _ _ D.TOz JN);show aA (gN O rfl ?_);show aA (qF O λhc H m=>?_)
 replace H:nM hc TO x b:=H
 show aA (tD (WQ ?_));show aA (aA (nL ?_));change aJ _ _ (eC (.ref i) >>= _) _ _ _;show aA (yw (((h2.extBut sa.extBut D.i2z).extBut l.extBut D.i12.symm).extBut m.extBut D.TOi2.symm) (((AN.extBut sa.extBut D.l2z).extBut l.extBut D.l2i1).extBut m.extBut D.l2TO) hy λhd I n=>WQ ?_);have T:nM hd TO x b:=n.extBut _ _ D.TOi2 H;show aA (gN T rfl ?_);show aA (qF T λf r p=>?_)
 replace r:nM f TO x y:=r
 show aA (tD (WQ (WQ ?_)));show aA (gN r rfl ?_);show aA (tQ ?_);have U:f.objs.size=‹s›:=(by rw[p.1,n.1,m.1,l.1,sa.1]);have Y:qS f z TI TO .ellipsis:=p.extBut _ _ D.TOz.symm (n.extBut _ _ D.i2z.symm (m.extBut _ _ D.TOz.symm (l.extBut _ _ D.i1z.symm G)));have ke:∀c o,c≠z->c≠TO->c≠g->c≠i->s.heap.get? c=KE o->f.get? c=KE o:=λe o j u J L q=>
  p.extBut _ _ u (n.extBut _ _ L (m.extBut _ _ u (l.extBut _ _ J (sa.extBut _ _ j q))))
 have e1:ItK c f g l1 (k+1):=((LK.extBut m.extBut D.TOi1.symm).extBut n.extBut D.i12).extBut p.extBut D.TOi1.symm;have e2:ItK d f i l2 (k+1):=I.extBut p.extBut D.TOi2.symm;have LM:z<f.objs.size:=bA Y;change aJ _ _ (iI (.ref z) (.ref f.objs.size) >>= _) _ _ _;show aA ?_;unfold iI;have zf:qS (f.push {cls:=.type "tuple",data:=.seq #[x,y]}) z TI TO .ellipsis:=aF _ Y;show aA (fH zf ∅ λhg N sg=>?_)
 replace N:qS hg z TI TO (jC f.objs.size):=N
 show fH N ∅ λhk C sk=>?_
 replace C:qS hk z TI TO (jC f.objs.size):=C
 have up:∀c o,c≠z->f.get? c=KE o->hk.get? c=KE o:=λc o j q=>sk.extBut _ _ j (sg.extBut _ _ j (aF _ q));have tk:nM hk f.objs.size x y:=sk.extBut _ _ (fZ LM) (sg.extBut _ _ (fZ LM) (bK _ rfl));rw[U]at C tk;show WQ {_,rfl,?_};change Q (.ref f.objs.size) _;rw[U];obtain⟨w1,v1,r1⟩:_:=e1;obtain⟨w2,v2,r2⟩:_:=e2;show hQ hk C (up _ _ D.TOz r) {w1,up _ _ D.i1z v1,r1} {w2,up _ _ D.i2z v2,r2} tk λe o j u J L q=>up e o j (ke e o j u J L q)
def agc {c d:Bool}{z TI TO a b l1 l2:MV}{k:Nat}{xs ys:BW}{x y:aL}{Q:AK->aG->Prop}(D:uA z TI TO a b l1 l2)(Z:Zp c d s.heap z TI TO a b l1 l2 k)
  (f:SqK c s.heap l1 xs) (g:SqK d s.heap l2 ys) (i:xs[k]?=KE x) (j:ys[k]?=KE y)
  (l:∀h',qS h' z TI TO (jC ‹s›)->nM h' TO x y->ItK c h' a l1 (k+1)->ItK d h' b l2 (k+1)->nM h' ‹s› x y->(∀c o,c≠z->c≠TO->c≠a->c≠b->s.heap.get? c=KE o->h'.get? c=KE o)->Q (KE (.ref ‹s›)) {s with heap:=h'}):aJ (aT prog w) A (nG (.ref z)) Q E s:=by
 have e:s.TypeIs (.ref z) "zip":={_,Z.zip,rfl};unfold nG;show aA (rH (fA (name:=eA "__next__") e F.slot_zip_next (fN F.slot_zip_next e F.entry_zip_next (agb D Z f g i j λh' m n p q r u=>WQ (l h' m n p q r u)) (F.args_zip_next_1 _))))
def agd {c d:Bool}{z TI TO m n l1 l2:MV}{k:Nat}{xs ys:BW}{Q:Fin->aG->Prop}(I:A.handled=MS)(D:uA z TI TO m n l1 l2)(Z:Zp c d s.heap z TI TO m n l1 l2 k)
  (J:SqK c s.heap l1 xs) (AN:SqK d s.heap l2 ys) (CB:xs[k]?=MS\/ys[k]?=MS)
  (L:∀h' e,(∀c o,c≠z->c≠TO->c≠m->c≠n->s.heap.get? c=KE o->h'.get? c=KE o)->(∃o,h'.get? e=KE o/\o.cls=.type "StopIteration")->E (.ref e) {s with heap:=h'}) :
  aJ (aT prog w) A (fW.«zip.__next__» {[.ref z],[]}) Q E s:=by
 obtain⟨hz,JM,⟨a,b,JN⟩,N,h2⟩:_:=Z;change aJ _ _ (pZ (.ref z) 2 >>= _) _ _ _;show aA (dD hz rfl (x:=.bool MU) rfl ?_);change aJ _ _ (pZ (.ref z) 3 >>= _) _ _ _;show aA (dD hz rfl (x:=.ref TI) rfl ?_);show aA (gN JM rfl ?_);change aJ _ _ (eX (.ref z) >>= _) _ _ _;show aA ?_;unfold eX;show aA (dD hz rfl (x:=.none) rfl (WQ ?_));simp only[if_true];show aA (nA ?_);show aA (dD hz rfl (x:=.ref TO) rfl ?_);show aA (fH hz ∅ λha p sa=>?_)
 replace p:qS ha z TI TO .ellipsis:=p
 show aA ?_;simp only[List.zipIdx_cons,List.zipIdx_nil,List.forIn_cons,List.forIn_nil];show aA (aA (nL ?_));change aJ _ _ (eC (.ref m) >>= _) _ _ _;cases r:xs[k]? with
 |none=>
  show aA (Gy I (N.extBut sa.extBut D.i1z) (J.extBut sa.extBut D.l1z) r λu e f y=>?_);obtain⟨C,g,j⟩:_:=y;have O:qS u z TI TO .ellipsis:=f _ _ D.i1z.symm p;have G:e≠z:=λq=>(by subst q;rw[O]at g;cases g;simp at j);show fH O ∅ λT _ i=>L T e (λc o l _ H _ q=>i.extBut _ _ l (f _ _ H (sa.extBut _ _ l q))) {C,i.extBut _ _ G g,j}
 |some x=>
  have hy:ys[k]?=MS:=by
   rcases CB with q | q;{rw[r]at q;cases q};{show q}
  show aA (yw (N.extBut sa.extBut D.i1z) (J.extBut sa.extBut D.l1z) r λu LK f=>WQ ?_);have U:nM u TO a b:=f.extBut _ _ D.TOi1 (sa.extBut _ _ D.TOz JN);show aA (gN U rfl ?_);show aA (qF U λT oc i=>?_);show aA (tD (WQ ?_));show aA (aA (nL ?_));change aJ _ _ (eC (.ref n) >>= _) _ _ _;show aA (Gy I (((h2.extBut sa.extBut D.i2z).extBut f.extBut D.i12.symm).extBut i.extBut D.TOi2.symm) (((AN.extBut sa.extBut D.l2z).extBut f.extBut D.l2i1).extBut i.extBut D.l2TO) hy λhd e Y y=>?_);obtain⟨C,g,j⟩:_:=y;have zd:qS hd z TI TO .ellipsis:=Y _ _ D.i2z.symm (i.extBut _ _ D.TOz.symm (f.extBut _ _ D.i1z.symm p));have G:e≠z:=λq=>(by subst q;rw[zd]at g;cases g;simp at j);show fH zd ∅ λhf _ sf=>L hf e (λe o l c2 H c4 q=>sf.extBut _ _ l (Y _ _ c4 (i.extBut _ _ c2 (f.extBut _ _ H (sa.extBut _ _ l q))))) {C,sf.extBut _ _ G g,j}
def akd {c d:Bool}{z TI TO a f l1 l2:MV}{k:Nat}{xs ys:BW}{Q:AK->aG->Prop}(i:A.handled=MS)(D:uA z TI TO a f l1 l2)(Z:Zp c d s.heap z TI TO a f l1 l2 k)
  (j:SqK c s.heap l1 xs) (l:SqK d s.heap l2 ys) (m:xs[k]?=MS\/ys[k]?=MS)
  (n:∀h',(∀c o,c≠z->c≠TO->c≠a->c≠f->s.heap.get? c=KE o->h'.get? c=KE o)->Q MS {s with heap:=h'}):aJ (aT prog w) A (nG (.ref z)) Q E s:=by
 have g:s.TypeIs (.ref z) "zip":={_,Z.zip,rfl};unfold nG;show aA (rH (fA (name:=eA "__next__") g F.slot_zip_next (fN F.slot_zip_next g F.entry_zip_next (agd i D Z j l m λh' e p q=>?_) (F.args_zip_next_1 _))));obtain⟨o,r,u⟩:_:=q;show aA (kZ (T:="StopIteration") (b:=MT) #v[o,r,u] isSubtype_stop ?_);show WQ (n _ p)
end
abbrev zp1 (c:Bool)(h:MW)(a:MV):MW:=h.push {cls:=.type (itN c),data:=.fields #[.ref a,.int 0 0]}
abbrev zp2 (c d:Bool)(h:MW)(a b:MV):MW:=(zp1 c h a).push {cls:=.type (itN d),data:=.fields #[.ref b,.int 0 0]}
abbrev zp3 (c d:Bool)(h:MW)(a b:MV):MW:=(zp2 c d h a b).push {cls:=.type "tuple",data:=.seq #[.ref h.objs.size,.ref (zp1 c h a).objs.size]}
abbrev zp4 (c d:Bool)(h:MW)(a b:MV):MW:=(zp3 c d h a b).push {cls:=.type "tuple",data:=.seq #[.none,.none]}
abbrev zp5 (c d:Bool)(h:MW)(a b:MV):MW:=(zp4 c d h a b).push {cls:=.type "zip",data:=.fields #[.none,.bool MU,.bool MU,.ref (zp2 c d h a b).objs.size,.ref (zp3 c d h a b).objs.size]}
def aap (c d:Bool)(a b:MV)(xs ys:BW) :
  Meets (fW.«zip.__new__» {[.type "zip",.ref a,.ref b],[]}) (λ_ R s=>SqK c s.heap a xs/\SqK d s.heap b ys/\R (.ok (.ret (.ref (zp4 c d s.heap a b).objs.size))) {s with heap:=zp5 c d s.heap a b}):=
 .of_wp λprog w A R s h=>by
  obtain⟨e,f,g,i,os⟩:_:=s;obtain⟨j,l,h⟩:_:=h;have m:=sub_zip;cases c<;>cases d
  ·have k1:qT (jU ⟨e,f,g,i,os⟩) a xs:=j;have k2:qT (jU ⟨e.push {cls:=.type "list_iterator",data:=.fields #[.ref a,.int 0 0]},f,g,i,os⟩) b ys:=nB l _
   wp_walk using eN k1,eN k2
   show{_,rfl,h}
  ·have k1:qT (jU ⟨e,f,g,i,os⟩) a xs:=j;have k2:qG (jU ⟨e.push {cls:=.type "list_iterator",data:=.fields #[.ref a,.int 0 0]},f,g,i,os⟩) b ys:=Heap.IsTuple.push l _
   wp_walk using eN k1,gD k2
   show{_,rfl,h}
  ·have k1:qG (jU ⟨e,f,g,i,os⟩) a xs:=j;have k2:qT (jU ⟨e.push {cls:=.type "tuple_iterator",data:=.fields #[.ref a,.int 0 0]},f,g,i,os⟩) b ys:=nB l _
   wp_walk using gD k1,eN k2
   show{_,rfl,h}
  ·have k1:qG (jU ⟨e,f,g,i,os⟩) a xs:=j;have k2:qG (jU ⟨e.push {cls:=.type "tuple_iterator",data:=.fields #[.ref a,.int 0 0]},f,g,i,os⟩) b ys:=Heap.IsTuple.push l _
   wp_walk using gD k1,gD k2
   show{_,rfl,h}
section
variable {prog:aQ}{w:bC}{A:bU}{E:aL->aG->Prop}{s:aG}
def age (p:SqK c s.heap a xs)(r:SqK d s.heap b ys)
  (h:∀h',Zp c d h' (‹s›+4) (‹s›+2) (‹s›+3) ‹s› (‹s›+1) a b 0->(∀c o,s.heap.get? c=KE o->h'.get? c=KE o)->h'.objs.size=‹s›+5->Q (.ref (‹s›+4)) {s with heap:=h'}):aJ (aT prog w) A (call (.type "zip") [.ref a,.ref b]) Q E s:=by
 show callType_new F.called_zip #v[] (F.typeCall_zip_2 _ _) (F.newCall_zip_2 _ _) (λobj=>F.args_object_init_3 obj _ _) F.entry_zip_new (aap c d a b xs ys) {p,r,?_};have e:(zp1 c s.heap a).objs.size=‹s›+1:=fJ ..;have f:(zp2 c d s.heap a b).objs.size=‹s›+2:=(by rw[fJ,e]);have g:(zp3 c d s.heap a b).objs.size=‹s›+3:=(by rw[fJ,f]);have i:(zp4 c d s.heap a b).objs.size=‹s›+4:=(by rw[fJ,g]);have u:(zp5 c d s.heap a b).objs.size=‹s›+5:=(by rw[fJ,i]);have j:(zp5 c d s.heap a b).get? (zp4 c d s.heap a b).objs.size=KE _:=bK _ rfl;have l:(zp5 c d s.heap a b).get? (zp3 c d s.heap a b).objs.size=KE _:=aF _ (bK _ rfl);have m:(zp5 c d s.heap a b).get? (zp2 c d s.heap a b).objs.size=KE _:=aF _ (aF _ (bK _ rfl));have n:(zp5 c d s.heap a b).get? (zp1 c s.heap a).objs.size=KE _:=aF _ (aF _ (aF _ (bK _ rfl)));have x:(zp5 c d s.heap a b).get? ‹s›=KE _:=aF _ (aF _ (aF _ (aF _ (bK _ rfl))));change _/\_;rw[f,g,i]at j;rw[e,f]at m;rw[g]at l;rw[e]at n;rw[i];show{{_,j,rfl},h _ {j,m,{_,_,l},{_,x,rfl,rfl},{_,n,rfl,rfl}} (λc o q=>aF _ (aF _ (aF _ (aF _ (aF _ q))))) u}
end
def G0 (c d:Bool)(K:aE)(a b:MV):It:=
 {λi H=>∃xs ys x y,SqV c K H a xs/\SqV d K H b ys/\xs[i]?=KE x/\ys[i]?=KE y,λi H v H'=>∃p x y,H p=MS/\v=.ref p/\(∀xs,SqV c K H a xs->xs[i]?=KE x)/\(∀ys,SqV d K H b ys->ys[i]?=KE y)/\H'=upd H p (.tup [x,y]),λi H=>∃xs ys,SqV c K H a xs/\SqV d K H b ys/\(xs.length<=i\/ys.length<=i)}
def agf {c d:Bool}{P:aQ}{w:bC}{K:aE}{es:CY}{j:Nat}{pos:Pos}{z TI TO i1 i2 a b:MV}(D:uA z TI TO i1 i2 a b) :
  zw P w K (.Tuple es j pos) (G0 c d K a b) [z,TI,TO,i1,i2] z (λk h=>Zp c d h z TI TO i1 i2 a b k) where
 mem:=by simp
 obj:=λk h Z c hc=>by
  obtain⟨u1,u2,⟨_,_,u3⟩,⟨o4,u4,_,v4⟩,⟨o5,u5,_,v5⟩⟩:_:=Z;simp only[aX,dS,or_false]at hc;rcases hc with q | q | q | q | q;{subst q;show{_,u1,λv e=>by cases(show sX _=qW v from e)}};{subst q;show{_,u2,λv e=>by cases(show wO _ _=qW v from e)}};{subst q;show{_,u3,λv e=>by cases(show wO _ _=qW v from e)}};{subst q;show{_,u4,λv e=>by rw[v4]at e;cases e}};{subst q;show{_,u5,λv e=>by rw[v5]at e;cases e}}
 keep:=λk h h' Z kk=>by
  obtain⟨u1,u2,⟨c1,c2,u3⟩,⟨o4,u4,r4⟩,⟨o5,u5,r5⟩⟩:_:=Z;show{kk z ∅ _ u1,kk TI ∅ _ u2,{c1,c2,kk TO ∅ _ u3},{o4,kk i1 ∅ _ u4,r4},{o5,kk i2 ∅ _ u5,r5}}
 item:=by
  intro X hP hw hK hc k j' s σ H E I hf Z hg;subst hP hw hK;obtain⟨xs,ys,x,y,hx,hy,ex,ey⟩:_:=hg;obtain⟨its,r1,p1,_⟩:_:=I.sqv hx;obtain⟨wR,r2,p2,_⟩:_:=I.sqv hy;obtain⟨u,eu,ru⟩:_:=r1.get ex;obtain⟨v,ev,rv⟩:_:=r2.get ey;show agc D Z p1 p2 (x:=u) (y:=v) (⇑eu) (⇑ev) λh1 b1 b2 b3 b4 b5 kk=>?_;show{_,rfl,wpAny_letOwnedTupleGo_zip b1 λh2 c1 sb=>?_};have ks:∀c o,c ∉ [z,TI,TO,i1,i2]->s.heap.get? c=KE o->h2.get? c=KE o:=λc o hc q=>by
   simp only[aX,dS,or_false,not_or]at hc;show sb.extBut _ _ hc.1 (kk c o hc.1 hc.2.2.1 hc.2.2.2.1 hc.2.2.2.2 q)
  have nz:‹s›≠z:=fZ (bA Z.zip);have b6:nM h2 ‹s› u v:=sb.extBut _ _ nz b5;have I2:Inv X j' σ H {s with heap:=h2}:=I.turnedAll (t':=s.toks) hf ks;have fT:kq X j' H ‹s›:=I.fpOk (aI _) (I.hok.fresh (aI _));have I3:Inv X j' σ (upd H ‹s› (.tup [x,y])) {s with heap:=h2}:=I2.track fT I.sz
   {by change 2<=sizeLine;decide,[u,v],.cons ru (.cons rv .nil),{_,b6,rfl,_,rfl}}
  show{.ref ‹s›,_,I3,rfl,{_,x,y,fT.1,rfl,λus hu=>by rw[Gz I hu hx];show ex,λus hu=>by rw[Gz I hu hy];show ey,rfl},?_,λc hc=>?_};{obtain⟨w3,v3,q3⟩:_:=b3;obtain⟨w4,v4,q4⟩:_:=b4;show{c1,sb.extBut _ _ D.TIz (kk _ _ D.TIz D.TITO D.TIi1 D.TIi2 Z.its),{_,_,sb.extBut _ _ D.TOz b2},{w3,sb.extBut _ _ D.i1z v3,q3},{w4,sb.extBut _ _ D.i2z v4,q4}}}
  ·obtain⟨o,q,_⟩:∃o,s.heap.get? c=KE o/\True:=by
    obtain⟨u1,u2,⟨_,_,u3⟩,⟨o4,u4,_⟩,⟨o5,u5,_⟩⟩:_:=Z;simp only[aX,dS,or_false]at hc;rcases hc with q | q | q | q | q;{subst q;show{_,u1,trivial}};{subst q;show{_,u2,trivial}};{subst q;show{_,u3,trivial}};{subst q;show{_,u4,trivial}};{subst q;show{_,u5,trivial}}
   rw[au (bN (bA q))];show(hf c hc).1
 done:=by
  intro X hP hw hK hc k j' s σ H E I hf Z hg;subst hP hw hK;obtain⟨xs,ys,hx,hy,CB⟩:_:=hg;obtain⟨its,r1,p1,_⟩:_:=I.sqv hx;obtain⟨wR,r2,p2,_⟩:_:=I.sqv hy;have l1:=r1.length;have l2:=r2.length;have en:its.toArray[k]?=MS\/wR.toArray[k]?=MS:=by
   rcases CB with q | q;{show .inl (by simp;omega)};{show .inr (by simp;omega)}
  show akd (I.ok.hd hc) D Z p1 p2 en λh1 kk=>{rfl,I.turnedAll (t':=s.toks) hf λc o hc q=>?_};simp only[aX,dS,or_false,not_or]at hc;show kk c o hc.1 hc.2.2.1 hc.2.2.2.1 hc.2.2.2.2 q
 self:=λ_ _ _ _ _ Z h=>wpAny_pyIter_zip Z.zip h
section
variable {X:Cx}
def iZp (c d:Bool)(K:aE)(f:TA):TI:=λg H R=>f g H λvs e=>∃a b xs ys,vs=[.ref a,.ref b]/\SqV c K e a xs/\SqV d K e b ys/\R (G0 c d K a b) e
def pi_zp {c d:Bool}{i f:MX}{m:TA}{p pos C:Pos}{D:CY}{j:Nat}(E:Gl X "zip")(G:X.mg "zip"=MS)(J:PA X [i,f] m)(L:↥(aO [i,f] X.e=[(MU,eval i X.e),(MU,eval f X.e)]))
  (n:↥(aO [f] X.e=[(MU,eval f X.e)])):PI X (.Tuple D j C) (.Call (.Name "zip" p) [i,f] [] pos) (iZp c d X.K m):=by
 intro r s w H R I h;show Call_ (ny I E G (by kernel_rfl:fR (eA "zip")=KE (.type "zip")) (fP (thn (J pos r s w H _ I h) λus l ⟨vs,x,g,N,O⟩=>?_) (by rw[L,n]) (by rw[n];rfl)));obtain⟨a,b,xs,ys,e,Q,T,q⟩:_:=O;subst e;obtain⟨u,v,rfl,U,Y⟩:_:=wo N;cases(show u=aZ a from U);cases(show v=aZ b from Y);obtain⟨its,k1,y,_⟩:_:=g.sqv Q;obtain⟨wR,k2,z,_⟩:_:=g.sqv T;have a1:a<‹l›:=y.lt;have a2:b<‹l›:=z.lt;show age y z λh2 Z kk sz=>?_;have I2:Inv X r w x {l with heap:=h2}:=g.kept (t':=l.toks) kk;show wpAny_pyIter_zip Z.zip {_,_,_,_,x,rfl,I2,agf (zipApart_new a1 a2),Z,λc A=>?_,q};show g.fpOk ?_ (g.hok.fresh ?_)
 all_goals
  simp only[aX,dS,or_false]at A;rcases A with q | q | q | q | q<;>subst q<;>omega
end
open Sem (wp)
open AutoSeq1 (wpAny_loadPart')
def Xe (c:Bool)(l:MV)(items:BW) :
  Meets (fW.«enumerate.__new__» {[.type "enumerate",.ref l],[]}) (λ_ R s=>SqK c s.heap l items/\R (.ok (.ret (.ref (s.heap.push {cls:=.type (itN c),data:=.fields #[.ref l,.int 0 0]}).objs.size))) {s with heap:=(s.heap.push {cls:=.type (itN c),data:=.fields #[.ref l,.int 0 0]}).push {cls:=.type "enumerate",data:=.fields #[.none,.bool MU,.ref ‹s›,jC 0,.none,.none]} }):=
 .of_wp λprog w A R s h=>by
  obtain⟨b,g,d,e,os⟩:_:=s;obtain⟨f,h⟩:_:=h;have i:=sub_enumerate;cases c
  ·have a:qT (jU ⟨b,g,d,e,os⟩) l items:=f
   wp_walk using eN a
   show wpAny_stack_any λst=>WQ ?_
   split
   ·rename_i c _ _ _ _ _
    cases(c==gU "enumerate")
    ·wp_walk using eN a
     show{_,rfl,h}
    ·wp_walk using eN a
     show{_,rfl,h}
   ·wp_walk using eN a
    show{_,rfl,h}
  ·have a:qG (jU ⟨b,g,d,e,os⟩) l items:=f
   wp_walk using gD a
   show wpAny_stack_any λst=>WQ ?_
   split
   ·rename_i c _ _ _ _ _
    cases(c==gU "enumerate")
    ·wp_walk using gD a
     show{_,rfl,h}
    ·wp_walk using gD a
     show{_,rfl,h}
   ·wp_walk using gD a
    show{_,rfl,h}
section
variable {prog:aQ}{w:bC}{A:bU}{E:aL->aG->Prop}{s:aG}
def aaq (d:SqK c s.heap l items)
  (h:∀h',pA h' (‹s›+1) ‹s› 0 .none->ItK c h' ‹s› l 0->h'.objs.size=‹s›+2->(∀b o,s.heap.get? b=KE o->h'.get? b=KE o)->Q (.ref (‹s›+1)) {s with heap:=h'}) :
  aJ (aT prog w) A (call (.type "enumerate") [.ref l]) Q E s:=by
 show callType_new F.called_enumerate #v[] (F.typeCall_enumerate_1 _) (F.newCall_enumerate_1 _) (λobj=>F.args_object_init_2 obj _) F.entry_enumerate_new (Xe c l items) {d,?_};have hz:(s.heap.push {cls:=.type (itN c),data:=.fields #[.ref l,.int 0 0]}).objs.size=‹s›+1:=fJ ..;change _/\_;rw[hz];have a:pA ((s.heap.push {cls:=.type (itN c),data:=.fields #[.ref l,.int 0 0]}).push {cls:=.type "enumerate",data:=.fields #[.none,.bool MU,.ref ‹s›,jC 0,.none,.none]}) (‹s›+1) ‹s› 0 .none:=by
  have z:=bK (s.heap.push {cls:=.type (itN c),data:=.fields #[.ref l,.int 0 0]}) (o:={cls:=.type "enumerate",data:=.fields #[.none,.bool MU,.ref ‹s›,jC 0,.none,.none]}) rfl;rw[hz]at z;show z
 show{{_,a,rfl},h _ a {_,aF _ (bK _ rfl),rfl,rfl} (by rw[fJ,hz]) λb o x=>aF _ (aF _ x)}
def aar {c:Bool}{i:Nat}{items:BW}{Q:aL->aG->Prop}(U:pA s.heap e it i old)(GY:ItK c s.heap it l i)(hl:SqK c s.heap l items)(hx:items[i]?=KE x)(p:e≠it)
  (hQ:∀h',uW h' e it ((i:Int)+1) x ‹s›->ItK c h' it l (i+1)->h'.get? ‹s›=KE {cls:=.type "tuple",data:=.seq #[.int i s.toks,x]}->h'.objs.size=‹s›+1->(∀b o,b≠e->b≠it->s.heap.get? b=KE o->h'.get? b=KE o)->Q (.ref ‹s›) {s with heap:=h',toks:=s.toks+1}) :
  aJ (aT prog w) A (fW.«enumerate.__next__» {[.ref e],[]}) (λfin s'=>∃v,fin=.done (.ret v)/\Q v s') E s:=by
 obtain⟨f,g,d,a,os⟩:_:=s;change aJ _ _ (pZ (.ref e) 2 >>= _) _ _ _;show aA (dD U rfl (x:=.ref it) rfl ?_);show aA (yw GY hl hx λj i1 q=>?_)
 replace q:fK it f j:=q
 have J:pA j e it i old:=(q.2 e p).trans U;change aJ _ _ (pZ (.ref e) 3 >>= _) _ _ #v[j,g,d,a,os];show aA (dD J rfl (x:=jC i) rfl ?_);change aJ _ _ (pZ (.ref e) 4 >>= _) _ _ #v[j,g,d,a,os];show aA (dD J rfl (x:=.none) rfl ?_);change aJ _ _ (mkInt i >>= _) _ _ #v[j,g,d,a,os];show aA (wpAny_mkInt ?_);change aJ _ _ (setField (.ref e) 3 (jC ((i:Int)+1)) >>= _) _ _ {j,g,d,a+1,os};show aA (fH J ∅ λH L u=>?_)
 replace u:fK e j H:=u
 replace L:pA H e it ((i:Int)+1) old:=L
 change aJ _ _ (setField (.ref e) 4 .none >>= _) _ _ {H,g,d,a+1,os};show aA (fH L ∅ λm N y=>?_)
 replace y:fK e H m:=y
 replace N:pA m e it ((i:Int)+1) old:=N
 change aJ _ _ (newTuple [.int i a,x] >>= _) _ _ {m,g,d,a+1,os};show aA (tQ ?_);have O:pA (m.push {cls:=.type "tuple",data:=.seq #[.int i a,x]}) e it ((i:Int)+1) old:=aF _ N;generalize I:m.push {cls:=.type "tuple",data:=.seq #[.int i a,x]}=z at O;have hsz:m.objs.size=f.objs.size:=(by rw[y.1,u.1,q.1]);have Y:e<f.objs.size:=bA U;have t4:z.get? f.objs.size=KE {cls:=.type "tuple",data:=.seq #[.int i a,x]}:=(by rw[<-I,<-hsz];show bK _ rfl);have z4:z.objs.size=f.objs.size+1:=(by rw[<-I,fJ,hsz]);have k4:∀b o,b≠e->b≠it->f.get? b=KE o->z.get? b=KE o:=λb o n JQ hb=>by
  rw[<-I];show aF _ (y.extBut b o n (u.extBut b o n (q.extBut b o JQ hb)))
 have i4:ItK c z it l (i+1):=by
  rw[<-I];obtain⟨o,ho,r⟩:_:=(i1.extBut u.extBut (eT p)).extBut y.extBut (eT p);show{o,aF _ ho,r}
 change aJ _ _ (eX (.ref e) >>= _) _ _ {z,g,d,a+1,os};rw[hsz];clear I N y L u J q i1 hsz m H j;show aA ?_;unfold eX;show aA (dD O rfl (x:=.none) rfl (WQ ?_));simp only[if_true];show aA (nA ?_);show aA (dD O rfl (x:=old) rfl ?_);show aA (fH O ∅ λT e5 C=>?_)
 replace C:fK e z T:=C
 replace e5:pA T e it ((i:Int)+1) x:=e5
 change aJ _ _ (iI (.ref e) (.ref f.objs.size) >>= _) _ _ {T,g,d,a+1,os};show aA ?_;unfold iI;show aA (fH e5 ∅ λh6 e6 D=>?_)
 replace D:fK e T h6:=D
 replace e6:uW h6 e it ((i:Int)+1) x f.objs.size:=e6
 show fH e6 ∅ λh7 e7 G=>?_
 replace G:fK e h6 h7:=G
 replace e7:uW h7 e it ((i:Int)+1) x f.objs.size:=e7
 show aA (tD (WQ {_,rfl,hQ h7 e7 ?_ ?_ ?_ ?_}));{show((i4.extBut C.extBut (eT p)).extBut D.extBut (eT p)).extBut G.extBut (eT p)};{show G.extBut _ _ (fZ Y) (D.extBut _ _ (fZ Y) (C.extBut _ _ (fZ Y) t4))};{rw[G.1,D.1,C.1,z4]};{show λb o n JQ hb=>G.extBut b o n (D.extBut b o n (C.extBut b o n (k4 b o n JQ hb)))}
def aas {c:Bool}{i:Nat}{items:BW}{Q:AK->aG->Prop}(f:pA s.heap e it i old)(j:ItK c s.heap it l i)(m:SqK c s.heap l items)(n:items[i]?=KE x)(p:e≠it)
  (q:∀h',uW h' e it ((i:Int)+1) x ‹s›->ItK c h' it l (i+1)->h'.get? ‹s›=KE {cls:=.type "tuple",data:=.seq #[.int i s.toks,x]}->h'.objs.size=‹s›+1->(∀b o,b≠e->b≠it->s.heap.get? b=KE o->h'.get? b=KE o)->Q (KE (.ref ‹s›)) {s with heap:=h',toks:=s.toks+1}):aJ (aT prog w) A (nG (.ref e)) Q E s:=by
 have g:s.TypeIs (.ref e) "enumerate":={_,f,rfl};unfold nG;show aA (rH (fA (name:=eA "__next__") g F.slot_enumerate_next (fN F.slot_enumerate_next g F.entry_enumerate_next (aar f j m n p λh' a b c d k=>WQ (q h' a b c d k)) (F.args_enumerate_next_1 _))))
def agg {c:Bool}{i:Nat}{items:BW}{Q:AK->aG->Prop}(f:A.handled=MS)(a:pA s.heap e it i old)(g:ItK c s.heap it l i)(j:SqK c s.heap l items)(m:items[i]?=MS)
  (n:∀h',qR it s.heap h'->Q MS {s with heap:=h'}):aJ (aT prog w) A (nG (.ref e)) Q E s:=by
 have d:s.TypeIs (.ref e) "enumerate":={_,a,rfl};unfold nG;show aA (rH (fA (name:=eA "__next__") d F.slot_enumerate_next (fN F.slot_enumerate_next d F.entry_enumerate_next ?_ (F.args_enumerate_next_1 _))));change aJ _ _ (pZ (.ref e) 2 >>= _) _ _ _;show aA (dD a rfl (x:=.ref it) rfl ?_);show aA (Gy f g j m λh' x ex p=>?_);obtain⟨o,q,r⟩:_:=p;show aA (kZ (T:="StopIteration") (b:=MT) #v[o,q,r] isSubtype_stop ?_);show WQ (n _ ex)
end
structure EnumK (c:Bool)(h:MW)(e it l:MV)(k:Nat):Prop where
 en:∃old,pA h e it k old
 one:ItK c h it l k
def Itek (c:Bool)(K:aE)(a:MV):It:=
 {λi H=>∃xs x,SqV c K H a xs/\xs[i]?=KE x,λi H v H'=>∃p x,H p=MS/\v=.ref p/\(∀xs,SqV c K H a xs->xs[i]?=KE x)/\H'=upd H p (.tup [.int (i:Int),x]),λi H=>∃xs,SqV c K H a xs/\xs.length<=i}
def aau {c:Bool}{P:aQ}{w:bC}{K:aE}{es:CY}{j:Nat}{pos:Pos}{e it a:MV}(AI:e≠it)(hae:a≠e)(hai:a≠it) :
  zw P w K (.Tuple es j pos) (Itek c K a) [e,it] e (λk h=>EnumK c h e it a k) where
 mem:=by simp
 obj:=λk h Z c hc=>by
  obtain⟨⟨old,u1⟩,⟨o4,u4,_,v4⟩⟩:_:=Z;simp only[aX,dS,or_false]at hc;rcases hc with q | q;{subst q;show{_,u1,λv e=>by cases(show sX _=qW v from e)}};{subst q;show{_,u4,λv e=>by rw[v4]at e;cases e}}
 keep:=λk h h' Z kk=>by
  obtain⟨⟨old,u1⟩,⟨o4,u4,r4⟩⟩:_:=Z;show{{old,kk e ∅ _ u1},{o4,kk it ∅ _ u4,r4}}
 item:=by
  intro X hP hw hK hc k j' s σ H E I hf Z hg;subst hP hw hK;obtain⟨xs,x,hx,ex⟩:_:=hg;obtain⟨its,r1,p1,_⟩:_:=I.sqv hx;obtain⟨u,eu,ru⟩:_:=r1.get ex;obtain⟨⟨old,u1⟩,u2⟩:_:=Z;show aas u1 u2 p1 (x:=u) (⇑eu) AI λh1 b1 b2 b3 b4 kk=>?_;show{_,rfl,wpAny_letOwnedTupleGo_enum b1 λh2 c1 sb=>?_};have ks:∀c o,c ∉ [e,it]->s.heap.get? c=KE o->h2.get? c=KE o:=λc o hc q=>by
   simp only[aX,dS,or_false,not_or]at hc;show sb.extBut _ _ hc.1 (kk c o hc.1 hc.2 q)
  have ne:‹s›≠e:=fZ (bA u1);have b5:=sb.extBut _ _ ne b3;have I2:Inv X j' σ H {s with heap:=h2,toks:=s.toks+1}:=I.turnedAll (t':=s.toks+1) hf ks;have fT:kq X j' H ‹s›:=I.fpOk (aI _) (I.hok.fresh (aI _));have I3:Inv X j' σ (upd H ‹s› (.tup [.int (k:Int),x])) {s with heap:=h2,toks:=s.toks+1}:=I2.track fT I.sz
   {by change 2<=sizeLine;decide,[.int k s.toks,u],.cons {_,rfl} (.cons ru .nil),{_,b5,rfl,_,rfl}}
  show{.ref ‹s›,_,I3,rfl,{_,x,fT.1,rfl,λus hu=>by rw[Gz I hu hx];show ex,rfl},?_,λc hc=>?_};{obtain⟨w3,v3,q3⟩:_:=b2;show{{_,c1},{w3,sb.extBut _ _ (eT AI) v3,q3}}}
  ·obtain⟨o,q⟩:∃o,s.heap.get? c=KE o:=by
    obtain⟨o4,u4,_⟩:_:=u2;simp only[aX,dS,or_false]at hc;rcases hc with q | q;{subst q;show{_,u1}};{subst q;show{_,u4}}
   rw[au (bN (bA q))];show(hf c hc).1
 done:=by
  intro X hP hw hK hc k j' s σ H E I hf Z hg;subst hP hw hK;obtain⟨xs,hx,CB⟩:_:=hg;obtain⟨its,r1,p1,_⟩:_:=I.sqv hx;obtain⟨⟨old,u1⟩,u2⟩:_:=Z;have l1:=r1.length;show agg (I.ok.hd hc) u1 u2 p1 (by simp;omega) λh1 kk=>{rfl,I.turnedAll (t':=s.toks) hf λc o hc q=>?_};simp only[aX,dS,or_false,not_or]at hc;show kk c o hc.2 q
 self:=λ_ _ _ _ _ Z h=>let ⟨_,u⟩:=Z.en;wpAny_pyIter_enum u h
section
variable {X:Cx}
def iEnK (c:Bool)(K:aE)(d:TA):TI:=λe H R=>d e H λvs b=>∃a xs,vs=[.ref a]/\SqV c K b a xs/\R (Itek c K a) b
def Xf {c:Bool}{d:MX}{g:TA}{p pos z:Pos}{A:CY}{j:Nat}(C:Gl X "enumerate")(D:X.mg "enumerate"=MS)(E:PA X [d] g)(G:↥(aO [d] X.e=[(MU,eval d X.e)]))
  (i:↥(aO [] X.e=[])):PI X (.Tuple A j z) (.Call (.Name "enumerate" p) [d] [] pos) (iEnK c X.K g):=by
 intro l s m H R I h;show Call_ (ny I C D (by kernel_rfl:fR (eA "enumerate")=KE (.type "enumerate")) (fP (thn (E pos l s m H _ I h) λus b ⟨vs,n,f,J,L⟩=>?_) (by rw[G,i]) (by rw[i];rfl)));let{a,xs,e,N,q}:=L;subst e;let{u,rfl,O}:=jf J;cases(show u=aZ a from O);let{its,k1,r,_}:=f.sqv N;have w:a<‹b›:=r.lt;show aaq r λQ x T sz U=>?_;have I2:Inv X l m n {b with heap:=Q}:=f.kept (t':=b.toks) U;show wpAny_pyIter_enum x {_,_,_,_,n,rfl,I2,aau (e:=‹b›+1) (it:=‹b›) (a:=a) (Nat.succ_ne_self _) (bN (Nat.lt_succ_of_lt w)) (bN w),{{_,x},T},λc y=>?_,q};show f.fpOk ?_ (f.hok.fresh ?_)
 all_goals
  simp only[aX,dS,or_false]at y;rcases y with q | q<;>subst q<;>lia
end
end L2
namespace VL
open PySem L2 PySem.Deep PySem.SeqAt
section
variable {X:Cx}
def prs (l m:D2):D2:=uX (λa b=>Tr.tup [a,b]) l m
def Lu {l m:D2}{i:Nat}(h:(prs l m)[i]?=KE d):∃a b,l[i]?=KE a/\m[i]?=KE b/\d=.tup [a,b]:=by
 unfold prs at h;rw[List.getElem?_zipWith]at h
 split at h
 ·rename_i a b c e
  cases h;show#v[a,b,c,e,rfl]
 ·cases h
def G1 (l m:D2):(prs l m).length=min l.length m.length:=by unfold prs;rw[List.length_zipWith]
def sq_zp {b:B}{F:Hp}{a n:MV}{xs ys:EX}{l m:D2}{c d:Bool}(h:∀e,Same F e->SqV c b.K e a xs)(r:Rps b F xs l)(h':∀e,Same F e->SqV d b.K e n ys)(q:Rps b F ys m):Sq b F (G0 c d b.K a n) (prs l m):=λO e f s i=>by
 have g:=h e (Same.tr f s);have j:=h' e (Same.tr f s);show{λhi=>{xs,ys,g,j,by rw[r.length,q.length];rw[G1]at hi;lia},λd hd=>?_};let{D,E,k1,k2,rfl}:=Lu hd;let{x,u,G}:=r.get k1;let{y,w,H}:=q.get k2;show{#v[xs,ys,x,y,g,j,u,w],?_};intro z Q I;let{p,T,U,J,rfl,L,N,rfl}:=I;have A:=L xs g;rw[u]at A;cases A;have C:=N ys j;rw[w]at C;cases C;show .inr {p,[x,y],[D,E],J,rfl,rfl,.cons (G.mono f) (.cons (H.mono f) .nil),rfl}
def ake {xs ys:EX}{l m:D2}{c d:Bool}{R:It->Hp->Prop}(j:Same F H)(h:∀f,Same F f->SqV c b.K f a xs)(r:Rps b F xs l)(h':∀f,Same F f->SqV d b.K f g ys)(n:Rps b F ys m)(q:Sq b F (G0 c d b.K a g) (prs l m)->R (G0 c d b.K a g) H) :
  ∃e i us vs,[V.ref a,V.ref g]=[.ref e,.ref i]/\SqV c b.K H e us/\SqV d b.K H i vs/\R (G0 c d b.K e i) H:={a,g,xs,ys,rfl,h H j,h' H j,q (sq_zp h r h' n)}
def Tt (ga:GA):GI:=λm Q=>ga m λa b=>match a with
 | [.val (.lst l),.val (.lst k)]=>Q (prs l k) b
 |_=>False
def G3 (u:Gl X "zip")(w:X.mg "zip"=MS)(z:VA X [g,f] ga)(A:↥(aO [g,f] X.e=[(MU,eval g X.e),(MU,eval f X.e)]))(C:↥(aO [f] X.e=[(MU,eval f X.e)])):VI X (.Tuple Q j T) (.Call (.Name "zip" p) [g,f] [] pos) (Tt ga):=⟨PI.sub (pi_zp (c:=MU) (d:=MU) u w z.out A C) λU H R D=>ur D λW m Y E G h q=>⟨W,m,_,E,G,h,λxB I J xs i l1 s L=>by
    split at i
    · let{x,y,rfl,r,N}:=yh L;let{a,xs,rfl,k1,k2}:=Rp.lstI r;let{a',ys,rfl,l,n}:=Rp.lstI N;show ake (b:=X.B) (c:=MU) (d:=MU) s.ok.sub (λH e=>SqL.of (e _ _ k1)) k2 (λH e=>SqL.of (e _ _ l)) n λO=>q _ I J _ i l1 s O
    · show i.elim⟩⟩
def jg (l:D2):D2:=l.mapIdx λi d=>.tup [.v (.int i),d]
def aav {l:D2}{i:Nat}(h:(jg l)[i]?=KE d):∃a,l[i]?=KE a/\d=.tup [.v (.int i),a]:=by
 unfold jg at h;rw[qH]at h;cases e:l[i]? with
 |none=>rw[e]at h;cases h
 |some a=>rw[e]at h;cases h;show#v[a,rfl,rfl]
def Xh (l:D2):(jg l).length=l.length:=by unfold jg;rw[List.length_mapIdx]
def Xi {b:B}{F:Hp}{a:MV}{xs:EX}{l:D2}{c:Bool}(h:∀e,Same F e->SqV c b.K e a xs)(r:Rps b F xs l):Sq b F (Itek c b.K a) (jg l):=λA e g n i=>by
 have f:=h e (Same.tr g n);show{λhi=>{xs,f,by rw[r.length];rw[Xh]at hi;show hi},λd hd=>?_};let{q,k1,rfl}:=aav hd;let{x,j,s}:=r.get k1;show{#v[xs,x,f,j],?_};intro z C u;let{p,D,w,rfl,y,rfl}:=u;have m:=y xs f;rw[j]at m;cases m;show .inr {p,_,[_,q],w,rfl,rfl,.cons (.v rfl) (.cons (s.mono g) .nil),rfl}
def giE (ga:GA):GI:=λm Q=>ga m λa b=>match a with
 | [.val (.tup l)]=>Q (jg l) b
 |_=>False
def Lv (ga:GA):GI:=λm Q=>ga m λa b=>match a with
 | [.val (.lst l)]=>Q (jg l) b
 |_=>False
def agh (i:Gl X "enumerate")(l:X.mg "enumerate"=MS)(n:VA X [d] ga)(s:↥(aO [d] X.e=[(MU,eval d X.e)])):VI X (.Tuple D j E) (.Call (.Name "enumerate" p) [d] [] pos) (giE ga):=⟨PI.sub (Xf (c:=MT) i l n.out s) λG H R u=>ur u λW m I w y h q=>⟨W,m,_,w,y,h,λJ z A xs f l1 g C=>by
    split at f
    · let{x,rfl,r}:=cp C;let{a,xs,rfl,k1,k2}:=Rp.tupI r;show{a,xs,rfl,k1.same g.ok.sub,q _ z A _ f l1 g (Xi (b:=X.B) (c:=MT) (λH e=>k1.same e) k2)}
    · show f.elim⟩⟩
def yx (i:Gl X "enumerate")(l:X.mg "enumerate"=MS)(n:VA X [d] ga)(s:↥(aO [d] X.e=[(MU,eval d X.e)])):VI X (.Tuple D j E) (.Call (.Name "enumerate" p) [d] [] pos) (Lv ga):=⟨PI.sub (Xf (c:=MU) i l n.out s) λG H R u=>ur u λW m I w y h q=>⟨W,m,_,w,y,h,λJ z A xs f l1 g C=>by
    split at f
    · let{x,rfl,r}:=cp C;let{a,xs,rfl,k1,k2}:=Rp.lstI r;show{a,xs,rfl,SqL.of (g.ok.sub _ _ k1),q _ z A _ f l1 g (Xi (b:=X.B) (c:=MU) (λH e=>SqL.of (e _ _ k1)) k2)}
    · show f.elim⟩⟩
def akf (h:F a=KE (.lst xs))(r:Rps b F xs l):Sq b F (Itv b.K a xs.length) l.reverse:=λu j e m i=>by
 have f:SqL b.K j a xs:=SqL.of (m _ _ (e _ _ h));have g:=r.length;show{λhi=>by rw[jA,<-g]at hi;show hi,λd hd=>?_};have n:i<l.length:=(by have:=bf hd;rw[jA]at this;show this);rw[List.getElem?_reverse n]at hd;let{x,c,p}:=r.get hd;rw[<-g]at c;show{{xs,x,f,rfl,(),c},?_};intro y w q;let{rfl,s}:=q;have:=s xs f;rw[c]at this;cases this;show .inl {rfl,p.mono e}
def giV (ga:GA):GI:=λm Q=>ga m λa b=>match a with
 | [.val (.lst l)]=>Q l.reverse b
 |_=>False
def akg (e:Gl X "reversed")(f:X.mg "reversed"=MS)(g:VA X [b] ga)(i:↥(aO [b] X.e=[(MU,eval b X.e)])):VI X y (.Call (.Name "reversed" p) [b] [] pos) (giV ga):=⟨PI.sub (ajg e f g.out i) λz H R j=>ur j λW m A l n h q=>⟨W,m,_,l,n,h,λC s u xs c l1 d w=>by
    split at c
    · let{x,rfl,r}:=cp w;let{a,xs,rfl,k1,k2}:=Rp.lstI r;show{a,xs,rfl,SqL.of (d.ok.sub _ _ k1),q _ s u _ c l1 d (akf k1 k2)}
    · show c.elim⟩⟩
def Bo (n:Nat):D2:=(bG n).map λi:Nat=>Tr.v (.int ((n:Int)-1-(i:Int)))
def agi (n:Nat):Sq b F (Z9 ((n:Int)-1) n) (Bo n):=λc e f g i=>by
 show{λhi=>by unfold Bo at hi;rw[aC,bM]at hi;show hi,λd hd=>?_};unfold Bo at hd;rw[aW]at hd;by_cases hi:i<n;{rw[cY hi]at hd;cases hd;show{hi,?_};intro y j a;let{rfl,rfl}:=a;show .inl {rfl,.v rfl}};{rw[dI (⇑hi)]at hd;cases hd}
def giD (ga:GA):GI:=λm Q=>ga m λa b=>match a with
 | [.val (.v (.int i)),.val (.v (.int j)),.val (.v (.int k))]=>∃n:Nat,i=(n:Int)-1/\j=-1/\k=-1/\n<1000000/\Q (Bo n) b
 |_=>False
def agj (e:Gl X "range")(f:X.mg "range"=MS)(g:VA X [a,b,c] ga)(i:↥(aO [a,b,c] X.e=[(MU,eval a X.e),(MU,eval b X.e),(MU,eval c X.e)]))(j:↥(aO [b,c] X.e=[(MU,eval b X.e),(MU,eval c X.e)])):VI X I (.Call (.Name "range" p) [a,b,c] [] pos) (giD ga):=⟨PI.sub (aac e f g.out i j) λJ H R l=>ur l λW m L s u h q=>⟨W,m,_,s,u,h,λN w x xs d l1 A C=>by
    split at d
    · obtain⟨n,rfl,rfl,rfl,D,d⟩:_:=d;cases C with
      |cons r t=>
        obtain⟨y,z,rfl,E,G⟩:_:=yh t;cases(Rp.vI r).1;cases(Rp.vI E).1;cases(Rp.vI G).1;show{n,rfl,D,q _ w x _ d l1 A (agi n)}
    · show d.elim⟩⟩
def fgt (L:AQ)(m:M):M:={L.foldl (λl i=>l.set i MS) m.loc,m.cel}
theorem Rel.fgt:∀{L m},Rel b W m e->Rel b W (fgt L m) e
 | [],m,d=>d
 |i::L,m,d=>by
  change Rel b W (VL.fgt L {m.loc.set i MS,m.cel}) e;show Rel.fgt {d.ok,λk w hk=>?_,by change(m.loc.set i MS).length=_;rw[gZ];show d.len};by_cases c:k=i;{subst c;have a:(m.loc.set k MS)[k]?=KE (KE w):=hk;by_cases f:k<m.loc.length;{rw[dA f]at a;cases a};{rw[dI (by rw[gZ];lia)]at a;cases a}};{have a:(m.loc.set i MS)[k]?=KE (KE w):=hk;rw[cZ (λz=>c z.symm)]at a;show d.loc k w a}
def dh (L:AQ)(t:Tg)(g:GS)(E:wt):D2->M->Prop
 | [],m=>E.nx m
 |d::ds,m=>gTg t d m λb=>g {E with nx:=λa=>dh L t g E ds (fgt L a),ct:=λa=>dh L t g E ds (fgt L a),bk:=E.nx} b
def c8 (L:AQ)(f:GI)(t:Tg)(g:GS):GS:=λE m=>f m λds a=>dh L t g E ds a
def vm {b:B}{W W2:Wd}{m:M}{f:St}{x:V}{d:Tr}{e:Hp}(a:Rel b W m f)(h:(e=W.H/\Rp b W.F x d)\/∃p xs l,W.H p=MS/\e=upd W.H p (.tup xs)/\x=.ref p/\Rps b W.F xs l/\d=.tup l) :
  ∃c,c.H=e/\Lx W c/\Rel b c m f/\Rp b c.F x d:=by
 rcases h with⟨rfl,r⟩ | ⟨p,xs,l,g,rfl,rfl,r,rfl⟩;{show{W,rfl,Lx.refl W,a,r}};{let{l2,i,j}:=Gr (d:=.tup l) (o:=.tup xs) a.ok g (.tup (SqT.of ay) (r.mono (a.ok.sameU g)));show{_,rfl,l2,a.lift l2 (λ_=>rfl) i,j}}
def bz (hp:sP (aT X.p X.w) X.A X.e X.xe)(hc:X.calm=MT)(hi:VI X T iter f)(hg:VG X T t)(hb:VSs X body g)
  (hs:autoParam (∀x,iW iter X.e x=pure x) XW._auto_1):VS X (.For T iter body [] pos) (c8 L f t g):=⟨λO=>PS.sub (Vm hp hc hi.out hg.out (hb.out O) hs) λD σ H hG=>mv hG λW m E hW l wB h n r _ _=>by
show{W,m,_,hW,wB,h,λds m1 q J h1 l1 wA sq=>?_};show{λi k j H'=>i+k=ds.length/\∃d y,d.H=H'/\Le O d/\Same q.F d.F/\Rel X.B d y j/\dh L t g E (ds.drop i) y,{ds.length,(),q,m1,rfl,l.trans l1.toLe,λ_ _ z=>z,wA,h1},?_};intro i k j H' wC;let{ek,d,y,rfl,U,s',G,h'}:=wC;let{st,go}:=sq d.F d.H s' G.ok.sub i;by_cases c:i<ds.length
· have hd:ds[i]?=KE ds[i]:=aB c;rw[hU c]at h';let{g1,g2}:=go _ hd;show .inr ⟨g1,λs C=>∃a p,a.H=C/\Le O a/\Same q.F a.F/\Rel X.B a p s/\dh L t g E (ds.drop (i+1)) p,λs C wD=>by let{a,p,z1,z2,z3,z4,z5}:=wD;show{k-1,(),(),a,p,z1,z2,z3,z4,z5},λx C hy=>?_⟩;let{a,e3,l3,xR,r3}:=vm (W2:=d) G (g2 x C hy);subst e3;have l4:Le O a:=U.trans l3.toLe;have Y:Same q.F a.F:=Same.tr s' l3.same;have nx:∀u e b,dh L t g E (ds.drop (i+1)) (VL.fgt L u)->Le O e->Same a.F e.F->Rel X.B e u b->∃a p,a.H=e.H/\Le O a/\Same q.F a.F/\Rel X.B a p b/\dh L t g E (ds.drop (i+1)) p:=
    λu e b I l5 N Q=>{e,_,rfl,l5,Same.tr Y N,Q.fgt,I}
  show Al xR r3 h' λm4 σ4 h4 AS ET _=>{a,m4,_,rfl,l4,AS,h4,nx,r,λu e b I l5 N Q=>n u e b I l5 (Same.tr l1.same (Same.tr Y N)) Q,nx}
· rw[jE ()]at h';show .inl {st (),n y d j h' U (Same.tr l1.same s') G}⟩
end
end VL
namespace L2
open PySem PySem.Spec PyProof.Rows
def P7 (hN:X.N.Nodup)(DD:X.N[i0]?=KE y0)(FH:X.e.scope.names.lookup y0=KE .local)(S:qd X ns ys fr E cl)(hc:X.calm=MT)
  (hi:PI X tg iter wi) (hg:∀C s H f,PG (cxC X (ns++ys) E cl C s H f) tg g) (ht:∀C s H f,PTs (cxC X (ns++ys) E cl C s H f) BB tt) (he:∀C s H f,PE (cxC X (ns++ys) E cl C s H f) AO te)
  (hs:autoParam (∀x,iW iter X.e x=pure x) XW._auto_1) (G':↥(jO (.ListComp AO [{tg,iter,BB,0}] E pos) (KE (.Name y0 py)) CD.line X.e=pure MT)) :
  PS X (.Assign [.Name y0 py] (.ListComp AO [{tg,iter,BB,0}] E pos) CD) (λD σ H=>Km ns.length fr wi g tt te σ H λx H1=>D.nx (σ.set i0 (KE x)) H1):=by
 intro j' s σ H D I h;rw[exec_Assign_Name_used _ _ _ _ G'];show aA (lQ (aA ?_));change aJ _ _ (do let _ <-comprehension (.ListComp AO [⟨tg,iter,BB,0⟩] E pos) E X.e _ (newList []) MU (eval iter X.e) (KE (oW (.Name y0 py) X.e))) _ _ s
 show aA (dW (wpAny_comprehension_free (use:=KE (oW (.Name y0 py) X.e)) (Q:=λ_ s'=>SP X j' D .next s') rfl hs S.clos S.kind S.locs (thn (hi j' s σ H _ I h) λv s1 h1=>thn h1 λHN a h2=>?_)) (λ_ s' hq=>WQ (WQ hq)) λ_ _ e=>e)
 let{it,f,tn,J,H2,e,I2,T,BG,f2,rest}:=h2;subst e;let{W,{m0,w0},turn}:=rest ‹a› (I2.hok.fresh (aI _));show fB (wpAny_newFunctionEnv S.nocell (by intro y hy;simp at hy) (λh3 EJ DO=>?_) S.kind);dsimp only at EJ DO ⊢;generalize hG:a.heap.push {cls:=.type "list",dict:=MS,data:=.seq ([]:AW).toArray}=G at EJ DO ⊢;have zG:G.objs.size=‹a›+1:=(by rw[<-hG,fJ]);have O:‹a›<G.objs.size:=(by rw[zG];show iC _);have old:∀b o,a.heap.get? b=KE o->h3.get? b=KE o:=λb o e=>
  DO.extBut b o (bN (iG (bA e) O)) (aF _ (hG ▸ aF _ e))
 have hD:=DO.extBut _ _ (bN O) (aF _ (hG ▸ bK _ rfl));have below:∀b∈f,b<‹a›:=λb l=>by
  let{o,eo,_}:=T.obj _ _ BG b l;show bA eo
 have I3:=Iu (ns:=ns) (ys:=ys) (fr:=fr) (t':=a.toks+([]:List (Str×aL)).length) I2 S f2 below O old hD EJ;have AJ:∀{H'},(∀b∈f,H' b=MS)->∀b∈f,kq (cxC X (ns++ys) E cl G.objs.size a H2 f) [] H' b:=λhn b l=>
  {hn b l,bN (iG (below b l) O),I3.ok.exfs b l,.inl l,λx c e=>(I3.ok.exf b l).2 x c e,λp hp=>nomatch hp}
 have DY:tn 0 h3:=T.keep _ _ _ BG λb _ o e=>old b o e;have FC:∀b∈f,upd H2 ‹a› (.lst []) b=MS:=λb l=>by
  rw[au (bN (below b l))];show(f2 b l).1
 have Y:∀s3:aG,s3={a with heap:=h3,toks:=a.toks+([]:List (Str×aL)).length}->
   kQ (aT X.p X.w) X.A (.compLoop (.ListComp AO [{tg,iter,BB,0}] E pos) 0 (.ref it) (.ref ‹a›) (compEnvC E cl G.objs.size X.e))
    (compPost (aT X.p X.w) X.A X.xe (KE (oW (.Name y0 py) X.e)) (λ_ s'=>SP X j' D .next s') (.ref ‹a›) G.objs.size) s3:=by
  intro s3 wC;subst wC;show V2 (λn s'=>∃i zs H',Inv (cxC X (ns++ys) E cl G.objs.size a H2 f) [] (bB ns.length MS++dn σ fr) H' s'/\tn i s'.heap/\(∀b∈f,H' b=MS)/\W i n zs H') ?_ m0 {0,[],_,I3,DY,FC,w0};intro n s5 wC;let{i,zs,H5,I5,DK,EF,w5}:=wC;let{d5,IQ}:=turn i n zs H5 w5;rcases IQ with⟨stop,q⟩ | ⟨go,hz,N,hN,step⟩
  ·show thn (T.done (cxC X (ns++ys) E cl G.objs.size a H2 f) rfl rfl rfl hc i [] s5 _ H5 _ I5 (AJ EF) DK stop) λr s6 L=>?_;let{hr,I6}:=L;subst hr;let{m6,IR,_}:=I6.loc;have J6:Inv X j' σ H5 s6:=K9 I2 f2 (kW O) I6 (Heap.SameBut.refl _ _);have lL:X.e.locals<‹a›:=I2.lt;have cL:∀x c,X.e.cells.lookup x=KE c->c<‹a›:=λx c e=>by
    let{_,o,ho,_}:=I2.cell x c e;show bA ho
   change aJ _ X.A (oW (.Name y0 py) X.e (.ref ‹a›)) _ _ s6;show wpAny_assign_Name (Ih (v:=.ref ‹a›) J6 hN DD (.inl FH) rfl (λs8 I8 L=>?_) (.inr FH));let{b8,JR,hb8}:=L;have nb:G.objs.size≠b8:=λe=>by
    rcases hb8 with z | z;{show NC (e.trans z) (fZ (iG lL O))};{show NC e (fZ (iG (cL _ _ z) O))}
   show{m6,IR.sameBut JR nb,λh9 hs9=>{_,H5,?_,q}};show I8.turned (it:=G.objs.size) (t':=s8.toks) (λb o l e=>(hs9.2 b l).trans e) I6.free (fZ (iG lL O)) (.inr (aV I2.sz (kW O))) (λx c e=>bN (iG (cL x c e) O)) λp hp=>?_;let{e,_}:=I2.pin p hp;show bN (iG (bA e) O)
  ·show thn (T.item (cxC X (ns++ys) E cl G.objs.size a H2 f) rfl rfl rfl hc i [] s5 _ H5 _ I5 (AJ EF) DK go) λr s6 L=>?_;let{u,hr,h6}:=L;subst hr;show thn h6 λ_ s7 L=>?_;let{x,H7,I7,r7,y7,EK,IS}:=L;have IT:=I7.pinned (AJ IS) (T.obj _ _ EK);show thn (hg _ _ _ _ _ s7 _ H7 x u _ IT r7 (step x H7 y7)) λ_ s8 L=>?_;let{U,H8,I8,{ts,eσ,EL},q8}:=L;have again:∀{H9 s9 EM m'},m'<n->Inv (cxC X (ns++ys) E cl G.objs.size a H2 f) ([]++yc f s7.heap) U H9 s9->W (i+1) m' EM H9->
     ∃m,m<n/\∃i zs H',Inv (cxC X (ns++ys) E cl G.objs.size a H2 f) [] (bB ns.length MS++dn σ fr) H' s9/\tn i s9.heap/\(∀b∈f,H' b=MS)/\W i m zs H':=λ{H9 s9 EM m'} hm I9 w9=>by
    show{m',hm,i+1,EM,H9,I9.unpinned.weak ?_ ?_,T.keep _ _ _ EK λb l o e=>(I9.pin (b,o) (cG _ (cG _ (mq l e)))).1,λb l=>?_,w9};{rw[eσ,aH,aH,dC,EL]};{intro j v e;rw[eσ];by_cases hj:j<ns.length;{rw[cE (⇑hj),dP,MZ hj]at e;cases e};{have EN:ns.length<=j:=pE hj;rw[cQ (⇑EN),dC]at e;rw[cQ (by rw[EL];show EN),EL];show e}};{let{o,e,d}:=T.obj _ _ EK b l;show(I9.pin (b,o) (cG _ (cG _ (mq l e)))).2.1}
   show thn (ht _ _ _ _ _ s8 U H8 _ I8 q8) λok s9 L=>?_;let{H9,I9,q9}:=L;cases ok with
   |false=>
    rw[M' aY]at q9 ⊢;let{m',hm,w9}:=hN _ _ q9;show again hm I9 w9
   |true=>
    rw[MZ rfl]at q9 ⊢;show thn (he _ _ _ _ _ s9 U H9 _ I9 q9) λyv HU L=>?_;let{y,IU,IV,GB,IW,GC}:=L;show thn (z7 _ HU U IU (.ref ‹a›) [y] (.ref ‹a›) [yv] (λ_ GD=>N (zs++[y]) GD) IV rfl (.cons GB .nil) {_,zs,y,rfl,rfl,IW,hz,GC}) λ_ s11 L=>?_;let{_,GD,IX,_,GF}:=L;let{m',hm,GG}:=hN _ _ GF;show again hm IX GG
 show codeAny_compStart_list (Y _ rfl) (T.self X.A 0 _ _ _ DY (Y _ rfl))
end L2
namespace VL
open PySem L2 PySem.Deep PySem.SeqAt
section
variable {X:Cx}
def E8 (L:AQ)(c:GT)(g:GS):GS:=λE m=>∃I:Nat->M->Prop,(∃k,I k m)/\∀k m,I k m->c m λb a=>if b=MT then ∃N:M->Prop,(∀d,N d->∃e,e<k/\I e (fgt L d))/\g {E with nx:=N,ct:=N,bk:=E.nx} a else E.nx a
def C9 (J:sP (aT X.p X.w) X.A X.e X.xe)(Q:VT X c f)(T:VSs X body g):VS X (.While c body [] pos) (E8 L f g):=⟨λO=>PS.sub (Y8 J Q.out (T.out O)) λD σ H U=>mv U λW m E Y l wB h n r _ _=>by
  subst Y;let{I,{k0,i0},turn}:=h;show{λk e H'=>∃i j,i.H=H'/\Le O i/\Same W.F i.F/\Rel X.B i j e/\I k j,#v[k0,W,m,rfl,l,Same.id,wB,i0],?_};intro k e H' wC;let{i,j,rfl,l',s',zW,i'}:=wC;show{i,j,_,rfl,zW,turn k j i',λc z u x l1 C=>?_};have l2:Le O u:=l'.trans l1.toLe;have y:Same W.F u.F:=Same.tr s' l1.same;cases c with
  |true=>
    let{N,hN,x}:=x;show{λa G=>∃b d,b.H=G/\Le O b/\Same W.F b.F/\Rel X.B b d a/\N d,λa G wD=>?_,u,z,_,rfl,l2,C,x,λd b a p l3 q s=>{b,d,rfl,l3,Same.tr y q,s,p},r,λd b a p l3 q s=>n d b a p l3 (Same.tr y q) s,λd b a p l3 q s=>{b,d,rfl,l3,Same.tr y q,s,p}};let{b,d,z1,z2,z3,z4,z5}:=wD;let{k',hk,ik}:=hN d z5;show{k',hk,b,_,z1,z2,z3,z4.fgt,ik}
  |false=>show n z u e x l2 y C⟩
def ou (loc:FQ)(fr:AQ):FQ:=fr.map λi=>(loc[i]?).getD MS
def i6 (cel:EZ):FQ->Bool
 | []=>MT
 |some (.c j)::r=>(match cel[j]? with | some (KE _)=>MT | _=>MU)&&i6 cel r
 |_::r=>i6 cel r
theorem yy:∀{loc:FQ},i6 cel loc=MT->∀(i j:Nat),loc[i]?=KE (KE (.c j))->∃d,cel[j]?=KE (KE d)
 | [],_,i,j,e=>by simp at e
 |none::r,h,0,j,e=>by simp at e
 |some (.v _)::r,h,0,j,e=>by simp at e
 |some (.c k)::r,h,0,j,e=>by
  simp at e;subst e;rw[i6,eG]at h;have a:=h.1;rcases q:cel[k]? with _ | _ | d;{rw[q]at a;cases a};{rw[q]at a;cases a};{show#v[d,rfl]}
 |none::r,h,i+1,j,e=>yy (loc:=r) h i j (⇑e)
 |some (.v _)::r,h,i+1,j,e=>yy (loc:=r) h i j (⇑e)
 |some (.c k)::r,h,i+1,j,e=>by
  rw[i6,eG]at h;show yy (loc:=r) h.2 i j (⇑e)
def cq (k:Nat)(fr:AQ)(t:Tg)(c:GT)(f:GE)(loc:FQ)(Q:D2->M->Prop):D2->D2->EZ->Prop
 | [],a,cel=>Q a #v[loc,cel]
 |d::ds,a,cel=>a.length<1000000/\gTg t d {bB k MS++ou loc fr,cel} λi=>c i λb e=>if b=MT then f e λj l=>fz l j λd' g=>i6 g.cel loc=MT/\cq k fr t c f loc Q ds (a++[d']) g.cel
   else i6 e.cel loc=MT/\cq k fr t c f loc Q ds a e.cel
def cu (k:Nat)(fr:AQ)(i:GI)(t:Tg)(c:GT)(f:GE):GE:=λm Q=>i m λds a=>cq k fr t c f a.loc (λb d=>Q (.new (.lst b)) d) ds [] a.cel
def Rel.inner (f:Rel b W m g)(k:Nat)(fr:AQ):Rel b W {bB k MS++ou m.loc fr,m.cel} (bB k MS++dn g fr):=⟨f.ok,λi w hw=>by
  have a:(bB k MS++ou m.loc fr)[i]?=KE (KE w):=hw;by_cases c:i<k
  · rw[cE (⇑c),dP,MZ c]at a;cases a
  · rw[cQ (⇑c)]at a;rw[cQ (⇑c)];rw[dC]at a ⊢;unfold ou at a;unfold dn;rw[aW]at a ⊢;rcases q:fr[i-k]? with _ | j
    · rw[q]at a;cases a
    · rw[q]at a;have d:(m.loc[j]?).getD MS=KE w:=(⇑a);rcases e:m.loc[j]? with _ | u
      · rw[e]at d;cases d
      · rw[e]at d;have:u=KE w:=d;subst this;let{y,l,n}:=f.loc j w e;show{y,by change KE ((g[j]?).getD MS)=_;rw[l];rfl,n},by
  change(bB k MS++ou m.loc fr).length=_;unfold ou dn;simp⟩
def Rel.outer {m e:M}(f:Rel b W m r)(l:Lx W g)(n:Rel b g e s)(h:i6 e.cel m.loc=MT):Rel b g #v[m.loc,e.cel] r:=⟨n.ok,λi w hw=>by
  let{y,u,p}:=f.loc i w hw;show{y,u,?_};cases w with
  |v d=>show Rp.mono l.same p
  |c j=>
    let{a,rfl,x}:=p;let{d,hd}:=yy h i j hw;let{z,q,_}:=n.ok.cell j d hd;have:=l.cx j z q;rw[x]at this;cases this;show#v[a,rfl,q],f.len⟩
def Bp (l:Lx O W)(ok:Wok b W cel)(h0:O.H D=MS)(g:W.F D=MS)(i:∀j,W.C j≠KE D):Lx O {W.F,upd W.H D o,W.C}/\Wok b {W.F,upd W.H D o,W.C} cel:=by
 have ne:∀{x u},W.F x=KE u->x≠D:=λe z=>(by subst z;rw[g]at e;cases e);show{{{l.same,λx u e n=>?_,l.nw,l.cl,λx z=>?_},l.cx},{λx u z=>?_,λj d m=>?_,ok.live,ok.dist}};{change upd W.H D o x=KE u;rw[au (λz=>by rw[z,h0]at e;cases e)];show l.fr x u e n};{by_cases c:x=D;{rw[c];show h0};{rw[show({W.F,upd W.H D o,W.C}:Wd).H x=upd W.H D o x from rfl,au c]at z;show l.dm x z}}
 {change upd W.H D o x=KE u;rw[au (ne z)];show ok.sub x u z};{let{a,f,p,q}:=ok.cell j d m;show{a,f,p,q.mono (λ_ _ z=>z) λu z=>?_};change upd W.H D o a=KE u;rw[au (λz=>i j (by rw[f,z]))];show z}
def G4 (e:a.length=(bB k MS++dn b fr).length)(c:C7 k t)(h:∀i,¬adm t i->a[i]?=(bB k MS++dn b fr)[i]?):∃d,a=d++dn b fr/\d.length=k:=by
 have hk:k<=a.length:=(by rw[e,aH,dC];lia);show{a.take k,?_,by rw[cK];lia};have:a.drop k=dn b fr:=by
  show mJ λi=>?_;rw[List.getElem?_drop,h (k+i) ?_,cQ ∅];{congr 1;simp}
  ·intro z;cases t with
   |one j=>show NC (show k+i<k by rw[show k+i=j from z];show c) ()
   |tup is=>have:=c _ z;lia
   |lst is=>have:=c _ z;lia
 rw[<-this,mU]
def sh (l:Lx W a)(b:W.H D=KE (.lst ys))(d:W.F D=MS)(c:∀j,W.C j≠KE D):a.H D=KE (.lst ys)/\a.F D=MS/\∀j,a.C j≠KE D:=by
 show{l.fr D _ b c,?_,λj e=>c j (l.cx j D e)};cases q:a.F D with
 |none=>rfl
 |some u=>
  rcases l.nw D d (by rw[q];show λz=>by cases z)with z | ⟨j,z⟩ | ⟨o,z,f⟩;{rw[b]at z;cases z};{show NC z (c j)};{rw[b]at z;cases z;show f.elim}
def Jc (ht:C7 k t)(h:lf b (cu k fr i t c f) s H Q):Km k fr (lfI b i) (gOf b.K t) (lfT b c) (lf b f) s H Q:=by
 obtain⟨W,m,R,hW,wB,h,q⟩:_:=h;show{W,m,_,hW,wB,h,λds e p J h1 l1 wA sq D U=>?_};have h0:W.H D=MS:=l1.dm D U;obtain⟨lD,JS,aD,eD,_,fD,cD,_⟩:_:=pj (d:=.lst []) (o:=.lst []) wA.ok U {[],ay,.nil};cases eD;have JT:∀i n ys g,(i+n=ds.length/\∃W2 a cel,W2.H=g/\Lx p W2/\Rel b W2 ⟨e.loc,cel⟩ s/\W2.H D=KE (.lst ys)/\W2.F D=MS/\(∀j,W2.C j≠KE D)/\Rps b W2.F ys a/\cq k fr t c f e.loc (λa u=>R (.new (.lst a)) u) (ds.drop i) a cel)->
   g D=KE (.lst ys)/\((J.stop i g/\Q (.ref D) g)\/(J.go i g/\ys.length<sizeLine/\∃N:EX->Hp->Prop,(∀l H',N l H'->∃m',m'<n/\(i+1+m'=ds.length/\∃W2 a cel,W2.H=H'/\Lx p W2/\Rel b W2 #v[e.loc,cel] s/\W2.H D=KE (.lst l)/\W2.F D=MS/\(∀j,W2.C j≠KE D)/\Rps b W2.F l a/\cq k fr t c f e.loc (λa u=>R (.new (.lst a)) u) (ds.drop (i+1)) a cel))/\∀x E,J.yld i g x E->S4 k fr (gOf b.K t) (lfT b c) (lf b f) s D ys N x E)):=by
  rintro i n ys g ⟨en,W2,a,cel,rfl,l2,w,G,Y,d3,I,r⟩;show{G,?_};obtain⟨st,go⟩:_:=sq W2.F W2.H l2.same w.ok.sub i;by_cases ci:i<ds.length
  ·have hd:ds[i]?=KE ds[i]:=aB ci;rw[hU ci]at r;obtain⟨g1,g2⟩:_:=go _ hd;obtain⟨hz,r⟩:_:=r;show .inr {g1,by rw[I.length];show bW hz #v[],λl H'=>∃W2 a cel,W2.H=H'/\Lx p W2/\Rel b W2 #v[e.loc,cel] s/\W2.H D=KE (.lst l)/\W2.F D=MS/\(∀j,W2.C j≠KE D)/\Rps b W2.F l a/\cq k fr t c f e.loc (λa u=>R (.new (.lst a)) u) (ds.drop (i+1)) a cel,λl H' z=>{n-1,(),(),z},λx E hy=>?_};obtain⟨W3,e3,l3,xR,r3⟩:_:=vm (W2:=W2) w (g2 x E hy);subst e3;show Al (xR.inner k fr) r3 r λm4 σ4 h4 AS ET HA=>{G4 ET ht HA,W3,m4,_,rfl,AS,h4,λcc m5 W5 L l5 zZ=>?_};have A:Lx W2 W5:=l3.trans l5;cases cc with
   |true=>
    show{W5,m5,_,rfl,zZ,L,λev m6 W6 y h6 l6 CF r6=>?_};obtain⟨d',m7,O,⟨lv,h7⟩,l7,e7,CU,r7⟩:_:=qj l6 CF r6 h6;have T:Lx W2 O:=A.trans l7;obtain⟨k1,k2,k3⟩:_:=sh T G Y d3;have ro:=w.outer T CU lv;obtain⟨l8,EU⟩:_:=Bp (o:=.lst (ys++[y])) (l2.trans T) CU.ok U k2 k3;rw[<-e7];show{k1,{O.F,upd O.H D (.lst (ys++[y])),O.C},a++[d'],m7.cel,rfl,l8,#v[EU,ro.loc,ro.len],ay,k2,k3,(I.mono T.same).append (.cons r7 .nil),h7}
   |false=>
    obtain⟨lv,L⟩:_:=L;obtain⟨k1,k2,k3⟩:_:=sh A G Y d3;show{W5,a,m5.cel,rfl,l2.trans A,w.outer A zZ lv,k1,k2,k3,I.mono A.same,L}
  ·rw[jE ()]at r;show .inl {st (),q _ _ W2 _ r (l1.trans l2) w #v[D,rfl,h0,Y,d3,ys,G,I]}
 show{_,{ds.length,(),{p.F,upd p.H D (.lst []),p.C},[],e.cel,rfl,lD,wA.lift lD (λ_=>rfl) JS,ay,fD,cD,.nil,h1},JT}
def cv (S:qd X ns ys fr b cl)(e:X.calm=MT)
  (hi:VI X d iter i) (j:∀C s H a,VG (cxC X (ns++ys) b cl C s H a) d t) (l:∀C s H a,PTs (cxC X (ns++ys) b cl C s H a) m (lfT X.B c)) (n:∀C s H a,VE (cxC X (ns++ys) b cl C s H a) p f) (hk:C7 ns.length t)
  (q:autoParam (∀x,iW iter X.e x=pure x) XW._auto_1):VE X (.ListComp p [{d,iter,m,0}] b pos) (cu ns.length fr i t c f):=#v[PE.sub (aev (g:=gOf X.K t) (tt:=lfT X.B c) (te:=lf X.B f) S e hi.out (λC s H a=>(j C s H a).out) l (λC s H a=>(n C s H a).out) q) λ_ _ _ h=>Jc hk h]
def dq:GT:=λm Q=>Q MT m
def cw:PTs X [] (lfT X.B dq):=λa s b H Q I c=>Ti c λW m R d e h q=>aet a s b H Q I (by subst d;show q MT m W h (Lx.refl W) e)
def px (h:VT X c f):PTs X [c] (lfT X.B f):=aeu h.out
def jv (hN:X.N.Nodup)(m:X.N[i0]?=KE d)(n:X.e.scope.names.lookup d=KE .local)(S:qd X ns ys fr b cl)(p:X.calm=MT)
  (hi:VI X e iter i) (q:∀C s H a,VG (cxC X (ns++ys) b cl C s H a) e t) (r:∀C s H a,PTs (cxC X (ns++ys) b cl C s H a) j (lfT X.B c)) (u:∀C s H a,VE (cxC X (ns++ys) b cl C s H a) l f) (hk:C7 ns.length t)
  (w:autoParam (∀x,iW iter X.e x=pure x) XW._auto_1) (y:↥(jO (.ListComp l [{e,iter,j,0}] b pos) (KE (.Name d z)) A.line X.e=pure MT)) :
  VS X (.Assign [.Name d z] (.ListComp l [{e,iter,j,0}] b pos) A) (ax i0 (cu ns.length fr i t c f)):=#v[λO=>PS.sub (P7 (g:=gOf X.K t) (tt:=lfT X.B c) (te:=lf X.B f) hN m n S p hi.out (λC s H a=>(q C s H a).out) r (λC s H a=>(u C s H a).out) w y) λD E H h=>Jc hk (Lr h)]
end
open PyProof.Rows (envOfC)
abbrev GP:=D2->(Ev->Prop)->Prop
def spP (b:B)(n:Nat)(g:GP):Sp:=λvs H Q _=>vs.length=n/\∃W ds R,W.H=H/\Wok b W []/\Rps b W.F vs ds/\g ds R/\∀c a x,R c->Le W a->(∀j,a.C j=MS)->Wok b a []->Rev b W a x c->Q x a.H
abbrev GR:=D2->Tr->(Ev->Tr->Prop)->Prop
def ins {a:Type}:Nat->a->List a->List a
 |0,x,l=>x::l
 |_+1,x,[]=>[x]
 |n+1,x,y::l=>y::ins n x l
def spR (b:B)(n p:Nat)(g:GR):Sp:=λvs H Q _=>vs.length=n/\∃W xs ds d a R,W.H=H/\vs=ins p (.ref a) xs/\W.C 0=KE a/\Wok b W [KE d]/\Rps b W.F xs ds/\g ds d R/\
 ∀e d' c x,R e d'->Le W c->(∀j,c.C j=W.C j)->Wok b c [KE d']->Rev b W c x e->Q x c.H
def Am (R:Ev->Prop)(a:Ev)(m:M):Prop:=match a with
 | .val d=>R (.val d)
 | .new d=>R (.new d)
 | .cel 0=>False
 | .cel (j+1)=>match m.cel[j+1]? with
  |some (KE d)=>R (.new d)
  |_=>False
def Tu (R:Ev->Tr->Prop)(a:Ev)(m:M):Prop:=match m.cel[0]? with
 |some (KE e)=>(match a with
   | .val d=>R (.val d) e
   | .new d=>R (.new d) e
   | .cel 0=>False
   | .cel (j+1)=>match m.cel[j+1]? with
     |some (KE d)=>R (.new d) e
     |_=>False)
 |_=>False
def locs (n:Nat)(a:FQ):FQ:=a++bB (n-a.length) MS
abbrev vsW (ds:D2):FQ:=ds.map λd=>KE (.v d)
def Pm (g:GS)(n c p:Nat)(a:GP):Prop:=∀ds R,ds.length=p->a ds R->g {nx:=λm=>R (.val (.v .non)),rt:=Am R} {locs n (vsW ds),bB c MS}
def Pr (q:Nat)(g:GS)(n c p:Nat)(a:GR):Prop:=∀ds d R,ds.length+1=p->a ds d R->g {nx:=λm=>Tu R (.val (.v .non)) m,rt:=Tu R} {locs n (ins q (KE (.c 0)) (vsW ds)),KE d::bB c MS}
def Rdx (P:aQ)(w:bC)(K:aE)(mg:Str->AK)(base:MW)(N:AZ)(x:Str)(st:MY)(f:MV)(k:Nat)(g:GS):Prop:=∀a A outer s H E,Room k (A.deeper (nI x (bb st) ‹s› f a))->VSs (rj CX0 P w K mg base N x (bb st) f a A outer s H E).nox (ff st) g
section
variable {P:aQ}{w:bC}{K:aE}{mg:Str->AK}{base:MW}
def G5 {a:FQ}{n i:Nat}(h:(locs n a)[i]?=KE (KE u)):a[i]?=KE (KE u):=by
 unfold locs at h;by_cases c:i<a.length;{rw[cE c]at h;show h}
 ·rw[cQ (),dP]at h
  split at h<;>cases h
def Dc {N:AZ}{vs:EX}{i:Nat}(h:vs[i]?=KE x):(L2.start N vs)[i]?=KE (KE x):=by
 unfold L2.start;rw[cE (⇑(bf h)),aW,h];rfl
def An:(L2.start N vs).length=vs.length+(N.length-vs.length):=by
 unfold L2.start;rw[aH,aC,dC]
def Wok.cut (ok:Wok b W cel):Wok b {W.F,W.H,λ_=>MS} []:={ok.sub,λj d h=>(by simp at h),λj a h=>(by cases h),λj k a h=>(by cases h)}
def G6 (l:Le O W)(hO:∀j,O.C (j+1)=MS)(n:Rel b W m y)(r:Rev b O W x c):(∀d,c=.val d->Rev b O {W.F,W.H,λ_=>MS} x (.val d))/\(∀d,c=.new d->∃a,x=.ref a/\O.H a=MS/\W.F a=MS/\CellOk b W.F W.H a d/\∀j,W.C j≠KE a)/\
  ∀j d,c=.cel (j+1)->m.cel[j+1]?=KE (KE d)->∃a,x=.ref a/\O.H a=MS/\W.F a=MS/\CellOk b W.F W.H a d/\W.C (j+1)=KE a:=by
 show{λd e=>by subst e;show r,λd e=>?_,λj d e p=>?_};{subst e;obtain⟨a,rfl,h0,f,q,s⟩:_:=r;show#v[a,rfl,h0,f,s,q]};{subst e;obtain⟨a,rfl,f⟩:_:=r;obtain⟨i,g,k1,k2⟩:_:=n.ok.cell (j+1) d p;have u:=f i g;subst u;show{i,rfl,?_,k1,k2,g};rcases l.cl _ _ g with z | z;{rw[hO]at z;cases z};{show z.1}}
def Le.cut (l:Le O W)(h:∀j a,C j=KE a->O.C j=KE a):Le O #v[W.F,W.H,C]:={l.same,l.fr,l.nw,λj a e=>.inl (h j a e),l.dm}
def fn_g {N ps:AZ}(F:Fun K x T st f fd)(S:cz N ps (bb st))
  (U:Rdx P w K mg base N T st f k g)
  (Y:Pm g N.length nc ps.length gf):fq P w K mg base CX0 (k+1) f fd ps (spP #v[P,w,K] ps.length gf):=by
 show F.ok S (λvs H Q E h=>h.1) λwL A outer s H vs Q E hr h=>?_;let{hl,W,ds,R,rfl,ok,D,HB,q}:=h;have hN:∀j,W.C j=MS:=λj=>by
  cases e:W.C j with
  |none=>rfl
  |some a=>let{d,hd}:=ok.live j a e;simp at hd
 have EV:∀{j:Nat}{d:Tr},(bB nc (MS:Option Tr))[j]?=KE (KE d)->False:=λ{j d} e=>(by rw[dP]at e;split at e<;>cases e);have fin:∀p m b c x,Am R p m->Le W b->Rel ⟨P,w,K⟩ b m c->Rev ⟨P,w,K⟩ W b x p->Q x b.H:=λp m b c x h l z r=>by
  have G:=z.ok.cut;have I:Le W ⟨b.F,b.H,λ_=>MS⟩:=l.cut λj a e=>(by cases e);let{f1,f2,f3}:=G6 l (λj=>hN (j+1)) z r;cases p with
  |val d=>show q _ {b.F,b.H,λ_=>MS} x h I (λ_=>rfl) G (f1 d rfl)
  |new d=>
   let{a,rfl,J,L,O,_}:=f2 d rfl;show q _ {b.F,b.H,λ_=>MS} _ h I (λ_=>rfl) G {a,rfl,J,L,λj e=>(by cases e),O}
  |cel j=>
   cases j with
   |zero=>show h.elim
   |succ j=>
    change (match m.cel[j+1]? with | some (KE d)=>R (.new d) | _=>False)at h
    rcases e:m.cel[j+1]? with _ | _ | d;{rw[e]at h;show h.elim};{rw[e]at h;show h.elim};{rw[e]at h;let{a,rfl,J,L,O,_}:=f3 j d rfl e;show q _ {b.F,b.H,λ_=>MS} _ h I (λ_=>rfl) G {a,rfl,J,L,λj e=>(by cases e),O}}
 show{_,(U wL A outer s W.H E hr).out W,W,_,_,rfl,Le.refl W,{{ok.sub,λj d h=>(EV h).elim,λj a e=>(by rw[hN]at e;cases e),λj k a e=>(by rw[hN]at e;cases e)},λi u hu=>?_,?_},Y ds R (by rw[<-D.length];show hl) HB,λm b c h l _ z=>fin (.val (.v .non)) m b c .non h l z (Rp.v rfl),fin,λ_ _ _ h=>h.elim,λ_ _ _ h=>h.elim};{have n:=G5 hu;rw[aW]at n;rcases e:ds[i]? with _ | d;{rw[e]at n;cases n};{rw[e]at n;cases n;let{y,hy,ry}:=D.get e;show{y,Dc hy,ry}}};{change(locs N.length (vsW ds)).length=_;rw[An];unfold locs;rw[aH,dC,aC,D.length]}
variable {X:Cx}
def pz (ok:Wok b W cel)(l:Le {W.F,W.H,λ_=>MS} c)(i:Wok b c []):Lx W #v[c.F,c.H,W.C]/\Wok b #v[c.F,c.H,W.C] cel:=by
 show{{{l.same,λa o e _=>l.fr a o e λj z=>(by cases z),λa e n=>?_,λj a e=>.inl e,l.dm},λj a e=>e},{i.sub,λj d m=>?_,ok.live,ok.dist}};{rcases l.nw a e n with z | ⟨j,z⟩ | z;{show .inl z};{cases z};{show .inr (.inr z)}}
 ·let{a,p,r,f}:=ok.cell j d m;show{a,p,?_,f.mono l.same λo e=>l.fr a o e λj z=>(by cases z)};cases q:c.F a with
  |none=>rfl
  |some u=>
   rcases l.nw a r (by rw[q];show λz=>by cases z)with z | ⟨j,z⟩ | ⟨o,z,s⟩;{let{o,g}:=f.has;rw[show W.H a=MS from z]at g;cases g};{cases z};{show NC s (f.nimm o z)}
def lu (ok:Wok b W cel)(h:Rev b {W.F,W.H,λ_=>MS} c x f)(l:∀j,f≠.cel j)(q:∀j,c.C j=MS):Rev b W #v[c.F,c.H,W.C] x f:=by
 cases f with
 |val d=>show h
 |new d=>
  let{a,rfl,h0,m,r,n}:=h;show{a,rfl,h0,m,λj e=>?_,n};let{d',hd}:=ok.live j a e;let{s,g,_,p}:=ok.cell j d' hd;rw[show W.C j=KE a from e]at g;cases g;let{o,i}:=p.has;rw[show W.H a=MS from h0]at i;cases i
 |cel j=>show NC rfl (l j)
def E9 (R:Ev->Prop):Ev->Prop
 | .cel _=>False
 |ev=>R ev
def agk (F:fq X.p X.w X.K X.mg X.base CX0 k f fd ps (spP X.B n g))(J:Room k X.A)(L:Gl X x)(N:X.mg x=KE (.ref f))(hk:dH X.K (.ref f)=MT)(O:Binds X.K fd ps [])
  (hn:ps.length=n) (T:VA X (e::b) ga) (U:↑((x==("__debug__":Str))=MU)) (Y:↥(aO (e::b) X.e=(MU,eval e X.e)::aO b X.e)) (yE:↥((eE pos (aO b X.e)).any (·.1)=MU)) :
  VE X (.Call (.Name x p) (e::b) [] pos) (λm Q=>ga m λu c=>vj u λds=>ds.length=n/\g ds (E9 λr=>Q r c)):=⟨PE.sub (Gg F J L N hk O .nil yq T.out U Y yE) λσ H Q hG=>iw hG λW m R hW wB h q=>⟨W,m,_,hW,wB,h,λu c i xs h1 l1 a r1=>by
  let{ds,D,hl,h2}:=mw r1 h1;show{by rw[bP,D.length];show hl,{i.F,i.H,λ_=>MS},ds,_,rfl,a.ok.cut,by rw[bP];show D,h2,λr l y s l3 E yU G=>?_};let{l4,I}:=pz a.ok l3 yU;cases r with
  |cel j=>show s.elim
  |val d=>show q _ c #v[l.F,l.H,i.C] y s (l1.trans l4) (a.lift l4 (λ_=>rfl) I) ((lu a.ok G (λj z=>nomatch z) E).old l1.toLe)
  |new d=>show q _ c #v[l.F,l.H,i.C] y s (l1.trans l4) (a.lift l4 (λ_=>rfl) I) ((lu a.ok G (λj z=>nomatch z) E).old l1.toLe)⟩⟩
end
open PyProof.Rows (envOfC)
structure Bl (mg:Str->AK):Prop where
 range:mg "range"=MS
 abs:mg "abs"=MS
 int:mg "int"=MS
 max:mg "max"=MS
 min:mg "min"=MS
 tuple:mg "tuple"=MS
 list:mg "list"=MS
 len:mg "len"=MS
 isinstance:mg "isinstance"=MS
 enumerate:mg "enumerate"=MS
 sum:mg "sum"=MS
 all:mg "all"=MS
 any:mg "any"=MS
 zip:mg "zip"=MS
 reversed:mg "reversed"=MS
 set:mg "set"=MS
 sorted:mg "sorted"=MS
 dict:mg "dict"=MS
 bool:mg "bool"=MS
structure Fd (K:aE)(mg:Str->AK)(x:Str)(st:MY)(ps:AZ)(f:MV)(fd:gG):Prop where
 fn:Fun K x x st f fd
 at_:mg x=KE (.ref f)
 bd:Binds K fd ps []
structure Fo (P:aQ)(w:bC)(K:aE)(mg:Str->AK)(base:MW)(k:Nat)(x:Str)(ps:AZ)(sp:Sp):Prop where
 ex:∃f fd,fq P w K mg base CX0 k f fd ps sp/\mg x=KE (.ref f)/\dH K (.ref f)=MT/\Binds K fd ps []
section
variable {P:aQ}{w:bC}{K:aE}{mg:Str->AK}{base:MW}{X:Cx}
def Fo.of (F:Fd K mg x st ps f fd)(h:fq P w K mg base CX0 k f fd ps sp):Fo P w K mg base k x ps sp:=#v[f,fd,h,F.at_,F.fn.kp,F.bd]
def ar (n:Nat)(g:GP)(ga:GA):GE:=λm Q=>ga m λa b=>vj a λds=>ds.length=n/\g ds (E9 λc=>Q c b)
def vc (F:Fo X.p X.w X.K X.mg X.base i x ps (spP X.B n g))(j:Room k X.A)(l:VA X (e::d) ga)(hk:↑(i<=k))(m:↥(ps.length=n))(q:↥(Gl X x))
  (r:↑((x==("__debug__":Str))=MU)) (s:↥(aO (e::d) X.e=(MU,eval e X.e)::aO d X.e)) (u:↥((eE pos (aO d X.e)).any (·.1)=MU)) :
  VE X (.Call (.Name x p) (e::d) [] pos) (ar n g ga):=by
 let{f,fd,F,a,b,c}:=F;show agk F (j.mono hk) q a b c m l r s u
def vf (F:Fd K mg x st ps f fd)(S:cz N ps (bb st))
  (a:Rdx P w K mg base N x st f k g)
  (b:Pm g N.length nc ps.length c):Fo P w K mg base (k+1) x ps (spP #v[P,w,K] ps.length c):=
 .of F (fn_g F.fn S a b)
def v_ (i:Nat)(hN:↥(X.N[i]?=KE x))(a:autoParam (Vis X.e.scope x) JW._auto_1)(hd:↑((x==("__debug__":Str))=MU))
  (b:↑((x==("__classdict__":Str))=MU)):VE X (.Name x pos) (aa i):=ajp hN a hd b
end
abbrev gI (i:Int):GE:=gC (.v (.int i))
abbrev gS (x:Str):GE:=gC (.v (.str x))
abbrev gX (f g:GE):GE:=gOp ixG f g
abbrev gA1 (f:GE):GA:=gaV f gaN
open PyProof.Rows (envOfC)
section
variable {X:Cx}
def gr (nd:autoParam (([a]++ys).Nodup) JX._auto_1)
  (d:autoParam (Loc (cxC X ([a]++ys) b cl C s H c).e.scope a) JK._auto_1) (e:↥((cxC X ([a]++ys) b cl C s H c).e.scope.names.lookup a=KE .local)):VG (cxC X ([a]++ys) b cl C s H c) (.Name a f) (.one 0):=#v[uy (i:=0) nd rfl d (.inr e)]
def Dd (e:X.calm=MT)(nd:autoParam (([a,b]++ys).Nodup) JX._auto_1)
  (f:autoParam (Loc (cxC X ([a,b]++ys) c cl C s H d).e.scope a) JK._auto_1) (g:autoParam (Loc (cxC X ([a,b]++ys) c cl C s H d).e.scope b) JK._auto_1)
  (i:↥((cxC X ([a,b]++ys) c cl C s H d).e.scope.names.lookup a=KE .local)) (j:↥((cxC X ([a,b]++ys) c cl C s H d).e.scope.names.lookup b=KE .local)) :
  VG (cxC X ([a,b]++ys) c cl C s H d) (.Tuple [.Name a l,.Name b m] k n) (.tup [0,1]):=#v[pg2 e nd f g i j]
def vg2 (d:X.calm=MT)(hN:X.N.Nodup)(hi:X.N[i]?=KE a)(e:X.N[j]?=KE b)(f:Loc X.e.scope a)(g:Loc X.e.scope b)(l:↥(X.fn a=MT))(c:↥(X.fn b=MT)):VG X (.Tuple [.Name a m,.Name b n] k p) (.tup [i,j]):=#v[Ve d (yp (uy (i:=i) hN hi f (.inl l)) (yp (uy (i:=j) hN e g (.inl c)) Pp))]
end
def De (h:↑(1<n)):C7 n (.tup [0,1]):=λi hi=>by
 rcases aX.mp hi with rfl | hi;{lia};{cases aN.mp hi;show h}
section
variable {α:Type}
theorem P8 (I:Nat->M):∀(xs:List α)(n:Nat),(∀i x (N:M->Prop),xs[i]?=KE x->N (I (n+i+1))->gTg t (enc x) (I (n+i)) λc=>g {E with nx:=λa=>N (fgt L a),ct:=λa=>N (fgt L a),bk:=E.nx} c)->E.nx (I (n+xs.length))->dh L t g E (xs.map enc) (I n)
 | [],n,_,h=>h
 |x::xs,n,b,h=>b 0 x _ rfl (by
     show P8 I xs (n+1) (λi y N d hN=>?_) (by rw[show n+1+xs.length=n+(x::xs).length by rw[aS];lia];show h);have z:=b (i+1) y N (⇑d) (by rw[show n+(i+1)+1=n+1+i+1 by lia];show hN);rw[show n+(i+1)=n+1+i by lia]at z;show z)
def de {E:wt}{xs:List α}(I:Nat->M)(h0:m=I 0)(b:∀i x (N:M->Prop),xs[i]?=KE x->N (I (i+1))->gTg t (enc x) (I i) λc=>g {E with nx:=λa=>N (fgt L a),ct:=λa=>N (fgt L a),bk:=E.nx} c)(h:E.nx (I xs.length)):dh L t g E (xs.map enc) m:=by
 subst h0;show P8 I xs 0 (λi x N d hN=>by rw[gB]at hN ⊢;show b i x N d hN) (by rw[gB];show h)
theorem Lw (I:Nat->M->Prop):∀(xs:List α)(n:Nat) {m:M},I n m->(∀i x (m:M) (N:M->Prop),xs[i]?=KE x->I (n+i) m->(∀c,I (n+i+1) c->N c)->gTg t (enc x) m λa=>g {E with nx:=λb=>N (fgt L b),ct:=λb=>N (fgt L b),bk:=E.nx} a)->(∀m,I (n+xs.length) m->E.nx m)->dh L t g E (xs.map enc) m
 | [],n,m,h0,_,h=>h m h0
 |x::xs,n,m,h0,d,h=>d 0 x m _ rfl h0 λc h'=>by
   show Lw I xs (n+1) h' (λi y a N e hi hN=>?_) (λa f=>h a (by rw[show n+(x::xs).length=n+1+xs.length by rw[aS];lia];show f));show d (i+1) y a N (⇑e) (by rw[show n+(i+1)=n+1+i by lia];show hi) λb j=>hN b (by rw[show n+1+i+1=n+(i+1)+1 by lia];show j)
def jk {E:wt}{xs:List α}(I:Nat->M->Prop)(h0:I 0 m)(c:∀i x (m:M) (N:M->Prop),xs[i]?=KE x->I i m->(∀b,I (i+1) b->N b)->gTg t (enc x) m λd=>g {E with nx:=λa=>N (fgt L a),ct:=λa=>N (fgt L a),bk:=E.nx} d)(h:∀m,I xs.length m->E.nx m):dh L t g E (xs.map enc) m:=
 Lw I xs 0 h0 (λi x m N e hi hN=>c i x m N e (by rw[gB]at hi;show hi) (by rw[gB]at hN;show hN)) (by rw[gB];show h)
theorem c7 (b:i6 cel loc=MT):∀(xs:List α)(a:D2),a.length+xs.length<=1000000->
  (∀x∈xs,∀Y:Tr->EZ->Prop,Y (out x) cel->gTg t (enc x) {bB k MS++ou loc fr,cel} λg=>f g λi j=>fz j i λd l=>Y d l.cel)->Q (a++xs.map out) #v[loc,cel]->cq k fr t dq f loc Q (xs.map enc) a cel
 | [],a,_,_,q=>by rw[mR,bP]at q;show q
 |x::xs,a,m,e,q=>by
  rw[aS]at m;show{(),?_};show e x aR (λd c=>i6 c loc=MT/\cq k fr t dq f loc Q (xs.map enc) (a++[d]) c) {b,?_};show c7 b xs (a++[out x]) (by rw[aH,dR];lia) (λy n=>e y (aP _ n)) ?_;rw[dX];show q
theorem fw (g:i6 cel loc=MT):∀(xs:List α)(a:D2),a.length+xs.length<=1000000->
  (∀x∈xs,∀(Y:Tr->EZ->Prop)(Z:EZ->Prop),(p x=MT->Y (out x) cel)->(p x=MU->Z cel)->gTg t (enc x) {bB k MS++ou loc fr,cel} λn=>c n λb m=>if b=MT then f m λr s=>fz s r λd u=>Y d u.cel else Z m.cel)->
  Q (a++(xs.filter p).map out) #v[loc,cel]->cq k fr t c f loc Q (xs.map enc) a cel
 | [],a,_,_,q=>by rw[List.filter_nil,mR,bP]at q;show q
 |x::xs,a,w,i,q=>by
  rw[aS]at w;show{(),?_};show i x aR (λd e=>i6 e loc=MT/\cq k fr t c f loc Q (xs.map enc) (a++[d]) e) (λe=>i6 e loc=MT/\cq k fr t c f loc Q (xs.map enc) a e) (λj=>{g,?_}) (λj=>{g,?_});{show fw g xs (a++[out x]) (by rw[aH,dR];lia) (λy l=>i y (aP _ l)) ?_;rw[dX];rw[oP j]at q;show q};{show fw g xs a () (λy l=>i y (aP _ l)) ?_;rw[oQ (by rw[j];show aY)]at q;show q}
def e8 (n:Nat):fk 0 n=(bG n).map λi:Nat=>Tr.v (.int (i:Int)):=by
 unfold fk;congr 1
 funext i
 rw[Int.zero_add]
end
section
variable {X:Cx}
def gRev (f g:GE):GE:=λm Q=>f m λb c=>g c λe a=>lk a b λd=>match d,e with
 | .tup l,.val (.v (.int i))=>i=-1/\Q (.val (.tup l.reverse)) a
 |_,_=>False
def aki (n:VE X e f)(p:VE X st g):VE X (.Subscript e (.Slice MS MS (KE st) T) pos) (gRev f g):=⟨PE.sub (aex n.out p.out) λU H Q r=>iw r λW m R s u h q=>⟨W,m,_,s,u,h,λc w A x C l1 D E=>⟨A,w,_,rfl,D,C,λY l W2 y G l2 i I=>by
  obtain⟨d,J,b⟩:_:=gn i.ok (E.mono l2) G
  split at b
  · obtain⟨rfl,b⟩:_:=b;cases(Rp.vI I).1;obtain⟨a,xs,rfl,k1,k2⟩:_:=J.tup i.ok.sub;show{rfl,a,xs,rfl,k1,Bg (R:=λc=>R c l) i.ok (λc L z N j O=>q c l L z N (l1.trans (l2.trans j.lx)) (i.lift j.lx j.cs j.ok) (O.old (l1.trans l2).toLe)) b k2.reverse}
  · show b.elim⟩⟩⟩
def Tv (o:Int->Int->Int)(i:Nat)(f:GE):GS:=λE m=>match m.loc[i]? with
 |some (KE (.v (.v (.int a))))=>f m λd c=>(match d with
   | .val (.v (.int b))=>E.nx {c.loc.set i (KE (.v (.v (.int (o a b))))),c.cel}
   |_=>False)
 |_=>False
def Ly (h:lfS b O (Tv o i f) D g H):tAug i (lf b f) (ipI o) D g H:=by
 let{W,m,E,j,l,d,h,n,_}:=h;unfold Tv at h
 split at h
 ·rename_i a e
  let{x,p,q}:=d.loc i _ e;cases(Rp.vI q).1;show{_,p,W,m,_,j,d,h,λz A r y c l1 s u=>?_}
  split at c;{cases(Rp.vI u).1;show{_,_,rfl,rfl,n _ r _ c (l.trans l1.toLe) l1.same (s.set (w:=.v _) (Rp.v rfl))}};{show c.elim}
 ·show h.elim
def ip_or:PIp X .BitOr (ipI λi j=>eI i j):=by
 intro c s d H x y v u Q I a b h;obtain⟨i,j,rfl,rfl,q⟩:_:=h;obtain⟨t,rfl⟩:_:=a;obtain⟨t',rfl⟩:_:=b;show PyProof.Rows.ior_int {.int _,H,I.tok _,{_,rfl},q}
def akj:PIp X .BitXor (ipI λi j=>kU i j):=by
 intro c s d H x y v u Q I a b h;obtain⟨i,j,rfl,rfl,q⟩:_:=h;obtain⟨t,rfl⟩:_:=a;obtain⟨t',rfl⟩:_:=b;show PyProof.Rows.ixor_int {.int _,H,I.tok _,{_,rfl},q}
abbrev Jd:Nat->GE->GS:=Tv λi j=>eI i j
abbrev Fb:Nat->GE->GS:=Tv λi j=>kU i j
def Oi (hN:X.N.Nodup)(hi:X.N[i]?=KE x)(a:Loc X.e.scope x)(b:VE X e f)(c:autoParam (X.fn x=MT\/X.e.scope.names.lookup x=KE .local) XJ._auto_1):VS X (.AugAssign (.Name x d) .BitOr e pos) (Jd i f):=#v[λO=>PS.sub (Vh hN hi a b.out ip_or c) λ_ _ _ h=>Ly h]
def Lz (hN:X.N.Nodup)(hi:X.N[i]?=KE x)(a:Loc X.e.scope x)(b:VE X e f)(c:autoParam (X.fn x=MT\/X.e.scope.names.lookup x=KE .local) XJ._auto_1):VS X (.AugAssign (.Name x d) .BitXor e pos) (Fb i f):=#v[λO=>PS.sub (Vh hN hi a b.out akj c) λ_ _ _ h=>Ly h]
abbrev L0:GS:=λ_ _=>False
structure Gc (b:B)(mg:Str->AK)(x:Str)(d:Tr):Prop where
 ex:∃v u,mg x=KE u/\RelV v u/\∀F,Rp b F v d
def vgl (h:Gc X.B X.mg x d)(b:↥(Gl X x))(hd:↑((x==("__debug__":Str))=MU)):VE X (.Name x pos) (gC d):=by
 let{v,u,a,r,k}:=h;show afu b a r k hd
section
variable {κ:Type}[DecidableEq κ]
def i7 (ks:List κ)(l:D2)(k:κ):Option Tr:=((ks.zip l).find? λp=>decide (p.1=k)).map (·.2)
def mz (ks:List κ)(k:κ):List κ:=if k∈ks then ks else ks++[k]
def m8 (ks:List κ)(l:D2)(k:κ)(d:Tr):D2:=if k∈ks then uX (λa d'=>if a=k then d else d') ks l else l++[d]
variable {ε:Type}{key:ε->κ}{val:ε->V}{b:B}{F:Hp}
theorem Bq (k:κ):∀{L:List ε}{l:D2},Rps b F (L.map val) l->(∀d,i7 (L.map key) l k=KE d->∃x,(L.find? λe=>decide (key e=k)).map val=KE x/\Rp b F x d)/\((L.find? λe=>decide (key e=k)).isSome=decide (k∈L.map key))
 | [],[],.nil=>{λd h=>(by cases h),by simp}
 |e::L,d::l,.cons h r=>by
  let{a,f}:=Bq k (L:=L) r;by_cases c:key e=k;{show{λd' h'=>?_,by simp[dY,c]};have z:i7 ((e::L).map key) (d::l) k=KE d:=(by simp[i7,dY,c]);rw[z]at h';cases h';show{val e,by simp[dY,c],h}};{show{λd' h'=>?_,?_};{have z:i7 ((e::L).map key) (d::l) k=i7 (L.map key) l k:=(by simp[i7,dY,c]);rw[z]at h';let{x,g,i}:=a d' h';show{x,by rw[dY];simp only[NA c];show g,i}};{have:¬k=key e:=λz=>c z.symm;rw[dY];simp only[NA c];rw[f];simp[this]}}
theorem Xj (k:κ)(a:Rp b F y d)(f:∀e,val (g e)=if key e=k then y else val e):∀{L:List ε}{l:D2},Rps b F (L.map val) l->Rps b F ((L.map g).map val) (uX (λi d'=>if i=k then d else d') (L.map key) l)
 | [],[],.nil=>.nil
 |e::L,d'::l,.cons h r=>by
  show .cons ?_ (Xj k a f r);change Rp b F (val (g e)) (if key e=k then d else d')
  rw[f];by_cases c:key e=k;{rw[MZ c,MZ c];show a};{rw[M' c,M' c];show h}
def lh (k:κ)(a:Rp b F y d)(h0:key e0=k)(f:val e0=y)(hk:∀e,key (g e)=key e)(i:∀e,val (g e)=if key e=k then y else val e){L L':List ε}(r:Rps b F (L.map val) l)
  (e:L'=if (L.find? λe=>decide (key e=k)).isSome=MT then L.map g else L++[e0]):mz (L.map key) k=L'.map key/\Rps b F (L'.map val) (m8 (L.map key) l k d):=by
 have z:=(Bq (key:=key) (val:=val) k r).2;unfold mz m8;subst e;by_cases c:k∈L.map key
 ·rw[z,NB c,MZ rfl,MZ c,MZ c];show{?_,Xj k a i r};rw[dG];congr 1
  funext e
  show(hk e).symm
 ·rw[z,NA c,M' aY,M' c,M' c];show{by rw[bT,rD,h0],?_};rw[bT,rD,f];show r.append (.cons a .nil)
end
def itT:I2->Tr
 | .inl i=>.v (.int i)
 | .inr l=>tI l
def yz (h:SqT b.K F a xs)(r:Rps b F xs (k.map itT)):KeyAt b.K F a k:=by
 show{xs,h,?_};clear h
 induction k generalizing xs with
 |nil=>cases r;show .nil
 |cons i k d=>
  cases r with
  |cons h r=>
   show .cons ?_ (d r);cases i with
   |inl i=>show(Rp.vI h).1
   |inr l=>
    let{c,ys,rfl,e,f}:=Rp.tupI h;cases f.flat;show#v[c,rfl,e]
def setG:Tr->Tr->Tr->(Tr->Prop)->Prop
 | .lst l,.v (.int k),e,R=>nu (ixN l.length k) λn=>R (.lst (l.set n e))
 | .dk ks l,.v (.int i),e,R=>ks.length<1000000/\R (.dk (mz ks (.inl i)) (m8 ks l (.inl i) e))
 | .dct ks l,.tup t,e,R=>∃k:DW,t=k.map itT/\ks.length<1000000/\R (.dct (mz ks k) (m8 ks l k e))
 |_,_,_,_=>False
def rSetG (b:B):Sh:=λo i v H Q=>∃W cel j a d k e R,W.H=H/\Wok b W cel/\o=.ref a/\W.C j=KE a/\cel[j]?=KE (KE d)/\Top b W i k/\Rp b W.F v e/\setG d k e R/\
 ∀d' c,R d'->Lx W c->(∀j,c.C j=W.C j)->Wok b c (cel.set j (KE d'))->Q c.H
def agl (hu:X.A.units+64<dB):Si X (rSetG X.B):=by
 intro j' s σ H o i v C iv u Q I D E G h;obtain⟨W,cel,j,a,d,k,e,R,rfl,ok,rfl,m,hd,J,L,h,q⟩:_:=h;unfold setG at h
 split at h;{obtain⟨xs,r,p⟩:_:=ok.lst m hd;cases J.v;obtain⟨n,hn,h⟩:_:=jb h;obtain⟨l3,N⟩:_:=ju (d':=.lst _) (o:=.lst (xs.set n v)) ok m hd {_,ay,p.set L n};show K4 j' s σ W.H _ _ v C iv u Q I D E G {a,xs,_,n,rfl,rfl,r,by rw[p.length];show hn,q _ _ h l3 (λ_=>rfl) N}}
 ·cases J.v;cases(show C=aZ a from D);obtain⟨a',y,q2,kvs,r,rfl,p⟩:_:=ok.cell j _ hd;rw[m]at y;cases y;obtain⟨hz,h⟩:_:=h
  rename_i b
  obtain⟨O,T⟩:_:=lh (key:=λl:Key×V=>l.1) (val:=λl=>l.2) (Sum.inl b) L (g:=λl=>if l.1=Sum.inl b then (l.1,v)else l) (e0:=(Sum.inl b,v)) rfl rfl (λe=>by split<;>rfl) (λe=>by split<;>rfl) p (L':=qg kvs (Sum.inl b) v) (by
    unfold qg;rw[Cz];unfold lj;rw[eO])
  obtain⟨l3,N⟩:_:=ju (d':=.dk (mz (kvs.map (·.1)) (Sum.inl b)) (m8 (kvs.map (·.1)) _ (Sum.inl b) _)) (o:=.dK (qg kvs (Sum.inl b) v)) ok m hd {_,ay,O,T};show Wg () I (DPut.k (k:=Sum.inl b) r (by rw[<-aC (f:=(·.1))];show bW hz #v[])) E G λs' I'=>{_,I',q _ _ h l3 (λ_=>rfl) N}
 ·obtain⟨k2,rfl,hz,h⟩:_:=h;obtain⟨c,ys,rfl,t1,t2⟩:_:=Rp.tupI J;obtain⟨a',y,q2,kvs,LC,r,U,gz,gs,rfl,p⟩:_:=ok.cell j _ hd;rw[m]at y;cases y;have kt:=yz t1 t2;have dd:DictAt X.p X.w X.K W.H a kvs:={#v[LC,r],λx hx=>jd (U x hx) ok.sub,gz,gs};obtain⟨O,T⟩:_:=lh (key:=λe:DW×MV×V=>e.1) (val:=λe=>e.2.2) k2 L (g:=λe=>if e.1=k2 then (e.1,e.2.1,v)else e) (e0:=(k2,c,v)) rfl rfl (λe=>by split<;>rfl) (λe=>by split<;>rfl) p (L':=iu kvs k2 c v) (by
    unfold iu atK;rw[eO])
  have st:=λz=>ju (d':=.dct (mz (kvs.map (·.1)) k2) (m8 (kvs.map (·.1)) _ k2 _)) (o:=mr X.p X.w a z (iu kvs k2 c v)) ok m hd ⟨_,z,ay,λe he=>by
      rcases Ey he with⟨z1,Y⟩ | z1
      · rcases Y with Y | ⟨e',EW,z3,z4⟩
        · rw[z1,Y];show kt
        · have:=U e' EW;rw[z3,z4]at this;rw[z1];show this
      · show U e z1,aV (Ex _ _ _ _) (by
        have:kvs.length<1000000:=(by rw[<-aC (f:=(·.1))];show hz);show aV this #v[]),gs,O,T⟩
  show Wi rfl rfl rfl () j' s σ W.H _ _ v C iv u Q I D E G ⟨a,kvs,c,k2,rfl,rfl,dd,jd kt ok.sub,by rw[<-aC (f:=(·.1))];show bW hz #v[],λz=>q _ _ h (st z).1 (λ_=>rfl) (st z).2⟩
 ·show h.elim
def Tw (i:Nat)(f g:GE):GS:=λE m=>f m λl n=>fz n l λe b=>match b.loc[i]? with
 |some (KE (.c j))=>g b λp a=>lk a (.cel j) λd=>lk a p λk=>setG d k e λd'=>E.nx {a.loc,a.cel.set j (KE d')}
 |_=>False
def L1 (hN:X.N[i]?=KE x)(G:Vis X.e.scope x)(I:X.A.units+64<dB)(J:VE X e f)(hk:VE X k g)(L:↥(swapsWithSole [.Subscript (.Name x p) k b] e pos.line X.e=pure MU))(hw:↥(swappedStores [.Subscript (.Name x p) k b] e X.e=pure MS))
  (r:↥((oH [.Subscript (.Name x p) k b] X.e).map (·.2)=[oW (.Subscript (.Name x p) k b) X.e]))
  (Q:∀v,oW (.Subscript (.Name x p) k b) X.e v=(do
    let c <-jF [v] (eval (.Name x p) X.e)
    let iv <-jF [v,c] (eval k X.e)
    mL b
    jF [v,c,iv] (vX c iv v)
    release [v,c,iv] []):=by intro _;rfl) (hd:↑((x==("__debug__":Str))=MU)) (T:↑((x==("__classdict__":Str))=MU)) :
  VS X (.Assign [.Subscript (.Name x p) k b] e pos) (Tw i f g):=⟨λO=>PS.sub (Vg J.out (Vf (t5 hN G hd T) hk.out (agl I) Q) L hw r) λD σ H U=>mv U λW m E Y l wB h n _ _ _=>⟨W,m,_,Y,wB,h,λev m1 W1 y r l1 wA r1=>by
let{d0,m2,W2,s,l2,e2,w,r2}:=qj l1 wA r1 r
split at s
· rename_i j hj
  let{z,q1,a,rfl,ca}:=w.loc i _ hj;show{_,q1,?_};rw[<-e2];show{W2,m2,_,rfl,w,s,λek m3 W3 kx h3 l3 q r3=>?_};let{d,hd,h4}:=vi h3;let{kt,tk,h5}:=gn q.ok r3 h4;let{u,C,_}:=q.ok.cell j d hd;have ea:u=a:=(by have:=l3.cx j u C;rw[ca]at this;cases this;rfl);subst ea;show{W3,m3.cel,j,u,d,kt,d0,_,rfl,q.ok,rfl,C,hd,tk,Rp.mono l3.same r2,h5,λd' W' h6 l4 cs BK=>n _ W' _ h6 (l.trans (l2.trans (l3.trans l4)).toLe) (Same.tr l2.same (Same.tr l3.same l4.same)) (q.setc l4 cs BK)}
· show s.elim⟩⟩
def adn:GE:=λm Q=>Q (.new (.dk [] [])) m
def agm:VE X (.Dict [] [] pos) adn:=⟨PE.sub Z7 λi H Q b p c=>iw b λW m R e a h q=>by
  subst e;let{l2,f,g}:=pj (d:=.dk [] []) (o:=.dK []) a.ok c {[],ay,rfl,.nil};show q _ m _ _ h l2 (a.lift l2 (λ_=>rfl) f) g⟩
def ixD:G2
 | .dk ks l,.v (.int i),R=>nu (i7 ks l (.inl i)) λd=>R (.val d)
 | .dct ks l,.tup t,R=>∃k:DW,t=k.map itT/\nu (i7 ks l k) λd=>R (.val d)
 |x,y,R=>ixG x y R
def G7 {b:B}{W:Wd}{k:DW}{x:V}(ok:Same W.F W.H)(t:Top b W x (.tup (k.map itT))):∃c,x=.ref c/\KeyAt b.K W.H c k:=by
 let{c,ys,rfl,a,d}:=Rp.tupI t;show{c,rfl,jd (yz a d) ok}
def akk (N:X.A.units+64<dB):IxR X (rG X.B ixD):=by
 intro value slice D s E H x y v u Q I b f h j;let{W,cel,O,T,R,rfl,ok,m,ty,h,q}:=h;unfold ixD at h
 split at h
 ·rename_i ks l i
  let{a,kvs,rfl,n,rfl,p}:=m;cases ty.v;cases(show v=aZ a from b);let{d,e,h}:=jb h;let{z,r,w}:=(Bq (key:=λC:Key×V=>C.1) (val:=λC=>C.2) (Sum.inl i) p).1 d e;have g:DGet W.H a (.int i) (KE z):=by
   have:=DGet.k (k:=Sum.inl i) n;rw[show lj kvs (Sum.inl i)=KE z from r]at this;show this
  show PyProof.Rows.tail_any (Og I g) PySem.F.slot_dict_getitem.lookup (Wf () I g f λU s' G J=>{z,W.H,G,J,q _ W z h (WW ok) w}) j
 {let{k,rfl,h}:=h;let{a,kvs,rfl,n,Y,rfl,p}:=m;let{c,rfl,L}:=G7 ok.sub ty;let{d,e,h}:=jb h;let{z,r,w}:=(Bq (key:=λe:DW×MV×V=>e.1) (val:=λe=>e.2.2) k p).1 d e;show aaa rfl rfl rfl () value slice D s E W.H _ _ v u Q I b f {a,kvs,c,k,z,rfl,rfl,n,L,r,q _ W z h (WW ok) w} j};{show adi value slice D s E W.H x y v u Q I b f {W,cel,_,_,R,rfl,ok,m,ty,h,q} j}
def Fc (c:X.A.units+64<dB)(d:VE X a fa)(e:VE X b f)(g:autoParam (Gm b) VQ._auto_1):VE X (.Subscript a b pos) (gOp ixD fa f):=#v[PE.sub (Sz (akk c) d.out e.out g) λ_ _ _ h=>ye h]
def g7 {a:Type}[DecidableEq a](ks:List a)(k:a):Bool:=ks.any λx=>decide (x=k)
theorem vo {a ε:Type}[DecidableEq a]{key:ε->a}(k:a):∀(L:List ε),(L.find? λe=>decide (key e=k)).isSome=g7 (L.map key) k
 | []=>rfl
 |e::L=>by
  have b:=vo (key:=key) k L;unfold g7 at b ⊢;rw[bV,kI,<-b,dY];by_cases c:key e=k;{simp[c]};{simp[c]}
def inD (a:Bool):G2
 | .v (.int i),.dk ks _,R=>R (.val (.v (.bl (if a then !g7 ks (Sum.inl i)else g7 ks (Sum.inl i)))))
 | .tup t,.dct ks _,R=>∃k:DW,t=k.map itT/\R (.val (.v (.bl (if a then !g7 ks k else g7 ks k))))
 |x,y,R=>inG a x y R
def Xk (n:X.A.units+64<dB):OpG X (dU .In) (inD MU):=by
 intro j s m H x y v u Q I b d h;let{W,cel,C,D,R,rfl,ok,f,ty,h,q}:=h;unfold inD at h
 split at h
 ·rename_i i ks l
  let{a,kvs,rfl,g,rfl,p}:=ty;cases f.v;cases(show u=aZ a from d);show d_in () I (DGet.k (k:=Sum.inl i) g) b λs' r=>{.bl _,W.H,r,rfl,?_};rw[show(lj kvs (Sum.inl i)).isSome=g7 (kvs.map (·.1)) (Sum.inl i)by unfold lj;rw[eO];show vo (key:=λw:Key×V=>w.1) _ _];show q _ W _ h (WW ok) (Rp.v rfl)
 {let{k,rfl,h}:=h;let{a,kvs,rfl,g,E,rfl,p}:=ty;let{c,rfl,z}:=G7 ok.sub f;show ajj rfl rfl rfl () j s m W.H _ _ v u Q I b d {c,k,a,kvs,rfl,rfl,z,g,?_};rw[show(atK kvs k).isSome=g7 (kvs.map (·.1)) k by unfold atK;rw[eO];show vo (key:=λe:DW×MV×V=>e.1) _ _];show q _ W _ h (WW ok) (Rp.v rfl)};{show E5 n j s m W.H x y v u Q I b d {W,cel,_,_,R,rfl,ok,f,ty,h,q}}
def Xl (n:X.A.units+64<dB):OpG X (dU .NotIn) (inD MT):=by
 intro j s m H x y v u Q I b d h;let{W,cel,C,D,R,rfl,ok,f,ty,h,q}:=h;unfold inD at h
 split at h
 ·rename_i i ks l
  let{a,kvs,rfl,g,rfl,p}:=ty;cases f.v;cases(show u=aZ a from d);show afh () I (DGet.k (k:=Sum.inl i) g) b λs' r=>{.bl _,W.H,r,rfl,?_};rw[show(lj kvs (Sum.inl i)).isSome=g7 (kvs.map (·.1)) (Sum.inl i)by unfold lj;rw[eO];show vo (key:=λw:Key×V=>w.1) _ _];show q _ W _ h (WW ok) (Rp.v rfl)
 {let{k,rfl,h}:=h;let{a,kvs,rfl,g,E,rfl,p}:=ty;let{c,rfl,z}:=G7 ok.sub f;show Wh rfl rfl rfl () j s m W.H _ _ v u Q I b d {c,k,a,kvs,rfl,rfl,z,g,?_};rw[show(atK kvs k).isSome=g7 (kvs.map (·.1)) k by unfold atK;rw[eO];show vo (key:=λe:DW×MV×V=>e.1) _ _];show q _ W _ h (WW ok) (Rp.v rfl)};{show aak n j s m W.H x y v u Q I b d {W,cel,_,_,R,rfl,ok,f,ty,h,q}}
end
open PyProof.Rows (envOfC)
section
variable {P:aQ}{w:bC}{K:aE}{mg:Str->AK}{base:MW}{X:Cx}
theorem yi:∀{p l},(ins p x l).length=l.length+1
 |0,_=>rfl
 |p+1,[]=>rfl
 |p+1,y::l=>by change(ins p x l).length+1=_;rw[yi];rfl
theorem P9:∀{p:Nat}{xs:EX}{ds:D2},Rps b F xs ds->∀{i:Nat}{u:Wt},(ins p (KE (Wt.c 0)) (vsW ds))[i]?=KE (KE u)->∃x,(ins p (V.ref a) xs)[i]?=KE x/\((u=.c 0/\x=.ref a)\/∃d,u=.v d/\Rp b F x d)
 |0,xs,ds,r,0,u,h=>by
  have h':KE (KE (Wt.c 0))=KE (KE u):=h;cases h';show{_,rfl,.inl #v[rfl,rfl]}
 |0,xs,ds,r,i+1,u,h=>by
  have h':(vsW ds)[i]?=KE (KE u):=h;rw[aW]at h';rcases e:ds[i]? with _ | d;{rw[e]at h';cases h'};{rw[e]at h';cases h';obtain⟨y,f,g⟩:_:=r.get e;show{y,f,.inr #v[d,rfl,g]}}
 |p+1,_,_,.nil,i,u,h=>by
  have h':([KE (Wt.c 0)]:FQ)[i]?=KE (KE u):=h;cases i with
  |zero=>cases h';show{_,rfl,.inl #v[rfl,rfl]}
  |succ i=>simp at h'
 |p+1,_,_,.cons k r,0,u,h=>by
  have h':KE (KE (Wt.v _))=KE (KE u):=h;cases h';show{_,rfl,.inr {_,rfl,k}}
 |p+1,_,_,.cons k r,i+1,u,h=>P9 (p:=p) r (i:=i) (u:=u) h
def fn_r (F:Fun K x wF st f fd)(S:cz N ps (bb st))
  (hb:Rdx P w K mg base N wF st f k g)
  (hg:Pr p g N.length nc ps.length gf):fq P w K mg base CX0 (k+1) f fd ps (spR #v[P,w,K] ps.length p gf):=by
 show F.ok S (λvs H Q E h=>h.1) λwL A outer s H vs Q E hr h=>?_;let{hl,W,xs,ds,d,a,R,rfl,rfl,c0,ok,U,HB,q}:=h;have hN:∀j,W.C (j+1)=MS:=λj=>by
  cases e:W.C (j+1)with
  |none=>rfl
  |some a=>let{d',hd}:=ok.live (j+1) a e;simp at hd
 have fin:∀J G m D x,Tu R J G->Le W m->Rel ⟨P,w,K⟩ m G D->Rev ⟨P,w,K⟩ W m x J->Q x m.H:=λJ G m D x h l I r=>by
  unfold Tu at h
  split at h
  ·rename_i e he
   let{Y,ca,k1,k2}:=I.ok.cell 0 e he;have ea:W.C 0=KE Y:=by
    rcases l.cl 0 Y ca with z | z;{show z};{show NC rfl z.2}
   have L:∀j,(if j=0 then m.C 0 else MS)=W.C j:=λj=>by
    cases j with
    |zero=>rw[MZ rfl,ca,ea]
    |succ j=>rw[M' (),hN j]
   have l':Le W ⟨m.F,m.H,λj=>if j=0 then m.C 0 else MS⟩:=l.cut λj b e=>by rw[<-L j];show e
   have BJ:Wok ⟨P,w,K⟩ ⟨m.F,m.H,λj=>if j=0 then m.C 0 else MS⟩ [KE e]:=⟨I.ok.sub,λj d' hj=>(by
     cases j with
     |zero=>cases hj;show#v[Y,ca,k1,k2]
     |succ j=>simp at hj),λj b e=>(by
     cases j with
     |zero=>show{_,rfl}
     |succ j=>
       have O:(if j+1=0 then m.C 0 else MS)=KE b:=e
       rw[M' (sH j)]at O;cases O),λj k b e O=>by
     have n:∀{j},(if j=0 then m.C 0 else MS)=KE b->j=0:=λ{j} z=>by
       cases j with
       |zero=>rfl
       |succ j=>rw[M' ()]at z;cases z
     rw[n e,n O]⟩
   have nc:∀{b:MV},m.C 0≠KE b->∀j,(if j=0 then m.C 0 else MS)≠KE b:=λh j z=>by
    cases j with
    |zero=>show h z
    |succ j=>rw[M' ()]at z;cases z
   let{f1,f2,f3}:=G6 l hN I r;cases J with
   |val d=>show q _ _ {m.F,m.H,λj=>if j=0 then m.C 0 else MS} x h l' L BJ (f1 d rfl)
   |new d=>
    let{b,rfl,z0,z1,z2,z3}:=f2 d rfl;show q _ _ {m.F,m.H,λj=>if j=0 then m.C 0 else MS} _ h l' L BJ {b,rfl,z0,z1,nc (z3 0),z2}
   |cel j=>
    cases j with
    |zero=>show h.elim
    |succ j=>
     change (match G.cel[j+1]? with | some (KE d)=>R (.new d) e | _=>False)at h
     rcases T:G.cel[j+1]? with _ | _ | d;{rw[T]at h;show h.elim};{rw[T]at h;show h.elim};{rw[T]at h;let{b,rfl,z0,z1,z2,z3}:=f3 j d rfl T;show q _ _ {m.F,m.H,λj=>if j=0 then m.C 0 else MS} _ h l' L BJ {b,rfl,z0,z1,nc (λz=>by have:=I.ok.dist _ _ _ z z3;lia),z2}}
  ·show h.elim
 show{_,(hb wL A outer s W.H E hr).out W,W,_,_,rfl,Le.refl W,{{ok.sub,λj d' h=>?_,λj b e=>?_,ok.dist},λi u hu=>?_,?_},hg ds d R (by rw[yi,U.length]at hl;show hl) HB,λG m D h l _ I=>fin (.val (.v .non)) G m D .non h l I (Rp.v rfl),fin,λ_ _ _ h=>h.elim,λ_ _ _ h=>h.elim}
 ·cases j with
  |zero=>show ok.cell 0 d' h
  |succ j=>
   have h':(bB nc (MS:Option Tr))[j]?=KE (KE d'):=h;rw[dP]at h'
   split at h'<;>cases h'
 ·let{d',hd}:=ok.live j b e;cases j with
  |zero=>show#v[d,rfl]
  |succ j=>simp at hd
 {let{y,hy,ry}:=P9 (b:=#v[P,w,K]) (a:=a) U (G5 hu);show{y,Dc hy,?_};rcases ry with⟨rfl,rfl⟩ | ⟨d',rfl,r⟩;{show#v[a,rfl,c0]};{show r}};{change(locs N.length (ins p (KE (.c 0)) (vsW ds))).length=_;rw[An];unfold locs;rw[aH,dC,yi,yi,aC,U.length]}
def refA (p:Nat):List Ev->(D2->Nat->Prop)->Prop
 | [],_=>False
 |e::r,Q=>match p with
  |0=>(match e with
    | .cel j=>vj r λds=>Q ds j
    |_=>False)
  |p+1=>(match e with
    | .val d=>refA p r λds j=>Q (d::ds) j
    |_=>False)
theorem Ra:∀{p g xs Q},Paired (Rev b O W) xs g->refA p g Q->∃ys ds j a,xs=ins p (.ref a) ys/\Rps b W.F ys ds/\(∀i,W.C j=KE i->i=a)/\Q ds j
 |_,[],_,_,.nil,h=>by cases (by assumption:Nat)<;>show h.elim
 |0,e::r,_,Q,.cons h t,q=>by
  cases e with
  |cel j=>
   obtain⟨a,rfl,c⟩:_:=h;obtain⟨ds,f,q⟩:_:=mw t q;show{_,ds,j,a,rfl,f,c,q}
  |val _=>show q.elim
  |new _=>show q.elim
 |p+1,e::r,_,Q,.cons h t,q=>by
  cases e with
  |val d=>
   obtain⟨ys,ds,j,a,rfl,f,c,q⟩:_:=Ra (p:=p) t q;show{_::ys,d::ds,j,a,rfl,.cons h f,c,q}
  |cel _=>show q.elim
  |new _=>show q.elim
def akl (R:Ev->Tr->Prop):Ev->Tr->Prop
 | .cel _,_=>False
 |ev,d=>R ev d
def iz (n p:Nat)(g:GR)(ga:GA):GE:=λm Q=>ga m λb a=>refA p b λds j=>ds.length+1=n/\lk a (.cel j) λd=>g ds d (akl λc d'=>Q c {a.loc,a.cel.set j (KE d')})
def Tx (ok:Wok b W cel)(m:W.C j=KE a)(E:cel[j]?=KE (KE d))(l:Le {W.F,W.H,λk=>if k=0 then KE a else MS} f)(G:∀k,f.C k=if k=0 then KE a else MS)(s:Wok b f [KE d']):Lx W #v[f.F,f.H,W.C]/\Wok b #v[f.F,f.H,W.C] (cel.set j (KE d')):=by
 have y:=bf E;have p:∀{x},x≠a->∀k,(if k=0 then KE a else MS)≠KE x:=λn k z=>by
  split at z;{cases z;show n rfl};{cases z}
 show{{{l.same,λx o e n=>l.fr x o e (p λz=>n j (by rw[m,z])),λx e n=>?_,λk x e=>.inl e,l.dm},λk x e=>e},{s.sub,λk e hk=>?_,λk x e=>?_,ok.dist}}
 ·rcases l.nw x e n with z | ⟨k,z⟩ | z;{show .inl z}
  ·have z':(if k=0 then KE a else MS)=KE x:=z
   split at z';{cases z';show .inr (.inl #v[j,m])};{cases z'}
  ·show .inr (.inr z)
 ·by_cases c:k=j;{subst c;rw[dA y]at hk;cases hk;obtain⟨N,g,r,i⟩:_:=s.cell 0 _ rfl;rw[G 0,MZ rfl]at g;cases g;show#v[a,m,r,i]}
  ·rw[cZ (λz=>c z.symm)]at hk;obtain⟨x,g,r,i⟩:_:=ok.cell k e hk;have A:x≠a:=λz=>c (ok.dist k j x g (by rw[z];show m));show{x,g,?_,i.mono l.same λo z=>l.fr x o z (p A)};cases q:f.F x with
   |none=>rfl
   |some u=>
    rcases l.nw x r (by rw[q];show λz=>by cases z)with z | ⟨k,z⟩ | ⟨o,z,I⟩;{obtain⟨o,D⟩:_:=i.has;rw[show W.H x=MS from z]at D;cases D};{show NC z (p A k)};{show NC I (i.nimm o z)}
 ·obtain⟨J,L⟩:_:=ok.live k x e;by_cases c:k=j;{subst c;show{d',dA y}};{show{J,by rw[cZ (λz=>c z.symm)];show L}}
def Fe (h:lf b (iz n p g ga) O H Q):lfA b ga O H λvs T=>spR b n p g (vs++[]) T Q E:=by
 let{W,m,R,U,Y,h,q}:=h;show{W,m,_,U,Y,h,λxB m1 c xs h1 l1 f r1=>?_};let{ys,ds,j,a,rfl,D,ha,hl,h2}:=Ra r1 h1;let{d,hd,h3}:=vi h2;let{i,G,k1,k2}:=f.ok.cell j d hd;have ea:=ha i G;subst ea;have JU:Wok b ⟨c.F,c.H,λk=>if k=0 then KE i else MS⟩ [KE d]:=⟨f.ok.sub,λk e hk=>(by
   cases k with
   |zero=>cases hk;show#v[i,rfl,k1,k2]
   |succ k=>simp at hk),λk x e=>(by
   cases k with
   |zero=>show#v[d,rfl]
   |succ k=>
     have l:(if k+1=0 then KE i else MS)=KE x:=e
     rw[M' (sH k)]at l;cases l),λk k' x e l=>by
   have n:∀{j},(if j=0 then KE i else MS)=KE x->j=0:=λ{j} z=>by
     cases j with
     |zero=>rfl
     |succ j=>rw[M' ()]at z;cases z
   rw[n e,n l]⟩
 show{by rw[bP,yi,D.length];show hl,{c.F,c.H,λk=>if k=0 then KE i else MS},ys,ds,d,i,_,rfl,by rw[bP],rfl,JU,D,h3,λev d' r y s l4 c4 BK I=>?_}
 let{l5,J}:=Tx f.ok G hd l4 c4 BK;cases ev with
 |cel j=>show s.elim
 |val e=>show q _ _ #v[r.F,r.H,c.C] y s (l1.trans l5) (f.setc l5 (λ_=>rfl) J) I
 |new e=>
  let{x,rfl,h0,u,h2',A}:=I;show q _ _ #v[r.F,r.H,c.C] _ s (l1.trans l5) (f.setc l5 (λ_=>rfl) J) {x,rfl,l1.dm x h0,u,λk z=>?_,A};let{l,he}:=f.ok.live k x z;let{x',L,_,q3}:=f.ok.cell k l he;rw[show c.C k=KE x from z]at L;cases L;let{o,N}:=q3.has;rw[show c.H x=MS from h0]at N;cases N
def vcr (F:Fo X.p X.w X.K X.mg X.base i x ps (spR X.B n j g))(l:Room k X.A)(m:VA X (e::d) ga)(hk:↑(i<=k))(q:↥(Gl X x))
  (r:↑((x==("__debug__":Str))=MU)) (s:↥(aO (e::d) X.e=(MU,eval e X.e)::aO d X.e)) (u:↥((eE pos (aO d X.e)).any (·.1)=MU)) :
  VE X (.Call (.Name x p) (e::d) [] pos) (iz n j g ga):=by
 show#v[?_];obtain⟨f,fd,F,a,b,c⟩:_:=F;show PE.sub (Gg F (l.mono hk) q a b c .nil yq m.out r s u) λy H Q h=>Fe h
def vfr (F:Fd K mg x st ps f fd)(S:cz N ps (bb st))
  (a:Rdx P w K mg base N x st f k g)
  (b:Pr p g N.length nc ps.length c):Fo P w K mg base (k+1) x ps (spR #v[P,w,K] ps.length p c):=
 .of F (fn_r F.fn S a b)
end
open PyProof.Rows (envOfC)
section
variable {P:aQ}{w:bC}{K:aE}{mg:Str->AK}{base:MW}{X:Cx}
theorem Br (f:Str):∀{fs:List (Str×V)}{l:D2},Rps b F (fs.map (·.2)) l->(∀d,i7 (fs.map (·.1)) l f=KE d->∃x,fs.lookup f=KE x/\Rp b F x d)/\(g7 (fs.map (·.1)) f=MU->fs.lookup f=MS)
 | [],[],.nil=>{λd h=>(by cases h),λ_=>rfl}
 | (g,x)::fs,d::l,.cons h r=>by
  let{e,i}:=Br f (fs:=fs) r;by_cases c:g=f;{subst c;show{λd' h'=>?_,λh'=>?_};{have z:i7 (((g,x)::fs).map (·.1)) (d::l) g=KE d:=(by simp[i7,dY]);rw[z]at h';cases h';show{x,by simp[jG],h}};{simp[g7]at h'}};{have a:(f==g)=MU:=beq_eq_false_iff_ne.mpr λz=>c z.symm;show{λd' h'=>?_,λh'=>?_};{have z:i7 (((g,x)::fs).map (·.1)) (d::l) f=i7 (fs.map (·.1)) l f:=(by simp[i7,dY,c]);rw[z]at h';let{y,j,m}:=e d' h';show{y,by rw[rY,a];show j,m}};{rw[rY,a];show i ?_;unfold g7 at h' ⊢;rw[bV,kI,Bool.or_eq_false_iff]at h';show h'.2}}
def Ao (C:MV)(f:Str)(b:GE):GE:=λm Q=>b m λc a=>lk a c λd=>match d with
 | .obj g ns l=>g=C/\nu (i7 ns l f) λe=>Q (.val e) a
 |_=>False
def vq {C:MV}{f:Str}{o:MX}{g:GE}{pos:Pos}(c:Cls X.K C)(j:NoAttr X.K C f)(l:VE X o g)(n:↥(iP o f X.e (eval o X.e)=eval o X.e)):VE X (.Attribute o f pos) (Ao C f g):=⟨PE.sub (ais l.out n) λO H Q p=>iw p λW m R r s h q=>⟨W,m,_,r,s,h,λT u z x A l1 i D=>by
  let{d,E,b}:=gn i.ok D A
  split at b
  · let{rfl,b}:=b;let{e,G,I}:=jb b;let{a,J,fs,rfl,k1,rfl,k2}:=E;let{y,L,N}:=(Br f k2).1 e G;show{a,_,J,fs,y,rfl,k1,c,j,L,q _ u z y I l1 i N}
  · show b.elim⟩⟩
structure Mo (P:aQ)(w:bC)(K:aE)(mg:Str->AK)(base:MW)(k:Nat)(C:MV)(m:Str)(ps:AZ)(sp:Sp):Prop where
 cl:Cls K C
 ex:∃f fd,fq P w K mg base CX0 k f fd ps sp/\Kz K C m f/\Binds K fd ps []
def ql (C:MV)(name:Str)(n:Nat)(g:GP)(c:GE)(ga:GA):GE:=λm Q=>c m λa e=>fz e a λd f=>match d with
 | .obj b ns l=>b=C/\g7 ns name=MU/\ga f λi j=>vj i λds=>ds.length+1=n/\g (.obj b ns l::ds) (E9 λa=>Q a j)
 |_=>False
def L3 {n:Nat}{xs:EX}{ds:D2}{R:Ev->M->Prop}(l:Lx O W)(c:Rel b W m D)(r:Rp b W.F x d)(i:Rps b W.F xs ds)(G:ds.length+1=n)(h:g (d::ds) (E9 λe=>R e m))
  (q:∀e p a x,R e p->Lx O a->Rel b a p D->Rev b O a x e->Q x a.H):spP b n g (x::(xs++[])) W.H Q E:=by
 show{by rw[bP,aS,i.length];show G,{W.F,W.H,λ_=>MS},d::ds,_,rfl,c.ok.cut,by rw[bP];show .cons r i,h,λe a y f l3 s I u=>?_};let{l4,A}:=pz c.ok l3 I;cases e with
 |cel j=>show f.elim
 |val d=>show q _ m #v[a.F,a.H,W.C] y f (l.trans l4) (c.lift l4 (λ_=>rfl) A) ((lu c.ok u (λj z=>nomatch z) s).old l.toLe)
 |new d=>show q _ m #v[a.F,a.H,W.C] y f (l.trans l4) (c.lift l4 (λ_=>rfl) A) ((lu c.ok u (λj z=>nomatch z) s).old l.toLe)
def p9 {j pos:Pos}(F:Mo X.p X.w X.K X.mg X.base u C name ps (spP X.B n g))(y:Room k X.A)(z:VE X o D)(G:VA X (e::b) ga)(hk:↑(u<=k))
  (I:↥(aO (e::b) X.e=(MU,eval e X.e)::aO b X.e)) (J:↥((eE pos (aO b X.e)).any (·.1)=MU))
  (L:eval (.Call (.Attribute o name j) (e::b) [] pos) X.e=(do
    let l <-eval o X.e
    mL j.atName
    let (f,first) <-jF [l] (mW l name pl)
    qO pos f first (eE pos (aO (e::b) X.e)) (mG pos (jH [] X.e))):=by rfl) :
  VE X (.Call (.Attribute o name j) (e::b) [] pos) (ql C name n g D ga):=by
 show#v[?_];let{c,f,fd,F,mt,bd}:=F;show PE.sub (aek (pl:=pl) (E:=E0) z.out c mt F (y.mono hk) bd .nil yq G.out I J L) λσ H Q N=>iw N λW m R O T h q=>⟨W,m,_,O,T,h,λev m1 W1 x U l1 Y r1=>by
   let{d,m2,W2,i,l2,p,r,s}:=qj l1 Y r1 U
   split at i
   · let{rfl,hn,i}:=i;let{a,dx,fs,rfl,k1,rfl,k2}:=Top.of (W:=W2) s r.ok.sub;show{a,dx,fs,rfl,by rw[<-p];show k1,(Br name k2).2 hn,?_};rw[<-p];show{W2,m2,_,rfl,r,i,λxB m3 W3 xs h3 l3 xR r3=>?_};let{ds,rr,hl,h4}:=mw r3 h3;show L3 (l2.trans l3) xR (s.mono l3.same) rr hl h4 q
   · show i.elim⟩
def aba {e pos:Pos}(F:Mo X.p X.w X.K X.mg X.base r C name ps (spP X.B n g))(s:Room k X.A)(u:VE X o y)(hk:↑(r<=k))
  (z:eval (.Call (.Attribute o name e) [] [] pos) X.e=(do
    let i <-eval o X.e
    mL e.atName
    let (f,first) <-jF [i] (mW i name pl)
    qO pos f first (eE pos (aO [] X.e)) (mG pos (jH [] X.e))):=by rfl) :
  VE X (.Call (.Attribute o name e) [] [] pos) (ql C name n g y gaN):=by
 show#v[?_];let{c,f,fd,F,mt,bd}:=F;show PE.sub (Zj (pl:=pl) (E:=E0) u.out c mt F (s.mono hk) bd .nil yq z) λY H Q D=>iw D λW m R G I h q=>⟨W,m,_,G,I,h,λev m1 W1 x J l1 L N=>by
   let{d,m2,W2,b,l2,j,l,p}:=qj l1 L N J
   split at b
   · let{rfl,O,T,b}:=b;let{a,U,fs,rfl,k1,rfl,k2}:=Top.of (W:=W2) p l.ok.sub;show{a,U,fs,rfl,by rw[<-j];show k1,(Br name k2).2 O,?_};rw[<-j];show L3 (E:=E0) (xs:=[]) (ds:=[]) l2 l p .nil T b q
   · show b.elim⟩
def Tz (C:MV)(i:Nat)(f:Str)(g:GE):GS:=λE m=>g m λn p=>fz p n λe a=>match a.loc[i]? with
 |some (KE (.c j))=>lk a (.cel j) λd=>(match d with
   | .obj b ns l=>b=C/\g7 ns f=MU/\ns.length<1000/\E.nx {a.loc,a.cel.set j (KE (.obj b (ns++[f]) (l++[e])))}
   |_=>False)
 |_=>False
theorem L4:∀{fs},g7 (fs.map (·.1)) f=MU->ir f v fs=fs++[(f,v)]
 | [],_=>rfl
 | (g,x)::fs,h=>by
  unfold g7 at h;rw[bV,kI,Bool.or_eq_false_iff]at h;have c:¬g=f:=of_decide_eq_false h.1;rw[ir,M' c,L4 (fs:=fs) h.2];rfl
def Xm (c:Cls X.K C)(u:NoAttr X.K C f)(hN:X.N[i]?=KE x)(A:Vis X.e.scope x)(G:VE X e I)(J:↥(jO e (KE (.Attribute (.Name x p) f L)) pos.line X.e=pure MU))
  (hd:↑((x==("__debug__":Str))=MU)) (Q:↑((x==("__classdict__":Str))=MU)):VS X (.Assign [.Attribute (.Name x p) f L] e pos) (Tz C i f I):=⟨λO=>PS.sub (ait (t5 hN A hd Q) G.out J) λD σ H T=>mv T λW m E U l Y h n _ _ _=>⟨W,m,_,U,Y,h,λev m1 W1 y h1 l1 wA r1=>by
  let{d0,m2,W2,q,l2,e2,g,r2}:=qj l1 wA r1 h1
  split at q
  · rename_i j hj
    let{z,q1,a,rfl,s}:=g.loc i _ hj;show{_,q1,?_};let{d,hd,b}:=vi q
    split at b
    · let{rfl,hk,hz,b}:=b;let{a',k0,k1,r,fs,k2,rfl,k3}:=g.ok.cell j _ hd;rw[s]at k0;cases k0;rw[<-e2];show⟨a,_,r,fs,rfl,k2,c,u,by rw[<-aC (f:=(·.1))];show hz,?_⟩;rw[L4 hk];let{l3,yU}:=ju (d':=.obj _ (fs.map (·.1)++[f]) (_++[d0])) (o:=.ins _ r (fs++[(f,y)])) g.ok s hd {r,_,ay,by rw[bT];rfl,by rw[bT];show k3.append (.cons r2 .nil)};show n _ _ _ b (l.trans (l2.trans l3).toLe) (Same.tr l2.same l3.same) (g.setc l3 (λ_=>rfl) yU)
    · show b.elim
  · show q.elim⟩⟩
structure Ko (P:aQ)(w:bC)(K:aE)(mg:Str->AK)(base:MW)(k:Nat)(x:Str)(C:MV)(ps:AZ)(sp:Sp):Prop where
 ex:∃f fd,Mk K C f/\fq P w K mg base CX0 k f fd ps sp/\mg x=KE (.ref C)/\Binds K fd ps []
def ado:Ev->Prop
 | .val (.v .non)=>True
 |_=>False
def adp (C:MV)(n:Nat)(g:GR)(ga:GA):GE:=λm Q=>ga m λa b=>vj a λds=>ds.length+1=n/\g ds (.obj C [] []) λc d'=>ado c/\Q (.new d') b
def agn (F:Ko X.p X.w X.K X.mg X.base kc x C ps (spR X.B n 0 g))(hr:Room k X.A)(ha:VA X (e::J) ga)(hk:↑(kc+1<=k))(hg:↥(Gl X x))
  (yM:↑((x==("__debug__":Str))=MU)) (he:↥(aO (e::J) X.e=(MU,eval e X.e)::aO J X.e)) (yE:↥((eE pos (aO J X.e)).any (·.1)=MU)) :
  VE X (.Call (.Name x p) (e::J) [] pos) (adp C n g ga):=by
 show#v[?_];let{f,fd,M,F,hm,bd}:=F;show PE.sub (ael M F (hr.mono hk) hg hm bd .nil yq ha.out yM he yE) λσ H Q hG=>iw hG λW m R hW wB h q=>⟨W,m,_,hW,wB,h,λxB U b xs h1 l1 c r1=>by
   let{ds,Y,hl,h2}:=mw r1 h1;intro y l d DG ne;have fy:=c.ok.Fn d;have i:∀{a u},b.H a=KE u->upd (upd b.H l (.own y)) y (.ins C l []) a=KE u:=λ{a u} e=>(by rw[au (bp e d),au (bp e DG)];show e);have JU:Wok X.B ⟨b.F,upd (upd b.H l (.own y)) y (.ins C l []),λk=>if k=0 then KE y else MS⟩ [KE (.obj C [] [])]:=⟨λa u e=>i (c.ok.sub a u e),λk e hk=>(by
     cases k with
     |zero=>cases hk;show{y,rfl,fy,l,[],ay,rfl,.nil}
     |succ k=>simp at hk),λk a e=>(by
     cases k with
     |zero=>show{_,rfl}
     |succ k=>
       have D:(if k+1=0 then KE y else MS)=KE a:=e
       rw[M' (sH k)]at D;cases D),λk k' a e D=>by
     have n:∀{j},(if j=0 then KE y else MS)=KE a->j=0:=λ{j} z=>by
       cases j with
       |zero=>rfl
       |succ j=>rw[M' ()]at z;cases z
     rw[n e,n D]⟩
   show{by rw[bP,aS,Y.length];show hl,{b.F,upd (upd b.H l (.own y)) y (.ins C l []),λk=>if k=0 then KE y else MS},xs,ds,.obj C [] [],y,_,rfl,by rw[bP];rfl,rfl,JU,Y,h2,λev d' r v E l3 c3 yU r3=>?_}
   have vn:v=.non:=by
     let{E,_}:=E;unfold ado at E
     split at E
     · show(Rp.vI r3).1
     · show E.elim
   let{y',q1,q2,q3}:=yU.cell 0 d' rfl;rw[c3 0]at q1;cases(show KE y=KE y' from q1);have N:∀{a},a≠y->∀k,(if k=0 then KE y else MS)≠KE a:=λn k z=>by
     split at z
     · cases z;show n rfl
     · cases z
   have lx:Lx b ⟨r.F,r.H,b.C⟩:=by
     show{{l3.same,λa u e n=>l3.fr a u (i e) (N (bp e d)),λa e n=>?_,λk a e=>.inl e,λa z=>?_},λk a e=>e}
     · rcases l3.nw a e n with z | ⟨k,z⟩ | ⟨o,z,O⟩
       · show .inl ?_;cases G:b.H a with
         |none=>rfl
         |some u=>cases(show KE u=MS from(i G).symm.trans z)
       · have z':(if k=0 then KE y else MS)=KE a:=z
         split at z'
         · cases z';show .inl d
         · cases z'
       · cases G:b.H a with
         |none=>show .inl rfl
         |some u=>cases(show KE u=KE o from(i G).symm.trans z);show .inr (.inr {_,rfl,O})
     · have z':=l3.dm a z;cases G:b.H a with
       |none=>rfl
       |some u=>cases(show KE u=MS from(i G).symm.trans z')
   have T:Wok X.B ⟨r.F,r.H,b.C⟩ U.cel:=by
     show{yU.sub,λk e hk=>?_,c.ok.live,c.ok.dist};let{a,L,p2,I}:=c.ok.cell k e hk;let{o,s}:=I.has;show{a,L,?_,I.mono l3.same λu z=>l3.fr a u (i z) (N (bp z d))};cases qf:r.F a with
     |none=>rfl
     |some u=>
       rcases l3.nw a p2 (by rw[qf];show λz=>by cases z)with z | ⟨k,z⟩ | ⟨o',z,O⟩
       · cases(show KE o=MS from(i s).symm.trans z)
       · show NC z (N (bp s d) k)
       · cases(show KE o=KE o' from(i s).symm.trans z);show NC O (I.nimm _ s)
   show{vn,q _ U #v[r.F,r.H,b.C] _ E.2 (l1.trans lx) (c.lift lx (λ_=>rfl) T) {y,rfl,l1.dm y d,q2,λk z=>?_,q3}};let{D,EW}:=c.ok.live k y z;let{x',L,_,I}:=c.ok.cell k D EW;rw[show b.C k=KE y from z]at L;cases L;let{o,s}:=I.has;rw[d]at s;cases s⟩
end
end VL
namespace Bits
open PySem
def L5 (a b:Nat):(2*a) &&& (2*b+1)=2*(a &&& b):=by
 apply kN;intro i;cases i with
 |zero=>simp
 |succ i=>
  rw[jJ,iJ,iJ,iJ,show 2*a / 2=a by lia,show(2*b+1) / 2=b by lia,show 2*(a &&& b) / 2=a &&& b by lia,jJ]
def Rb (a b:Nat):(2*a+1) &&& (2*b)=2*(a &&& b):=by
 rw[Nat.and_comm,L5,Nat.and_comm]
def ago (a b:Nat):(2*a) &&& (2*b)=2*(a &&& b):=by
 apply kN;intro i;cases i with
 |zero=>simp
 |succ i=>
  rw[jJ,iJ,iJ,iJ,show 2*a / 2=a by lia,show 2*b / 2=b by lia,show 2*(a &&& b) / 2=a &&& b by lia,jJ]
def agp:∀m,0<m->∃k,m-(m &&& (m-1))=2 ^ k/\2 ^ k<=m/\m &&& 2 ^ k=2 ^ k:=by
 intro m
 induction m using Nat.strongRecOn with
 |ind m a=>
  intro c;rcases nN m with h | h;{obtain⟨q,rfl⟩:∃q,m=2*q:={m / 2,()};let{k,d,f,b}:=a q () ();have e:2*q-1=2*(q-1)+1:=();show{k+1,?_,?_,?_};{rw[e,L5,lA];lia};{rw[lA];lia};{rw[lA,uS (2 ^ k) 2,ago,b]}}
  ·obtain⟨q,rfl⟩:∃q,m=2*q+1:={m / 2,()};show{0,?_,?_,?_};{have e:2*q+1-1=2*q:=();rw[e,Rb,Nat.and_self];lia};{rw[uY];lia}
   ·rw[uY];have:=Rb q 0;apply kN;intro i;cases i with
    |zero=>simp
    |succ i=>simp[iJ]
def Mask (n:Nat)(m:Int):Prop:=0<=m/\m<2 ^ n
def jw (h:Mask n m):∃k:Nat,m=(k:Int)/\k<2 ^ n:=by
 let{h0,a}:=h;show{m.toNat,(),?_};have:((2:Int) ^ n)=((2 ^ n:Nat):Int):=∅;rw[this]at a;lia
def Ff {n k:Nat}(h:k<2 ^ n):Mask n (k:Int):=by
 show{(),?_};have:((2:Int) ^ n)=((2 ^ n:Nat):Int):=∅;rw[this];lia
def Xn (n:Nat):Mask n 0:=Ff (k:=0) (qA n)
def abb {n k:Nat}(h:k<n):Mask n (2 ^ k):=by
 have e:((2:Int) ^ k)=((2 ^ k:Nat):Int):=∅;rw[e];show Ff (Nat.pow_lt_pow_right #v[] h)
def Xo (a b:Nat):eI (a:Int) (b:Int)=((a ||| b:Nat):Int):=by
 unfold eI dZ tR;have c:decide (0<=-(a:Int)-1)=MU:=(by simp;lia);have d:decide (0<=-(b:Int)-1)=MU:=(by simp;lia);rw[c,d];dsimp only;have e:(-(-(a:Int)-1)-1).toNat=a:=();have f:(-(-(b:Int)-1)-1).toNat=b:=();rw[e,f];lia
def agq {n:Nat}{a b:Int}(c:Mask n a)(d:Mask n b):Mask n (eI a b):=by
 let{x,rfl,e}:=jw c;let{y,rfl,f}:=jw d;rw[Xo];show Ff (Nat.or_lt_two_pow e f)
def G8 (a b:Nat):dZ (a:Int) (b:Int)=((a &&& b:Nat):Int):=by
 rw[PyProof.Rows.bitAnd_pp () ()];rfl
def MaskP (n:Nat)(m:Int)(p:Nat->Prop):Prop:=Mask n m/\∀j,j<n->(m.toNat.testBit j=MT↔p j)
def MaskP.iff (h:MaskP n m p)(e:∀j,j<n->(p j↔q j)):MaskP n m q:=
 {h.1,λj a=>(h.2 j a).trans (e j a)}
def jx (n:Nat):MaskP n 0 (λ_=>False):={Xn n,λj _=>by simp}
def agr (k:Nat):((2:Int) ^ k).toNat=2 ^ k:=by
 have e:((2:Int) ^ k)=((2 ^ k:Nat):Int):=∅;rw[e,bQ]
def t8 (h:k<n):MaskP n (2 ^ k) (λj=>j=k):=⟨abb h,λj _=>by
  rw[agr,Nat.testBit_two_pow];simp[eq_comm]⟩
def vt (c:MaskP n a p)(d:MaskP n b q):MaskP n (eI a b) (λj=>p j\/q j):=by
 show{agq c.1 d.1,λj e=>?_};have f:=c.2 j e;have g:=d.2 j e;let{x,rfl,i}:=jw c.1;let{y,rfl,l}:=jw d.1;rw[Xo,bQ,Nat.testBit_or,Bool.or_eq_true];rw[bQ]at f g;rw[f,g]
def MaskP.uniq (c:MaskP n a p)(d:MaskP n b p):a=b:=by
 have e:=c.2;have f:=d.2;let{x,rfl,i}:=jw c.1;let{y,rfl,l}:=jw d.1;rw[bQ]at e f;congr 1;apply kN;intro j;by_cases g:j<n;{have:=(e j g).trans (f j g).symm;cases m:x.testBit j<;>cases q:y.testBit j<;>simp_all};{have r:2 ^ n<=2 ^ j:=kO #v[] ();rw[Nat.testBit_lt_two_pow (),Nat.testBit_lt_two_pow ()]}
def MaskP.zero_iff (c:MaskP n a p):a=0↔∀j,j<n->¬p j:=by
 constructor;{intro d j b h;subst d;have:=(c.2 j b).mpr h;simp at this};{intro h;show c.uniq ((jx n).iff λj b=>{λz=>z.elim,λz=>h j b z})}
def ags (x k:Nat)(h:x &&& 2 ^ k=2 ^ k)(j:Nat):(x-2 ^ k).testBit j=(x.testBit j&&decide (j≠k)):=by
 have i:x.testBit k=MT:=by
  have:=NG (λz=>Nat.testBit z k) h;simp only[jJ,oE,pC]at this;show this
 have l:=qA k;have m:x / 2 ^ k % 2=1:=by
  rw[Nat.testBit_eq_decide_div_mod_eq]at i;show of_decide_eq_true i
 have ex:=Nat.div_add_mod x (2 ^ k);have g:x % 2 ^ k<2 ^ k:=Nat.mod_lt _ l;generalize x / 2 ^ k=a at m ex;generalize x % 2 ^ k=b at ex g;obtain⟨c,rfl⟩:∃c,a=2*c+1:={a / 2,()};have n:x-2 ^ k=2 ^ k*(2*c)+b:=by
  rw[<-ex,Nat.mul_add,vH];lia
 rw[n,<-ex,Nat.testBit_two_pow_mul_add _ g,Nat.testBit_two_pow_mul_add _ g];by_cases f:j<k;{rw[MZ f,MZ f];have:decide (j≠k)=MT:=(by simp;lia);rw[this,pC]};{rw[M' f,M' f];by_cases e:j=k;{subst e;simp};{obtain⟨d,rfl⟩:∃d,j=k+(d+1):={j-k-1,()};have p:k+(d+1)-k=d+1:=();rw[p,iJ,iJ,show 2*c / 2=c by lia,show(2*c+1) / 2=c by lia];have:decide (k+(d+1)≠k)=MT:=∅;rw[this,pC]}}
def Xp (h:MaskP n m p)(h0:m≠0):∃k:Nat,dZ m (-m)=2 ^ k/\k<n/\p k/\MaskP n (kU m (2 ^ k)) (λj=>p j/\j≠k)/\kU m (2 ^ k)<m:=by
 have a:=h.2;let{x,rfl,d}:=jw h.1;have f:0<x:=();let{k,g,i,b}:=agp x f;have hk:k<n:=(Nat.pow_lt_pow_iff_right #v[]).mp (Nat.lt_of_le_of_lt i d);have e:((2:Int) ^ k)=((2 ^ k:Nat):Int):=∅;rw[bQ]at a;have l:x.testBit k=MT:=by
  have:=NG (λz=>Nat.testBit z k) b;simp only[jJ,oE,pC]at this;show this
 have c:kU (x:Int) (2 ^ k)=((x-2 ^ k:Nat):Int):=by
  rw[e,PyProof.Rows.bitXor_and,G8,b];lia
 show{k,?_,hk,(a k hk).mp l,?_,?_};{rw[PyProof.Rows.bitAnd_pn () ()];have q:(tR (-(x:Int))).toNat=x-1:=(by unfold tR;lia);rw[q,e,<-g];have:=Nat.and_le_left (n:=x) (m:=x-1);simp only[bQ];lia};{rw[c];show{Ff (),λj r=>?_};rw[bQ,ags x k b j,eG,a j r,WX]};{rw[c];have:0<2 ^ k:=qA k;lia}
def Xq (h:Mask n m)(j:Nat):(dZ (m / 2 ^ ((j:Int)).toNat) 1 != 0)=m.toNat.testBit j:=by
 let{x,rfl,a}:=jw h;rw[bQ,bQ];have e:((x:Int)) / 2 ^ j=((x / 2 ^ j:Nat):Int):=∅;rw[e,show(1:Int)=((1:Nat):Int)from rfl,G8,Nat.and_one_is_mod,Nat.testBit_eq_decide_div_mod_eq];have:=nN (x / 2 ^ j);rcases this with z | z<;>rw[z]<;>simp
def RelP (n:Nat)(ns:LQ)(R:Nat->Nat->Prop):Prop:=ns.length=n/\∀i m,ns[i]?=KE m->MaskP n m (R i)
theorem RelP.iff (h:RelP n ns R)(e:∀i j,i<n->j<n->(R i j↔S i j)):RelP n ns S:=
 {h.1,λi m a=>(h.2 i m a).iff λj b=>e i j (by rw[<-h.1];show(bZ.mp a).1) b}
def RelP.mask (h:RelP n ns R)(a:m∈ns):Mask n m:=by
 let{i,hi}:=kE.mp a;show(h.2 i m hi).1
def RelP.at (h:RelP n ns R)(hk:k<n):∃m,ns[k]?=KE m/\MaskP n m (R k):=by
 have a:k<ns.length:=(by rw[h.1];show hk);show{ns[k],aB a,h.2 k _ (aB a)}
inductive Star (n:Nat)(R:Nat->Nat->Prop):Nat->Nat->Prop
 |refl {i:Nat}:Star n R i i
 |step {i k j:Nat}:R i k->k<n->Star n R k j->Star n R i j
def Star.trans (a:Star n R i j)(b:Star n R j k):Star n R i k:=by
 induction a with
 |refl=>show b
 |step r h _ c=>show .step r h (c b)
inductive Thru (n:Nat)(R:Nat->Nat->Prop)(m:Nat):Nat->Nat->Prop
 |refl {i:Nat}:Thru n R m i i
 |one {i j:Nat}:R i j->Thru n R m i j
 |step {i k j:Nat}:k<n->k<m->Thru n R m i k->Thru n R m k j->Thru n R m i j
def Thru.zero:Thru n R 0 i j↔j=i\/R i j:=by
 constructor
 ·intro h;cases h with
  |refl=>show .inl rfl
  |one r=>show .inr r
  |step _ h _ _=>show NC h (nS _)
 ·rintro(rfl | h);{show .refl};{show .one h}
def Thru.mono (e:m<=a)(h:Thru n R m i j):Thru n R a i j:=by
 induction h with
 |refl=>show .refl
 |one r=>show .one r
 |step b f _ _ c d=>show .step b () c d
def Thru.succ (g:m<n):Thru n R (m+1) i j↔Thru n R m i j\/(Thru n R m i m/\Thru n R m m j):=by
 constructor
 ·intro h
  induction h with
  |refl=>show .inl .refl
  |one r=>show .inl (.one r)
  |@step i k j c l _ _ e f=>
   by_cases hk:k=m;{subst hk;show .inr {?_,?_};{rcases e with a | a;{show a};{show a.1}};{rcases f with a | a;{show a};{show a.2}}};{have d:k<m:=();rcases e with a | a<;>rcases f with b | b;{show .inl (.step c d a b)};{show .inr {.step c d a b.1,b.2}};{show .inr {a.1,.step c d a.2 b}};{show .inr #v[a.1,b.2]}}
 ·rintro(a | ⟨a,b⟩);{show a.mono ()};{show .step g () (a.mono ()) (b.mono ())}
def Thru.star (a:j<n):Thru n R n i j↔Star n R i j:=by
 constructor
 ·intro h
  induction h with
  |refl=>show .refl
  |one r=>show .step r a .refl
  |step b _ _ _ c d=>show(c b).trans (d a)
 ·intro h
  induction h with
  |refl=>show .refl
  |step r h _ e=>show .step h h (.one r) (e a)
def dn {a:Type}(m:Int)(xs:List a)(k:Nat):List a:=(bG k).filterMap λi=>if m.toNat.testBit i=MT then xs[i]? else MS
def Xr (m:Int)(xs:List a):dn m xs 0=[]:=rfl
def abd {a:Type}{m:Int}{xs:List a}{k:Nat}{x:a}(h:m.toNat.testBit k=MT)(e:xs[k]?=KE x):dn m xs (k+1)=dn m xs k++[x]:=by
 unfold dn;rw[lW,kC];simp[h,e]
def agt {a:Type}{m:Int}{xs:List a}{k:Nat}(h:m.toNat.testBit k=MU):dn m xs (k+1)=dn m xs k:=by
 unfold dn;rw[lW,kC];simp[h]
def L6 {b:Type}{m:Int}{xs:List b}{k:Nat}{x:b}:x∈dn m xs k↔∃i,i<k/\m.toNat.testBit i=MT/\xs[i]?=KE x:=by
 unfold dn;rw[List.mem_filterMap];constructor
 ·intro a;let{i,hi,e}:=a
  split at e;{show{i,bY.mp hi,by assumption,e}};{cases e}
 ·intro a;let{i,hi,h,e}:=a;show{i,bY.mpr hi,by rw[MZ h];show e}
end Bits
namespace S1
def longer (a:LJ)(c:Nat):LJ:=a.flatMap λl=>(bG c).map λ(v:Nat)=>l++[(v:Int)]
def ip (a:LJ)(cs:AQ):LJ:=cs.foldl longer a
def mul (cs:AQ):Nat:=cs.foldl (· * ·) 1
def ue (a:LJ)(c:Nat):(longer a c).length=a.length*c:=by
 induction a with
 |nil=>simp[longer]
 |cons l r b=>
  have e:longer (l::r) c=((bG c).map λ(v:Nat)=>l++[(v:Int)])++longer r c:=(by simp[longer,dJ]);rw[e,aH,b,aC,bM,aS,pW,jY]
theorem Cq:∀cs a,(ip a cs).length=cs.foldl (· * ·) a.length
 | [],_=>rfl
 |c::r,a=>by
  change(ip (longer a c) r).length=r.foldl (· * ·) (a.length*c);rw[Cq r,ue]
structure Good (cs:AQ)(ls:LJ):Prop where
 wide:∀l∈ls,l.length=cs.length
 rng:∀l∈ls,∀(i:Nat)(v:Int),l[i]?=KE v->∃c,cs[i]?=KE c/\0<=v/\v<(c:Int)
 ord:ls.Pairwise λa b=>HT.lexLt a b=MT
theorem L7:∀a x y,x<y->HT.lexLt (a++[x]) (a++[y])=MT
 | [],x,y,h=>by
  change HT.lexLt [x] [y]=MT;rw[HT.lexLt_cons,M' ()];show NB h
 |z::r,x,y,h=>by
  change HT.lexLt (z::(r++[x])) (z::(r++[y]))=MT;rw[HT.lexLt_cons,MZ rfl];show L7 r x y h
theorem Rc:∀a b x y,a.length=b.length->HT.lexLt a b=MT->HT.lexLt (a++[x]) (b++[y])=MT
 | [],[],_,_,_,h=>by cases h
 | [],_::_,_,_,e,_=>by cases e
 |_::_,[],_,_,e,_=>by cases e
 |p::r,q::t,x,y,e,h=>by
  have d:r.length=t.length:=(⇑e);change HT.lexLt (p::(r++[x])) (q::(t++[y]))=MT;rw[HT.lexLt_cons]at h ⊢;by_cases c:p=q;{rw[MZ c]at h ⊢;show Rc r t x y d h};{rw[M' c]at h ⊢;show h}
def uu {a:LJ}{c:Nat}{m:LQ}(h:m∈longer a c):∃l∈a,∃v:Nat,v<c/\m=l++[(v:Int)]:=by
 let{l,b,h}:=eM.mp h;let{v,d,e}:=bE.mp h;show{l,b,v,bY.mp d,e.symm}
theorem Good.longer (g:Good cs ls)(c:Nat):Good (cs++[c]) (longer ls c) where
 wide:=λm hm=>by
  let{l,hl,v,hv,rfl}:=uu hm;rw[aH,aH,g.wide l hl];rfl
 rng:=λm hm i v hi=>by
  let{l,hl,w,hw,rfl}:=uu hm;have wl:=g.wide l hl;rcases Nat.lt_trichotomy i l.length with q | q | q;{rw[cE q]at hi;let{c',hc,r}:=g.rng l hl i v hi;show{c',by rw[cE ()];show hc,r}};{subst q;have e:v=(w:Int):=(⇑hi.symm);show{c,by rw[wl];simp,(),()}};{rw[dI (by rw[aH,dR];lia)]at hi;cases hi}
 ord:=by
  have w:=g.wide;have o:=g.ord;clear g
  induction ls with
  |nil=>show oU
  |cons l r ih=>
   have e:S1.longer (l::r) c=((bG c).map λ(v:Nat)=>l++[(v:Int)])++S1.longer r c:=(by simp[S1.longer,dJ]);let{o1,o2}:=oB.mp o;rw[e,List.pairwise_append];show{?_,ih (λm hm=>w m (aP _ hm)) o2,?_};{rw[List.pairwise_map];show List.Pairwise.imp (R:=λ(a b:Nat)=>a<b) (λ{a b} h=>L7 l (a:Int) (b:Int) ()) List.pairwise_lt_range};{intro a ha b hb;let{v,hv,rfl}:=bE.mp ha;let{m,hm,u,hu,rfl}:=uu hb;show Rc l m _ _ (by rw[w l aR,w m (aP _ hm)]) (o1 m hm)}
def Good.start:Good [] [[]] where
 wide:=λl hl=>by rw[aN.mp hl];rfl
 rng:=λl hl i v hi=>by rw[aN.mp hl]at hi;cases i<;>cases hi
 ord:=lO _ _
theorem Good.all:∀(r cs:AQ) {ls:LJ},Good cs ls->Good (cs++r) (ip ls r)
 | [],cs,ls,g=>by rw[bP];show g
 |c::r,cs,ls,g=>by
  have q:=Good.all r (cs++[c]) (g.longer c);rw[dX]at q;show q
def letters (cs:AQ):LJ:=ip [[]] cs
def dt (cs:AQ):Good cs (letters cs):=Good.all cs [] Good.start
def yj (cs:AQ):(letters cs).length=mul cs:=Cq cs [[]]
def L8 (cs:AQ)(c:Nat):letters (cs++[c])=longer (letters cs) c:=by
 simp[letters,ip,mI]
theorem L9:∀(cs:AQ)(k:Nat),(∀c∈cs,c<=6)->cs.foldl (· * ·) k<=k*6 ^ cs.length
 | [],k,_=>by simp
 |c::r,k,h=>by
  have q:=L9 r (k*c) λd hd=>h d (aP _ hd);have a:=h c aR;change r.foldl (· * ·) (k*c)<=k*6 ^ (r.length+1);show aV q ?_;rw[lA,uG,uS (6 ^ r.length) 6];show Nat.mul_le_mul_left _ (iR _ a)
def akm (cs:AQ)(h:∀c∈cs,c<=6):mul cs<=6 ^ cs.length:=by
 have q:=L9 cs 1 h
 rwa [Nat.one_mul]at q
end S1
namespace PB
open PySem L2 VL Bits
abbrev iL (ns:LQ):Tr:=.lst (ns.map λn=>Tr.v (.int n))
abbrev Rl:=Nat->Nat->Prop
def orR (_:Nat)(R S:Rl):Rl:=λi j=>R i j\/S i j
def k8 (n:Nat)(R S:Rl):Rl:=λi j=>∃k,k<n/\R i k/\S k j
def Xs (n:Nat)(R:Rl):Rl:=λi j=>j=i/\∀k,k<n->¬R i k
def Df (n:Nat)(S:Rl)(R:Ev->Prop):Prop:=∀ns,RelP n ns S->R (.new (iL ns))
def OutV (n:Nat)(S:Rl)(R:Ev->Prop):Prop:=∀ns,RelP n ns S->R (.val (iL ns))
def bg (h:Nat.ble n 1000000=MT):n<=1000000:=Nat.le_of_ble_eq_true h
def bt {a:Type}{l:List a}{i:Nat}{x:a}(h:l[i]?=KE x):atI l (i:Int)=KE x:=by
 have b:=bf h;unfold atI ixN;rw[MZ (nV _),MZ (by exact_mod_cast b)];simpa using h
def Xt:GS:=(bc (gOp ud (gLst (gA1 (gI 0))) (aa 0)))
def qb:GP:=λds R=>∃n:Nat,ds=[.v (.int n)]/\n<=300/\Df n (λ_ _=>False) R
def G9 (n:Nat)(x:Tr):(bB n [x]).flatten=bB n x:=by
 induction n with
 |zero=>rfl
 |succ n a=>rw[fX,jN,a,fX];rfl
def Xu:Pm (Xt) 1 1 1 (qb):=by
 intro ds R b h;let{n,rfl,c,q}:=h;show{#v[],by change(-1000000:Int)<=(n:Int);lia,by change(n:Int)<=1000000;lia,by change 1*((n:Int)).toNat<=1000000;lia,?_};change R (.new (.lst (bB ((n:Int)).toNat [Tr.v (.int 0)]).flatten));rw[G9,bQ,<-List.map_replicate (f:=λn=>Tr.v (.int n)) (a:=0)];show q _ {by simp,λi m e=>by rw[dP]at e;split at e<;>cases e;show jx n}
def T1:GS:=(bc (cu 1 [] (giR (gA1 (aa 0))) (.one 0) dq (gOp (ib Ct λi j=>.int (i*2 ^ j.toNat)) (gI 1) (aa 0))))
def m9:GP:=λds R=>∃n:Nat,ds=[.v (.int n)]/\n<=300/\Df n (λi j=>j=i) R
def Xv {n:Nat}:fk 0 ((n:Int)).toNat=(bG n).map λi:Nat=>Tr.v (.int (i:Int)):=by rw[bQ,e8]
def o8 {a:Type}(l:List a)(g:a->Int):(l.map λx=>Tr.v (.int (g x)))=(l.map g).map λn=>Tr.v (.int n):=by rw[dG];rfl
def T2:Pm (T1) 1 1 1 (m9):=by
 intro ds R b h;let{n,rfl,c,q}:=h;show{by change(-1000000:Int)<=(n:Int);lia,by change(n:Int)<=1000000;lia,?_};change cq _ _ _ _ _ _ _ (fk 0 ((n:Int)).toNat) _ _;rw[Xv];show c7 (out:=λi:Nat=>Tr.v (.int (2 ^ i))) rfl _ _ (by simp;lia) (λi hi Y a=>?_) ?_;{have d:=bY.mp hi;show{{by change(0:Int)<=(i:Int);lia,by change(i:Int)<=1000000;lia,#v[]},?_};change Y (.v (.int (1*2 ^ ((i:Int)).toNat))) _;rw[qU,bQ];show a};{change R (.new (.lst ([]++(bG n).map λi:Nat=>Tr.v (.int (2 ^ i)))));rw[bR,o8];show q _ {by simp,λi m e=>?_};rw[aW]at e;by_cases hi:i<n;{rw[cY hi]at e;cases e;show t8 hi};{rw[dI (⇑hi)]at e;cases e}}
def abe (ns c:LQ):prs (ns.map λn=>Tr.v (.int n)) (c.map λn=>Tr.v (.int n))=(ns.zip c).map λp=>Tr.tup [.v (.int p.1),.v (.int p.2)]:=by
 unfold prs
 induction ns generalizing c with
 |nil=>rfl
 |cons a ns d=>cases c with
  |nil=>rfl
  |cons b c=>rw[bV,bV,List.zipWith_cons_cons,d];rfl
def Oj:GS:=(bc (cu 2 [] (Tt (gaV (aa 0) (gA1 (aa 1)))) (.tup [0,1]) dq (gOp (dw λi j=>.int (eI i j)) (aa 0) (aa 1))))
def oj:GP:=λds R=>∃n ns a A B,ds=[iL ns,iL a]/\RelP n ns A/\RelP n a B/\n<=300/\Df n (orR n A B) R
def Ol:Pm (Oj) 2 1 2 (oj):=by
 intro ds R l h;let{n,ns,c,A,B,rfl,hA,hB,r,q}:=h;change cq _ _ _ _ _ _ _ (prs _ _) _ _;rw[abe];show c7 (out:=λp:Int×Int=>Tr.v (.int (eI p.1 p.2))) rfl _ _ (by simp[hA.1,hB.1];lia) (λp s Y d=>d) ?_;change R (.new (.lst ([]++(ns.zip c).map λp=>Tr.v (.int (eI p.1 p.2)))));rw[bR,o8];show q _ {by simp[hA.1,hB.1],λi m e=>?_};rw[aW]at e;let{{a,b},f,rfl}:=eF.mp e;let{g,j}:=List.getElem?_zip_eq_some.mp f;show vt (hA.2 i a g) (hB.2 i b j)
def T3 (ns:LQ):jg (ns.map λn=>Tr.v (.int n))=(bG ns.length).map λi:Nat=>Tr.tup [.v (.int (i:Int)),.v (.int (ns.getD i 0))]:=by
 show mJ λi=>?_;unfold jg;rw[qH,aW,aW];by_cases hi:i<ns.length;{rw[cY hi,aB hi];simp[bO,aB hi]};{rw[dI (),dI (⇑hi)];rfl}
def Fg:GS:=(bc (cu 2 [] (Lv (gA1 (aa 0))) (.tup [0,1]) dq (gIf (ku (aa 1)) (gI 0) (gOp (ib Ct λi j=>.int (i*2 ^ j.toNat)) (gI 1) (aa 0)))))
def qm:GP:=λds R=>∃n ns A,ds=[iL ns]/\RelP n ns A/\n<=300/\Df n (Xs n A) R
def Fi:Pm (Fg) 1 1 1 (qm):=by
 intro ds R g h;let{n,ns,A,rfl,hA,l,q}:=h;change cq _ _ _ _ _ _ _ (jg _) _ _;rw[T3];show c7 (out:=λi:Nat=>Tr.v (.int (if ns.getD i 0=0 then 2 ^ i else 0))) rfl _ _ (by simp[hA.1];lia) (λi hi Y a=>?_) ?_
 ·have p:=bY.mp hi;have r:=hA.1;change if (ns.getD i 0 != 0)=MT then _ else _
  by_cases c:ns.getD i 0=0;{rw[M' (by rw[c];decide)];rw[MZ c]at a;show{{by change(0:Int)<=(i:Int);lia,by change(i:Int)<=1000000;lia,#v[]},?_};change Y (.v (.int (1*2 ^ ((i:Int)).toNat))) _;rw[qU,bQ];show a};{rw[MZ (bne_iff_ne.mpr c)];rw[M' c]at a;show a}
 ·change R (.new (.lst ([]++(bG ns.length).map λi:Nat=>Tr.v (.int (if ns.getD i 0=0 then 2 ^ i else 0)))))
  rw[bR,o8];show q _ {by simp[hA.1],λi m e=>?_};rw[aW]at e;by_cases hi:i<ns.length
  ·rw[cY hi]at e;cases e;have b:i<n:=(by rw[<-hA.1];show hi);have d:ns[i]?=KE (ns.getD i 0):=(by rw[bO,aB hi];rfl);have z:=(hA.2 i _ d).zero_iff;change MaskP n (if ns.getD i 0=0 then 2 ^ i else 0) _
   split
   ·rename_i c
    show(t8 b).iff λj f=>{λe=>{e,z.mp c},λe=>e.1}
   ·rename_i c
    show(jx n).iff λj f=>{λe=>e.elim,λe=>c (z.mpr e.2)}
  ·rw[dI (⇑hi)]at e;cases e
def Ma:GS:=(bc (cu 2 [1] (Lv (gA1 (aa 0))) (.tup [0,1]) (ku (gOp (dw λi j=>.int (dZ i j)) (gOp (ib (λ_ j=>0<=j) λi j=>.int (i / 2 ^ j.toNat)) (aa 2) (aa 0)) (gI 1))) (aa 1)))
def vv:GP:=λds R=>∃n m ls,ds=[.lst (ls.map tI),.v (.int m)]/\Mask n m/\ls.length<=300/\R (.new (.lst ((dn m ls ls.length).map tI)))
def wu (l:List a)(f:a->Tr):jg (l.map f)=(l.zipIdx).map λp=>Tr.tup [.v (.int (p.2:Int)),f p.1]:=by
 show mJ λi=>?_;unfold jg;rw[qH,aW,aW,nE];cases l[i]?<;>simp
def Mb (m:Int)(xs:List f):dn m xs xs.length=((xs.zipIdx).filter λp=>m.toNat.testBit p.2).map (·.1):=by
 have:∀k,k<=xs.length->dn m xs k=(((xs.take k).zipIdx).filter λp=>m.toNat.testBit p.2).map (·.1):=by
  intro k
  induction k with
  |zero=>intro _;rw[Xr];simp
  |succ k d=>
   intro hk;have a:k<xs.length:=hk;have e:xs.take (k+1)=xs.take k++[xs[k]]:=(by rw[cH,aB a];rfl);rw[e,List.zipIdx_append,List.filter_append,bT,<-d ()];have b:(xs.take k).length=k:=(by rw[cK];lia);cases c:m.toNat.testBit k with
   |true=>rw[abd c (aB a)];simp[b,c]
   |false=>rw[agt c];simp[b,c]
 rw[this xs.length (aI _),cW]
def Mc:Pm (Ma) 2 1 2 (vv):=by
 intro ds R f h;let{n,m,ls,rfl,a,g,q}:=h;change cq _ _ _ _ _ _ _ (jg _) _ _;rw[wu];show fw (p:=λp:LQ×Nat=>m.toNat.testBit p.2) (out:=λp=>tI p.1) rfl _ _ (by simp;lia) (λp i Y Z b d=>?_) ?_
 ·show{by change(0:Int)<=(p.2:Int);lia,?_};change if (dZ (m / 2 ^ ((p.2:Int)).toNat) 1 != 0)=MT then _ else _
  rw[Xq a];cases c:m.toNat.testBit p.2 with
  |true=>rw[MZ rfl];show b c
  |false=>rw[M' aY];show d c
 ·change R (.new (.lst ([]++((ls.zipIdx).filter λp=>m.toNat.testBit p.2).map λp=>tI p.1)));rw[bR];have e:((ls.zipIdx).filter λp=>m.toNat.testBit p.2).map (λp=>tI p.1)=(dn m ls ls.length).map tI:=(by rw[Mb,dG];rfl);rw[e];show q
def Ha:GS:=(ak (ax 2 (gI 0)) (ak (E8 [3] (ku (aa 0)) (ak (ax 3 (gOp (dw λi j=>.int (dZ i j)) (aa 0) (xj (aa 0)))) (ak (Jd 2 (gX (aa 1) (gOp (dw λi j=>.int (i-j)) (gMt "int" Ts (aa 3) gaN) (gI 1)))) (Fb 0 (aa 3))))) (bc (aa 2))))
def si:GP:=λds R=>∃n m ns p B,ds=[.v (.int m),iL ns]/\MaskP n m p/\RelP n ns B/\∀z:Int,MaskP n z (λj=>∃k,k<n/\p k/\B k j)->R (.val (.v (.int z)))
def Hb:Pm (Ha) 4 1 2 (si):=by
 intro ds R I h;let{n,m,ns,p,B,rfl,D,hB,q}:=h;show⟨λk g=>∃a z l,k=a.toNat/\g={[KE (.v (.v (.int a))),KE (.v (iL ns)),KE (.v (.v (.int z))),MS],[MS]}/\MaskP n a l/\(∀j,l j->p j)/\MaskP n z (λj=>∃k,k<n/\p k/\¬l k/\B k j),⟨_,m,0,p,rfl,rfl,D,λ_ h=>h,(jx n).iff λj _=>⟨λh=>h.elim,λr=>by let{k,_,d,e,_}:=r;show e d⟩⟩,?_⟩;intro k g s;let{a,z,l,rfl,rfl,w,y,hz}:=s;change if (a != 0)=MT then _ else _
 by_cases c:a=0;{rw[M' (by rw[c];decide)];show q z (hz.iff λj _=>⟨λr=>by let{k,h0,d,_,e}:=r;show#v[k,h0,d,e],λ⟨k,h0,d,e⟩=>{k,h0,d,λf=>?_,e}⟩);show w.zero_iff.mp c k h0 f};{rw[MZ (bne_iff_ne.mpr c)];let{k,A,hk,E,u,lt}:=Xp w c;let{b,G,H}:=hB.at hk;rw[<-A]at u lt;show{λg=>g={[KE (.v (.v (.int (kU a (dZ a (-a)))))),KE (.v (iL ns)),KE (.v (.v (.int (eI z b)))),KE (.v (.v (.int (dZ a (-a)))))],[MS]},?_,?_};{intro g s;subst s;show{_,?_,kU a (dZ a (-a)),eI z b,_,rfl,rfl,u,λj h=>y j h.1,(vt hz H).iff λj _=>{λh=>?_,λ⟨i,h0,d,e,f⟩=>?_}};{have d:=u.1.1;lia};{rcases h with⟨i,h0,d,e,f⟩ | h;{show{i,h0,d,λz=>e z.1,f}};{show{k,hk,y k E,λz=>z.2 rfl,h}}};{by_cases C:i=k;{subst C;show .inr f};{show .inl {i,h0,d,λz=>e #v[z,C],f}}}};{show⟨rfl,bj (x:=.v (.int b)) ?_ rfl⟩;change atI (ns.map _) (((lF (dZ a (-a)):Nat):Int)-1)=_;rw[A,Zy,show(((k+1:Nat):Int)-1)=(k:Int)by lia];show bt (by rw[aW,G];rfl)}}
def Dg:GS:=(ak (ic 2 0 adn) (ak (c8 [3] (giL (aa 0)) (.one 3) (sIf (gT (gOp (inD MT) (aa 3) (aa 2))) (Tw 2 (ar 2 si (gaV (aa 3) (gA1 (aa 1)))) (aa 3)) cy)) (bc (cu 1 [2] (giL (aa 0)) (.one 0) dq (gOp ixD (aa 1) (aa 0))))))
def i3:GP:=λds R=>∃n ns a A B,ds=[iL ns,iL a]/\RelP n ns A/\RelP n a B/\n<=300/\Df n (k8 n A B) R
theorem Je {e d:Type}[DecidableEq e](f:d->e)(g:d->Tr)(i:∀a b,f a=f b->a=b)(k:d):∀(l:List d),k∈l->i7 (l.map f) (l.map g) (f k)=KE (g k)
 | [],h=>nomatch h
 |a::l,h=>by
  unfold i7;by_cases c:a=k;{subst c;simp[dY]};{have j:=Je f g i k l ((aX.mp h).resolve_left λz=>c z.symm);unfold i7 at j;rw[bV,bV,nX,dY];simp only[NA (λz=>c (i _ _ z))];show j}
def abf {e d:Type}[DecidableEq e][DecidableEq d](f:d->e)(g:∀a b,f a=f b->a=b)(k:d)(l:List d):g7 (l.map f) (f k)=decide (k∈l):=by
 unfold g7
 induction l with
 |nil=>rfl
 |cons a l i=>
  rw[bV,kI,i];by_cases c:a=k;{simp[c]};{have:¬f a=f k:=λz=>c (g _ _ z);have:¬k=a:=λz=>c z.symm;simp[*]}
abbrev kT (ks:LQ)(f:Int->Int):Tr:=.dk (ks.map λk=>(Sum.inl k:Key)) (ks.map λk=>Tr.v (.int (f k)))
def Hc:∀a b:Int,(Sum.inl a:Key)=Sum.inl b->a=b:=λa b h=>by injection h
def akn (ks:LQ)(f:Int->Int)(k:Int)(h:k ∉ ks):Tr.dk (mz (ks.map λk=>(Sum.inl k:Key)) (Sum.inl k)) (m8 (ks.map λk=>(Sum.inl k:Key)) (ks.map λk=>Tr.v (.int (f k))) (Sum.inl k) (.v (.int (f k))))=kT (ks++[k]) f:=by
 have c:¬(Sum.inl k:Key)∈ks.map λk=>(Sum.inl k:Key):=λz=>by
  let{a,b,e}:=bE.mp z;show h (Hc _ _ e ▸ b)
 unfold mz m8;rw[M' c,M' c];simp[kT]
open Classical in
def Mg (n:Nat)(p:Nat->Prop):∃z:Int,MaskP n z p:=by
 have:∀k,k<=n->∃z:Int,MaskP n z (λj=>j<k/\p j):=by
  intro k
  induction k with
  |zero=>intro _;show{0,(jx n).iff λj _=>{λh=>h.elim,λh=>NC h.1 (nS _)}}
  |succ k a=>
   intro hk;let{z,hz}:=a ();by_cases c:p k;{show{_,(vt hz (t8 (n:=n) (k:=k) ())).iff λj _=>{λh=>?_,λh=>?_}};{rcases h with h | h;{show{(),h.2}};{subst h;show{(),c}}};{by_cases e:j=k;{show .inr e};{show .inl {(),h.2}}}};{show{z,hz.iff λj _=>{λh=>{(),h.2},λh=>{?_,h.2}}};by_cases e:j=k;{subst e;show NC h.2 c};{lia}}
 let{z,hz}:=this n (aI _);show{z,hz.iff λj b=>{λh=>h.2,λh=>#v[b,h]}}
def Mask.self {n:Nat}{m:Int}(h:Mask n m):MaskP n m (λj=>m.toNat.testBit j=MT):={h,λ_ _=>kS}
noncomputable def Bs (n:Nat)(B:Rl)(m:Int):Int:=Classical.choose (Mg n λj=>∃k,k<n/\m.toNat.testBit k=MT/\B k j)
def Mh (n:Nat)(B:Rl)(m:Int):MaskP n (Bs n B m) (λj=>∃k,k<n/\m.toNat.testBit k=MT/\B k j):=Classical.choose_spec (Mg n λj=>∃k,k<n/\m.toNat.testBit k=MT/\B k j)
def Dh:Pm (Dg) 4 2 2 (i3):=by
 intro ds R w h;let{n,ns,r,A,B,rfl,hA,hB,J,q}:=h;show jk (I:=λi m=>∃ks:LQ,m={[KE (.v (iL ns)),KE (.v (iL r)),KE (.c 1),MS],[MS,KE (kT ks (Bs n B))]}/\(∀x∈ns.take i,x∈ks)/\ks.length<=i) {[],rfl,(λx f=>nomatch f),aI _} ?_ ?_
 ·intro i x m N f l hN;let{ks,rfl,g,C}:=l;have hi:=bf f;have w:=hA.1;have s:∀d:LQ,x∈d->(∀y∈ks,y∈d)->∀y∈ns.take (i+1),y∈d:=λd D E y hy=>by
   rw[cH,f]at hy;rcases dF.mp hy with hy | hy;{show E y (g y hy)};{cases aN.mp hy;show D}
  change if (!g7 (ks.map λk=>(Sum.inl k:Key)) (Sum.inl x))=MT then _ else _
  rw[abf (λk=>(Sum.inl k:Key)) Hc];by_cases c:x∈ks;{rw[NB c,M' #v[]];show hN _ {ks,rfl,s ks c λ_ h=>h,()}};{rw[NA c,MZ #v[]];have G:Mask n x:=hA.mask (aU f);show{rfl,n,x,r,_,B,rfl,Mask.self G,hB,λz hz=>?_};cases hz.uniq (Mh n B x);show{by change(ks.map _).length<1000000;rw[aC];lia,?_};change N _;show hN _ {ks++[x],?_,s _ ∅ λy hy=>gF _ hy,by rw[aH,dR];lia};change({_,[MS,KE (Tr.dk _ _)]}:M)=_;rw[akn ks (Bs n B) x c];rfl}
 ·intro m l;let{ks,rfl,g,C}:=l;rw[cW]at g;show c7 (out:=λx:Int=>Tr.v (.int (Bs n B x))) rfl _ _ (by simp[hA.1];lia) (λx f Y H=>?_) ?_;{show bj (Je (λk=>(Sum.inl k:Key)) (λk=>Tr.v (.int (Bs n B k))) Hc x ks (g x f)) H};{change R (.new (.lst ([]++ns.map λx=>Tr.v (.int (Bs n B x)))));rw[bR,o8];show q _ {by simp[hA.1],λi m e=>?_};rw[aW]at e;let{x,u,rfl}:=eF.mp e;show(Mh n B x).iff λj L=>⟨λp=>by let{k,a,b,c}:=p;show{k,a,((hA.2 i x u).2 k a).mp b,c},λp=>by let{k,a,b,c}:=p;show{k,a,((hA.2 i x u).2 k a).mpr b,c}⟩}
def B1:GS:=(ak (ax 1 (ar 2 oj (gaV (ar 1 m9 (gA1 (gCB ja (gaE (aa 0) gaN)))) (gA1 (aa 0))))) (ak (c8 [2,3] (giR (gA1 (gCB ja (gaE (aa 1) gaN)))) (.one 2) (ak (ax 3 (gX (aa 1) (aa 2))) (ax 1 (cu 1 [2,3] (giL (aa 1)) (.one 0) dq (gIf (ku (gOp (dw λi j=>.int (dZ i j)) (gOp (ib (λ_ j=>0<=j) λi j=>.int (i / 2 ^ j.toNat)) (aa 0) (aa 1)) (gI 1))) (gOp (dw λi j=>.int (eI i j)) (aa 0) (aa 2)) (aa 0)))))) (bc (aa 1))))
def nv:GP:=λds R=>∃n ns A,ds=[iL ns]/\RelP n ns A/\n<=300/\OutV n (Star n A) R
def B2:Pm (B1) 4 1 1 (nv):=by
 intro ds R G h;let{n,ns,A,rfl,hA,p,q}:=h;have y:(ns.map λn=>Tr.v (.int n)).length=n:=(by rw[aC];show hA.1);show{rfl,n,by change[Tr.v (.int _)]=_;rw[y],p,λz C=>?_};show{rfl,n,z,ns,_,A,rfl,C,hA,p,λos r=>?_};have s:(os.map λn=>Tr.v (.int n)).length=n:=(by rw[aC];show r.1);show{by change(-1000000:Int)<=((os.map _).length:Int);lia,by change((os.map _).length:Int)<=1000000;rw[s];lia,?_};change dh _ _ _ _ (fk 0 (((os.map _).length:Int)).toNat) _;rw[s,Xv];show jk (I:=λi m=>∃d:LQ,m={[KE (.v (iL ns)),KE (.v (iL d)),MS,MS],[MS]}/\RelP n d (Thru n A i)) {os,rfl,r.iff λi j _ _=>Thru.zero.symm} ?_ ?_
 ·intro i x m N a g hN;let{d,rfl,b}:=g;have u:=a;rw[cY (⇑(bf a))]at u;cases u;have hi:i<n:=(⇑(bf a));let{t,D,mt}:=b.at hi;show bj (x:=.v (.int t)) (bt (by rw[aW,D];rfl)) ?_;show c7 (out:=λx:Int=>Tr.v (.int (if x.toNat.testBit i=MT then eI x t else x))) rfl _ _ (by simp[b.1];lia) (λx a Y f=>?_) ?_
  ·show{by change(0:Int)<=(i:Int);lia,?_};change if (dZ (x / 2 ^ ((i:Int)).toNat) 1 != 0)=MT then _ else _
   rw[Xq (b.mask a)];cases c:x.toNat.testBit i with
   |true=>rw[c,MZ rfl]at f;rw[MZ rfl];show f
   |false=>rw[c,M' aY]at f;rw[M' aY];show f
  ·show hN _ {d.map λx:Int=>if x.toNat.testBit i=MT then eI x t else x,?_,?_}
   ·change({[_,KE (.v (.lst ([]++d.map λx:Int=>Tr.v (.int (if x.toNat.testBit i=MT then eI x t else x))))),MS,MS],_}:M)=_
    rw[bR,o8]
   ·show{by rw[aC];show b.1,λk m e=>?_};rw[aW]at e;let{x,E,rfl}:=eF.mp e;have a:=b.2 k x E;have w:x.toNat.testBit i=MT↔Thru n A i k i:=a.2 i hi
    split
    ·rename_i c
     show(vt a mt).iff λj l=>{λh=>(Thru.succ hi).mpr (h.elim .inl λh=>.inr {w.mp c,h}),λh=>((Thru.succ hi).mp h).elim .inl λh=>.inr h.2}
    ·rename_i c
     show a.iff λj l=>{λh=>(Thru.succ hi).mpr (.inl h),λh=>((Thru.succ hi).mp h).elim id λh=>NC (w.mpr h.1) c}
 ·intro m g;let{d,rfl,b}:=g;rw[bM]at b;show q d (b.iff λi j hi l=>Thru.star l)
structure LstT (P:Nat->Tr->Prop)(k:Nat)(l:D2):Prop where
 len:l.length=k
 get:∀c d,l[c]?=KE d->P c d
section
variable {P Q:Nat->Tr->Prop}{k j:Nat}{l m:D2}
def LstT.nil:LstT P 0 []:={rfl,λc d e=>by simp at e}
def LstT.at (h:LstT P k l){c:Nat}(b:c<k):∃d,l[c]?=KE d/\P c d:=by
 have a:c<l.length:=(by rw[h.len];show b);show{_,aB a,h.get c _ (aB a)}
def LstT.imp (h:LstT P k l)(f:∀c d,c<k->P c d->Q c d):LstT Q k l:={h.len,λc d e=>f c d (by rw[<-h.len];show bf e) (h.get c d e)}
def LstT.one {d:Tr}(h:P 0 d):LstT P 1 [d]:=⟨rfl,λc e a=>by
  cases c with
  |zero=>cases a;show h
  |succ c=>simp at a⟩
def LstT.append (h:LstT P k l)(h':LstT Q j m)(f:∀c d,c<j->Q c d->P (k+c) d):LstT P (k+j) (l++m):=⟨by rw[aH,h.len,h'.len],λc d e=>by
  by_cases a:c<l.length
  · rw[cE a]at e;show h.get c d e
  · rw[cQ ()]at e;have b:=h'.get _ d e;have g:c-l.length<j:=(by rw[<-h'.len];show bf e);have z:=f _ d g b;rw[h.len]at z a
    rwa [show k+(c-k)=c by lia]at z⟩
def LstT.rep (n:Nat)(h:∀c,c<n->P c d):LstT P n (bB n d):=⟨dC,λc e a=>by
  rw[dP]at a
  split at a
  · cases a;show h c (by assumption)
  · cases a⟩
def LstT.tail (h:LstT P (k+1) l):LstT (λc=>P (c+1)) k (l.drop 1):=⟨by rw[eY,h.len];lia,λc d e=>by
  rw[List.getElem?_drop]at e;show h.get _ d (by rw[jY];show e)⟩
def LstT.head (h:LstT P (k+1) l):LstT P 1 (l.take 1):=⟨by rw[cK,h.len];lia,λc d e=>by
  have a:=bf e;rw[cK]at a;rw[List.getElem?_take_of_lt ()]at e;show h.get c d e⟩
theorem LstT.map {a:Type}{xs:List a}{f:a->Tr}(b:xs.length=k)(h:∀c x,xs[c]?=KE x->P c (f x)):LstT P k (xs.map f):=⟨by rw[aC];show b,λc d e=>by
  rw[aW]at e;let{x,g,rfl}:=eF.mp e;show h c x g⟩
end
def LstT.snoc {P:Nat->Tr->Prop}{k:Nat}{l:D2}{d:Tr}(h:LstT P k l)(hd:P k d):LstT P (k+1) (l++[d]):=h.append (LstT.one (P:=λc=>P (k+c)) hd) λ_ _ _ z=>z
theorem Di {e:Type}{k:Nat}{fr:AQ}{t:Tg}{f:GE}{loc:FQ}{Q:D2->M->Prop}{cel:EZ}{enc:e->Tr}{P:Nat->Tr->Prop}(g:i6 cel loc=MT):∀(xs:List e)(n:Nat) (a:D2),LstT P n a->n+xs.length<=1000000->
  (∀i x,xs[i]?=KE x->∀Y:Tr->EZ->Prop,(∀d,P (n+i) d->Y d cel)->gTg t (enc x) {bB k MS++ou loc fr,cel} λm=>f m λp r=>fz r p λd s=>Y d s.cel)->(∀l,LstT P (n+xs.length) l->Q l #v[loc,cel])->cq k fr t dq f loc Q (xs.map enc) a cel
 | [],n,a,b,_,_,q=>q a b
 |x::xs,n,a,b,u,j,q=>by
  rw[aS]at u;show{by rw[b.len];lia,?_};show j 0 x rfl (λd c=>i6 c loc=MT/\cq k fr t dq f loc Q (xs.map enc) (a++[d]) c) λd hd=>{g,?_};show Di g xs (n+1) (a++[d]) (b.snoc hd) () (λi y w Y z=>?_) (λl h=>q l (by rw[aS,show n+(xs.length+1)=n+1+xs.length by lia];show h));show j (i+1) y (⇑w) Y (by rw[show n+(i+1)=n+1+i by lia];show z)
def abg {L:AQ}{t:Tg}{g:GS}{E:wt}{xs:D2}{m:M}(I:Nat->M->Prop)(h0:I 0 m)(c:∀i x (m:M) (N:M->Prop),xs[i]?=KE x->I i m->(∀b,I (i+1) b->N b)->gTg t x m λd=>g {E with nx:=λa=>N (fgt L a),ct:=λa=>N (fgt L a),bk:=E.nx} d)(h:∀m,I xs.length m->E.nx m):dh L t g E xs m:=by
 have z:=jk (enc:=id) (L:=L) (t:=t) (g:=g) (E:=E) (xs:=xs) I h0 c h
 rwa [tF]at z
def wx {k:Nat}{fr:AQ}{t:Tg}{f:GE}{loc:FQ}{Q:D2->M->Prop}{cel:EZ}{P:Nat->Tr->Prop}{xs:D2}(b:i6 cel loc=MT)(p:xs.length<=1000000)
  (c:∀i x,xs[i]?=KE x->∀Y:Tr->EZ->Prop,(∀d,P i d->Y d cel)->gTg t x {bB k MS++ou loc fr,cel} λg=>f g λj m=>fz m j λd n=>Y d n.cel) (q:∀l,LstT P xs.length l->Q l #v[loc,cel]):cq k fr t dq f loc Q xs [] cel:=by
 have z:=Di (enc:=id) (k:=k) (fr:=fr) (t:=t) (f:=f) (loc:=loc) (Q:=Q) (cel:=cel) (P:=P) b xs 0 [] LstT.nil () (λi x e Y a=>c i x e Y (by rw[gB]at a;show a)) (λl h=>q l (by rw[gB]at h;show h))
 rwa [tF]at z
def RelT (n:Nat)(R:Rl)(d:Tr):Prop:=∃ns,d=iL ns/\RelP n ns R
def Ap (n k:Nat)(W:Nat->Rl)(d:Tr):Prop:=∃l,d=.lst l/\LstT (λc=>RelT n (W c)) k l
def qo (n k:Nat)(W:Nat->Nat->Rl)(d:Tr):Prop:=∃l,d=.lst l/\LstT (λr=>Ap n k (W r)) k l
def RelT.eq {n:Nat}{R S:Rl}{d:Tr}(h:RelT n R d)(e:R=S):RelT n S d:=e ▸ h
def sj {a:Type}(l:List a):dg l (KE 1) MS=l.drop 1:=by
 unfold dg HT.sIx;simp;rw[mH (by rw[eY];lia)];by_cases h:1<=l.length;{rw[sV h,List.drop_one]};{have:l=[]:=jP.mp ();subst this;rfl}
def adq {b:Type}(l:List b):dg l MS (KE 1)=l.take 1:=by
 cases l with
 |nil=>rfl
 |cons a l=>unfold dg HT.sIx;simp
def Xw:GS:=(bc (gOp ud (gLst (gA1 (ar 1 qb (gA1 (gCB ja (gaE (gX (gX (aa 0) (gI 0)) (gI 0)) gaN)))))) (gOp (dw λi j=>.int (i-j)) (gCB ja (gaE (aa 0) gaN)) (gI 1))))
def wz:GP:=λds R=>∃n k W x,ds=[x]/\qo n (k+1) W x/\k<=300/\n<=300/\∀l,LstT (λ_=>RelT n λ_ _=>False) k l->R (.new (.lst l))
def Xx:Pm (Xw) 1 1 1 (wz):=by
 intro ds R g h;let{n,k,W,x,rfl,{l,rfl,hw},hk,b,q}:=h;let{j,e0,m,rfl,h0}:=hw.at (c:=0) ();let{p,d,ns,rfl,f}:=h0.at (c:=0) ();show bj (bt (i:=0) e0) (bj (bt (i:=0) d) {rfl,n,?_,b,λa hz=>?_});{change[Tr.v (.int ((ns.map _).length:Int))]=_;rw[aC,f.1]};{have e:((l.length:Int)-1)=(k:Int):=(by rw[hw.len];lia);show{bg rfl,?_};change -1000000<=((l.length:Int)-1)/\((l.length:Int)-1)<=1000000/\1*((l.length:Int)-1).toNat<=1000000/\R (.new (.lst (bB ((l.length:Int)-1).toNat [iL a]).flatten));rw[e,G9,bQ];show{(),(),(),q _ (.rep k λc _=>#v[a,rfl,hz])}}
def ox (r c:Nat):Rl:=if r=c then λ_ _=>False else λi j=>j=i
def Om:GS:=(bc (gLst (gaV (gLst (gaV (ar 1 qb (gA1 (aa 0))) (gA1 (ar 1 m9 (gA1 (aa 0)))))) (gA1 (gLst (gaV (ar 1 m9 (gA1 (aa 0))) (gA1 (ar 1 qb (gA1 (aa 0))))))))))
def xl:GP:=λds R=>∃n:Nat,ds=[.v (.int n)]/\n<=300/\∀d,qo n 2 ox d->R (.new d)
def On:Pm (Om) 1 1 1 (xl):=by
 intro ds R p h;let{n,rfl,f,q}:=h;show{rfl,n,rfl,f,λa g=>{rfl,n,rfl,f,λb l=>{bg rfl,rfl,n,rfl,f,λc m=>{rfl,n,rfl,f,λd hd=>{bg rfl,bg rfl,q _ {_,rfl,rfl,λr x e=>?_}}}}}}
 match r,e with
 |0,e=>
  cases e;show{_,rfl,rfl,λc x e=>?_}
  match c,e with
  |0,e=>cases e;show{a,rfl,g.iff λi j _ _=>by simp[ox]}
  |1,e=>cases e;show{b,rfl,l.iff λi j _ _=>by simp[ox]}
  |c+2,e=>simp at e
 |1,e=>
  cases e;show{_,rfl,rfl,λc' x e=>?_}
  match c',e with
  |0,e=>cases e;show{c,rfl,m.iff λi j _ _=>by simp[ox]}
  |1,e=>cases e;show{d,rfl,hd.iff λi j _ _=>by simp[ox]}
  |c'+2,e=>simp at e
 |r+2,e=>simp at e
def iq (k1:Nat)(W2:Nat->Nat->Rl)(r c:Nat):Rl:=if c=0 then W2 (r-k1+1) 0 else if c<k1 then λ_ _=>False else W2 (r-k1+1) (c-k1+1)
def gg (n k1:Nat)(a W2:Nat->Nat->Rl)(r c:Nat):Rl:=
 if r<k1 then if c=0/\r=0 then orR n (a 0 0) (W2 0 0)else if c<k1 then a r c else if r=0 then W2 0 (c-k1+1)else λ_ _=>False
 else iq k1 W2 r c
def k9 (n k1:Nat)(a W2:Nat->Nat->Rl)(r c:Nat):Rl:=
 if r<k1 then if c=0 then k8 n (a r 0) (W2 0 0)else if c<k1 then a r c else k8 n (a r 0) (W2 0 (c-k1+1))
 else iq k1 W2 r c
def jm (n:Nat)(W:Nat->Nat->Rl)(r c:Nat):Rl:=
 if c=0 then if r=0 then Star n (W 0 0)else k8 n (W r 0) (Star n (W 0 0))
 else orR n (W r c) (k8 n (k8 n (W r 0) (Star n (W 0 0))) (W 0 c))
def BehT (n k1 k2:Nat)(W2:Nat->Nat->Rl)(l:D2):Prop:=LstT (λr=>Ap n (k1+k2+1) (iq (k1+1) W2 (k1+1+r))) k2 l
def abh:GS:=(ak (ax 2 (ar 1 wz (gA1 (aa 0)))) (bc (cu 1 [2] (giL (gSl (aa 1) (goS (gI 1)) goN)) (.one 0) dq (gOp c5 (gOp c5 (gSl (aa 0) goN (goS (gI 1))) (aa 1)) (gSl (aa 0) (goS (gI 1)) goN)))))
def y3:GP:=λds R=>∃n k1 k2 a W2 x y,ds=[x,y]/\qo n (k1+1) a x/\qo n (k2+1) W2 y/\k1+k2<=300/\n<=300/\∀l,BehT n k1 k2 W2 l->R (.new (.lst l))
def abi:Pm (abh) 3 1 2 (y3):=by
 intro ds R E h;let{n,k1,k2,m,W2,x,y,rfl,p,{l,rfl,s},hk,u,q}:=h;show{rfl,n,k1,m,x,rfl,p,(),u,λg i=>?_};have f:=s.tail;have w:=f.len;change cq _ _ _ _ _ _ _ (dg l (KE 1) MS) _ _;rw[sj,<-tF (l.drop 1)];have b:∀d∈l.drop 1,∃a,d=.lst a/\a.length=k2+1:=λd hd=>by
  let{c,e}:=List.getElem?_of_mem hd;let{a,A,C}:=f.get c d e;show#v[a,A,C.len]
 show c7 (enc:=id) (out:=λd=>match d with | .lst a=>.lst ((a.take 1++g)++a.drop 1) | d=>d) rfl _ _ (by change 0+(l.drop 1).length<=1000000;lia) (λd hd Y D=>?_) ?_;{let{a,rfl,hz}:=b d hd;have G:=i.len;change _/\_/\Y (.lst ((dg a MS (KE 1)++g)++dg a (KE 1) MS)) _;rw[sj,adq];show{by rw[cK];lia,by rw[aH,cK,eY];lia,D}};{change R (.new (.lst ([]++_)));rw[bR];show q _ (LstT.map (by rw[w]) λr d e=>?_);let{a,rfl,hz}:=f.get r d e;show{_,rfl,?_};rw[show k1+k2+1=(1+k1)+k2 by lia];show LstT.append (LstT.append (P:=λc=>RelT n (iq (k1+1) W2 (k1+1+r) c)) (hz.head.imp λc d j z=>?_) i λc d j z=>?_) hz.tail λc d j z=>?_;{show z.eq ?_;have:c=0:=();subst this;unfold iq;rw[MZ rfl,show k1+1+r-(k1+1)+1=r+1 by lia]};{show z.eq ?_;unfold iq;rw[M' (),MZ ()]};{show z.eq ?_;unfold iq;rw[M' (),M' (),show k1+1+r-(k1+1)+1=r+1 by lia,show 1+k1+c-(k1+1)+1=c+1 by lia]}}
def Jr:GS:=(ak (ax 2 (gOp c5 (gOp c5 (gLst (gA1 (ar 2 oj (gaV (gX (gX (aa 0) (gI 0)) (gI 0)) (gA1 (gX (gX (aa 1) (gI 0)) (gI 0))))))) (gSl (gX (aa 0) (gI 0)) (goS (gI 1)) goN)) (gSl (gX (aa 1) (gI 0)) (goS (gI 1)) goN))) (ak (ax 3 (ar 1 wz (gA1 (aa 1)))) (bc (gOp c5 (gOp c5 (gLst (gA1 (aa 2))) (cu 1 [3] (giL (gSl (aa 0) (goS (gI 1)) goN)) (.one 0) dq (gOp c5 (aa 0) (aa 1)))) (ar 2 y3 (gaV (aa 0) (gA1 (aa 1))))))))
def Oo:GS:=(ak (ic 2 0 (gLst gaN)) (ak (c8 [3,4] (giL (aa 0)) (.one 3) (ak (ax 4 (cu 1 [3] (giL (gX (aa 1) (gI 0))) (.one 0) dq (ar 2 i3 (gaV (gX (aa 1) (gI 0)) (gA1 (aa 0)))))) (gc (xk 2 (gOp c5 (gOp c5 (gSl (aa 4) goN (goS (gI 1))) (gSl (aa 3) (goS (gI 1)) goN)) (gSl (aa 4) (goS (gI 1)) goN)))))) (bc (gOp c5 (aa 2) (ar 2 y3 (gaV (aa 0) (gA1 (aa 1))))))))
def ads (T:Nat->Nat->(Nat->Nat->Rl)->(Nat->Nat->Rl)->Nat->Nat->Rl):GP:=λds R=>∃n k1 k2 a W2 x y,ds=[x,y]/\qo n (k1+1) a x/\qo n (k2+1) W2 y/\k1+k2<=300/\n<=300/\∀d,qo n (k1+k2+1) (T n (k1+1) a W2) d->R (.new d)
abbrev uf:GP:=ads gg
abbrev xn:GP:=ads k9
def Js:Pm (Jr) 4 1 2 (uf):=by
 intro ds R hl h;let{n,k1,k2,f,W2,x,y,rfl,A,g,hk,m,q}:=h;let{l1,rfl,C}:=id A;let{l2,rfl,Q}:=id g;let{_,D,p,rfl,a}:=C.at (c:=0) ();let{_,T,n1,rfl,U}:=a.at (c:=0) ();let{_,E,G,rfl,s}:=Q.at (c:=0) ();let{_,f2,n2,rfl,p2}:=s.at (c:=0) ();have H:=C.tail;show bj (bt (i:=0) D) (bj (bt (i:=0) T) (bj (bt (i:=0) E) (bj (bt (i:=0) f2) {rfl,n,n1,n2,_,_,rfl,U,p2,m,λos ho=>{bg rfl,bj (bt (i:=0) D) ?_}})));show{by change 1+(dg p (KE 1) MS).length<=_;rw[sj,eY,a.len];lia,bj (bt (i:=0) E) ?_};show{by change([iL os]++dg p (KE 1) MS).length+(dg G (KE 1) MS).length<=_;rw[sj,sj,aH,eY,eY,a.len,s.len];change 1+_+_<=_;lia,?_};show{rfl,n,k2,W2,_,rfl,g,(),m,λfl I=>{bg rfl,?_}};have f1':=I.len;change cq _ _ _ _ _ _ _ (dg l1 (KE 1) MS) _ _;rw[sj l1,<-tF (l1.drop 1)];have J:=H.len;show Di (P:=λr=>Ap n (k1+k2+1) (gg n (k1+1) f W2 (r+1))) rfl _ 0 [] LstT.nil () (λr d e Y hY=>?_) (λL u=>?_);{let{w,rfl,hz}:=H.get r d e;show{by change w.length+fl.length<=_;rw[hz.len];lia,hY _ {_,rfl,?_}};rw[show k1+k2+1=(k1+1)+k2 by lia];have N:r<k1:=(by rw[<-J];show bf e);show LstT.append (hz.imp λc d b z=>z.eq ?_) I λc d b z=>z.eq ?_;{unfold gg;rw[MZ (),M' (),MZ (),gB]};{unfold gg;rw[MZ (),M' (),M' (),M' ()]}}
 ·rw[gB,J]at u;have rl:=u.len;show{by change 1+L.length<=_;lia,rfl,n,k1,k2,f,W2,_,_,rfl,A,g,hk,m,λbs O=>?_};have bl:=O.len;show{by change([_]++L).length+bs.length<=_;rw[aH,dR];lia,q _ {_,rfl,?_}};rw[show k1+k2+1=(1+k1)+k2 by lia];show LstT.append (LstT.append (P:=λr=>Ap n (1+k1+k2) (gg n (k1+1) f W2 r)) (l:=[_]) (.one {_,rfl,?_}) u λr d N z=>?_) O λr d N z=>?_;{change LstT _ _ (([iL os]++dg p (KE 1) MS)++dg G (KE 1) MS);rw[sj,sj];show LstT.append (LstT.append (l:=[iL os]) (.one {os,rfl,ho.iff λi j _ _=>?_}) a.tail λc d b z=>z.eq ?_) s.tail λc d b z=>z.eq ?_;{unfold gg;rw[MZ (),MZ #v[rfl,rfl]]};{unfold gg;rw[MZ (),M' (),MZ (),show 1+c=c+1 by lia]};{unfold gg;rw[MZ (),M' (),M' (),MZ rfl,show 1+k1+c-(k1+1)+1=c+1 by lia]}}
  {rw[show 1+k1+k2=k1+k2+1 by lia,show 1+r=r+1 by lia];show z};{rw[show 1+k1+k2=k1+k2+1 by lia];let{w,rfl,hz}:=z;show{w,rfl,hz.imp λc d b z=>z.eq ?_};unfold gg;rw[M' (),show 1+k1+r=k1+1+r by lia]}
def Oq:Pm (Oo) 5 2 2 (xn):=by
 intro ds R hl h;let{n,k1,k2,g,W2,x,y,rfl,s,u,hk,w,q}:=h;let{l1,rfl,A}:=id s;let{l2,rfl,E}:=id u;let{_,G,H,rfl,C}:=E.at (c:=0) ();have D:=A.len;show{eQ _,?_};show abg (xs:=l1) (I:=λi m=>∃b,m={[KE (.v (.lst l1)),KE (.v (.lst l2)),KE (.c 1),MS,MS],[MS,KE (.lst b)]}/\LstT (λr=>Ap n (k1+k2+1) (k9 n (k1+1) g W2 r)) i b) {[],rfl,LstT.nil} ?_ ?_;{intro i d m N hd j hN;let{b,rfl,f}:=j;have hi:i<k1+1:=(by rw[<-D];show bf hd);let{l,rfl,hz}:=A.get i d hd;let{_,J,n1,rfl,L}:=hz.at (c:=0) ();show bj (bt (i:=0) G) ?_;have O:=C.len;show wx (xs:=H) (P:=λc=>RelT n (k8 n (g i 0) (W2 0 c))) rfl () (λc d e Y Q=>?_) (λbs a=>?_);{let{n2,rfl,T}:=C.get c d e;show bj (bt (i:=0) J) {rfl,n,n1,n2,_,_,rfl,L,T,w,λos U=>Q _ #v[os,rfl,U]}};{rw[O]at a;have bl:=a.len;have zl:=hz.len;have rl:=f.len;show{rfl,?_};change _/\_/\_/\N {_,[MS,KE (.lst (b++[.lst ((dg bs MS (KE 1)++dg l (KE 1) MS)++dg bs (KE 1) MS)]))]};rw[sj,sj,adq];show{by rw[cK,eY];lia,by rw[aH,cK,eY,eY];lia,(),hN _ {_,rfl,f.snoc {_,rfl,?_}}};rw[show k1+k2+1=(1+k1)+k2 by lia];show LstT.append (LstT.append (a.head.imp λc d p z=>z.eq ?_) hz.tail λc d p z=>z.eq ?_) a.tail λc d p z=>z.eq ?_;{have:c=0:=();subst this;unfold k9;rw[MZ hi,MZ rfl]};{unfold k9;rw[MZ hi,M' (),MZ (),show 1+c=c+1 by lia]};{unfold k9;rw[MZ hi,M' (),M' (),show 1+k1+c-(k1+1)+1=c+1 by lia]}}};{intro m j;let{b,rfl,f}:=j;rw[D]at f;have rl:=f.len;show{rfl,n,k1,k2,g,W2,_,_,rfl,s,u,hk,w,λbs a=>?_};have bl:=a.len;show{by change b.length+bs.length<=_;lia,q _ {_,rfl,?_}};rw[show k1+k2+1=(k1+1)+k2 by lia]at *;show LstT.append f a λr d hr z=>?_;let{l,rfl,hz}:=z;show{l,rfl,?_};rw[show k1+k2+1=(k1+1)+k2 by lia]at hz;show hz.imp λc d p z=>z.eq ?_;unfold k9;rw[M' ()]}
abbrev pT (p:Str×Nat):Tr:=.tup [.v (.str p.1),.v (.int (p.2:Int))]
abbrev spT (ws:LW):Tr:=.tup (ws.map pT)
def Mi:GS:=(sIf (gOr (gT (gOp (dw λi j=>.bl (decide (i<j))) (aa 1) (gI 0))) (gT (gOp (dw λi j=>.bl (decide (j<=i))) (aa 1) (aa 0)))) L0 cy)
def vw:GP:=λds R=>∃c v,ds=[.v (.int c),.v (.int v)]/\0<=v/\v<c/\R (.val (.v .non))
def Mj:Pm (Mi) 2 1 2 (vw):=by
 intro ds R a h;let{c,v,rfl,h0,b,q}:=h;change if decide (v<0)=MT then _ else _
 rw[NA (),M' aY];change if decide ((c:Int)<=v)=MT then _ else _
 rw[NA (),M' aY];show q
def Bt (f:Str):LW->Nat->Option (Nat×Nat)
 | [],_=>MS
 | (g,c)::a,i=>if g=f then KE (i,c)else Bt f a (i+1)
abbrev look (ws:LW)(f:Str):Option (Nat×Nat):=Bt f ws 0
theorem Bu:∀{a i p c},Bt f a i=KE (p,c)->∃k,p=i+k/\a[k]?=KE (f,c)/\∀j,j<k->∀x,a[j]?=KE x->x.1≠f
 | [],_,_,_,h=>by cases h
 | (g,n)::a,i,p,c,h=>by
  unfold Bt at h
  split at h
  ·rename_i e
   cases h;show{0,rfl,by rw[e];rfl,λj b=>NC b (nS _)}
  ·rename_i e
   let{k,q,l,m}:=Bu h;show{k+1,(),l,λj b x d=>?_};cases j with
   |zero=>cases d;show e
   |succ j=>show m j () x d
def T4:GS:=(ak (c8 [3,4] (giE (gA1 (aa 0))) (.tup [3,4]) (sIf (gT (gOp (eqG MU) (gX (aa 4) (gI 0)) (aa 1))) (ak (gc (ar 2 vw (gaV (gX (aa 4) (gI 1)) (gA1 (aa 2))))) (bc (aa 3))) cy)) L0)
def uv:GP:=λds R=>∃a f v p c,ds=[spT a,.v (.str f),.v (.int v)]/\look a f=KE (p,c)/\0<=v/\v<c/\R (.val (.v (.int p)))
def T5:Pm (T4) 5 1 3 (uv):=by
 intro ds R u h;obtain⟨b,f,v,p,c,rfl,l,h0,n,q⟩:_:=h;obtain⟨k,rfl,hk,r⟩:_:=Bu l;change dh _ _ _ _ (jg (b.map pT)) _;rw[wu];show jk (I:=λi m=>m={[KE (.v (spT b)),KE (.v (.v (.str f))),KE (.v (.v (.int v))),MS,MS],[MS]}/\i<=k) {rfl,eQ _} ?_ ?_
 ·rintro i ⟨⟨g,w⟩,j⟩ m N d ⟨rfl,hi⟩ hN;rw[nE]at d;obtain⟨y,a,s⟩:_:=eF.mp d;cases s;show{rfl,?_};change if decide (V.str g=V.str f)=MT then _ else _
  by_cases e:i=k;{subst e;rw[hk]at a;cases a;rw[NB rfl,MZ rfl];show{rfl,c,v,rfl,h0,n,?_};show q};{have:=r i () _ a;rw[NA (λz=>this (by injection z)),M' aY];show hN _ {rfl,()}}
 ·rintro m ⟨rfl,hi⟩;have:=bf hk;rw[iK]at hi;omega
def isR (ls:LJ)(p:Nat)(v:Int):Rl:=λi j=>j=i/\∃l,ls[i]?=KE l/\l[p]?=KE v
def xo (ls:LJ)(p:Nat)(v:Int):Rl:=λi j=>∃l,ls[i]?=KE l/\ls[j]?=KE (l.set p v)
def Can (ls:LJ)(p:Nat)(v:Int):Prop:=ls.Nodup/\ls.length<=300/\∀l∈ls,l.length<=10/\p<l.length/\l.set p v∈ls
abbrev ltT (ls:LJ):Tr:=.lst (ls.map tI)
def Jt:GS:=(bc (cu 2 [1,2] (Lv (gA1 (aa 0))) (.tup [0,1]) dq (gIf (gT (gOp (eqG MU) (gX (aa 1) (aa 2)) (aa 3))) (gOp (ib Ct λi j=>.int (i*2 ^ j.toNat)) (gI 1) (aa 0)) (gI 0))))
def Xy (T:LJ->Nat->Int->Rl):GP:=λds R=>∃(ls:LJ)(p:Nat) (v:Int),ds=[ltT ls,.v (.int p),.v (.int v)]/\Can ls p v/\Df ls.length (T ls p v) R
abbrev ug:GP:=Xy isR
def Ju:Pm (Jt) 3 1 3 (ug):=by
 intro ds R w h;let{ls,p,v,rfl,{nd,y,f},q}:=h;change cq _ _ _ _ _ _ _ (jg (ls.map tI)) _ _;rw[wu];show c7 (out:=λx:LQ×Nat=>Tr.v (.int (if x.1[p]?=KE v then 2 ^ x.2 else 0))) rfl _ _ (by simp;lia) (λx g Y a=>?_) ?_
 ·let{l,i}:=x;let{A,C,n}:=List.mem_zipIdx g;have D:i<ls.length:=();have lm:l∈ls:=(by rw[n];show iH _);let{_,pl,_}:=f l lm;show bj (x:=.v (.int l[p])) (bt (by rw[aW,aB pl];rfl)) {rfl,?_};change if decide (V.int l[p]=V.int v)=MT then _ else _
  by_cases c:l[p]=v;{rw[NB (by rw[c]),MZ rfl];rw[MZ (by rw[aB pl,c])]at a;show{{by change(0:Int)<=(i:Int);lia,by change(i:Int)<=1000000;lia,#v[]},?_};change Y (.v (.int (1*2 ^ ((i:Int)).toNat))) _;rw[qU,bQ];show a};{rw[NA (λz=>c (by injection z)),M' aY];rw[M' (by rw[aB pl];show λz=>c (bX z))]at a;show a}
 ·change R (.new (.lst ([]++_)));rw[bR,o8];show q _ {by simp,λi m e=>?_};rw[aW,nE]at e;let{x,r,rfl}:=eF.mp e;let{l,b,rfl}:=eF.mp r;have hi:=bf b;change MaskP _ (if l[p]?=KE v then 2 ^ (0+i)else 0) _
  rw[gB]
  split
  ·rename_i c
   show(t8 hi).iff λj _=>{λz=>#v[z,l,b,c],λz=>z.1}
  ·rename_i c
   show(jx _).iff λj _=>⟨λz=>z.elim,λs=>by let{_,E,d,u}:=s;show c (by rw[b]at d;cases d;show u)⟩
def Ml (n d p:Nat):HT.sIx n d (KE (p:Int))=min p n:=by
 unfold HT.sIx;have:¬(p:Int)<0:=();simp[this]
def Mm {a:Type}(l:List a)(p:Nat)(h:p<=l.length):dg l MS (KE (p:Int))=l.take p:=by
 unfold dg;rw[Ml,sV h];rfl
def Mp {a:Type}(l:List a)(p:Nat)(h:p<=l.length):dg l (KE (p:Int)) MS=l.drop p:=by
 unfold dg;rw[Ml,sV h];show mH (by rw[eY];show aI _)
def abj {l:LQ}{p:Nat}{v:Int}(h:p<l.length):Tr.tup ((dg (l.map λn=>Tr.v (.int n)) MS (KE (p:Int))++[.v (.int v)])++dg (l.map λn=>Tr.v (.int n)) (KE ((p:Int)+1)) MS)=tI (l.set p v):=by
 rw[show((p:Int)+1)=((p+1:Nat):Int)by lia,Mm _ _ (by rw[aC];lia),Mp _ _ (by rw[aC];lia),List.set_eq_take_append_cons_drop,MZ h];change _=Tr.tup ((l.take p++v::l.drop (p+1)).map λn=>Tr.v (.int n));rw[bT,bV,List.map_take,List.map_drop,dX];rfl
def Hd:GS:=(ak (ax 3 (cu 1 [1,2] (giL (aa 0)) (.one 0) dq (gOp c5 (gOp c5 (gSl (aa 0) goN (goS (aa 1))) (gTup (gA1 (aa 2)))) (gSl (aa 0) (goS (gOp c5 (aa 1) (gI 1))) goN)))) (bc (cu 1 [0] (giL (aa 3)) (.one 0) dq (gOp (ib Ct λi j=>.int (i*2 ^ j.toNat)) (gI 1) (gMt "list" E6 (aa 1) (gaE (aa 0) gaN))))))
abbrev so:GP:=Xy xo
def He:Pm (Hd) 4 1 3 (so):=by
 intro ds R a h;let{ls,p,v,rfl,{nd,y,d},q}:=h;show c7 (out:=λl:LQ=>tI (l.set p v)) rfl _ _ (by simp;lia) (λl a Y f=>?_) ?_;{let{r,pl,_}:=d l a;show{bg rfl,?_};change(dg (l.map λn=>Tr.v (.int n)) MS (KE (p:Int))).length+1<=1000000/\(dg (l.map λn=>Tr.v (.int n)) MS (KE (p:Int))++[Tr.v (.int v)]).length+(dg (l.map λn=>Tr.v (.int n)) (KE ((p:Int)+1)) MS).length<=1000000/\Y (Tr.tup ((dg (l.map λn=>Tr.v (.int n)) MS (KE (p:Int))++[.v (.int v)])++dg (l.map λn=>Tr.v (.int n)) (KE ((p:Int)+1)) MS)) _;rw[abj pl];show{?_,?_,f};{rw[Mm _ _ (by rw[aC];lia),cK,aC];lia};{rw[show((p:Int)+1)=((p+1:Nat):Int)by lia,Mm _ _ (by rw[aC];lia),Mp _ _ (by rw[aC];lia),aH,cK,eY,aC];change _+1+_<=_;lia}};{change cq _ _ _ _ _ _ _ ([]++ls.map λl:LQ=>tI (l.set p v)) _ _;rw[bR];show c7 (out:=λl:LQ=>Tr.v (.int (2 ^ ls.idxOf (l.set p v)))) rfl _ _ (by simp;lia) (λl a Y f=>?_) ?_;{let{r,pl,b}:=d l a;have c:ls.idxOf (l.set p v)<ls.length:=cM.mpr b;show{rfl,ls,l.set p v,rfl,rfl,b,{by change(0:Int)<=((ls.idxOf (l.set p v):Nat):Int);lia,by change((ls.idxOf (l.set p v):Nat):Int)<=1000000;lia,#v[]},?_};change Y (.v (.int (1*2 ^ (((ls.idxOf (l.set p v):Nat):Int)).toNat))) _;rw[qU,bQ];show f};{change R (.new (.lst ([]++_)));rw[bR,o8];show q _ {by simp,λi m e=>?_};rw[aW]at e;let{l,g,rfl}:=eF.mp e;let{r,pl,b}:=d l (aU g);have c:ls.idxOf (l.set p v)<ls.length:=cM.mpr b;show(t8 c).iff λj u=>{λz=>{l,g,?_},λ⟨A,s,w⟩=>?_};{subst z;rw[aB c,gE]};{rw[g]at s;cases s;have x:ls[ls.idxOf (l.set p v)]?=KE (l.set p v):=(by rw[aB c,gE]);show(mK u nd).mp (w.trans x.symm)}}}
inductive Say where
 |nought | every | note
 |is (f:Str) (v:Int)
 |put (f:Str) (v:Int)
 |no (s:Say)
 |again (s:Say)
 |either (a b:Say)
 |both (a b:Say)
def Say.t:Say->Tr
 | .nought=>.tup [.v (.str "none")]
 | .every=>.tup [.v (.str "all")]
 | .note=>.tup [.v (.str "note")]
 | .is f v=>.tup [.v (.str "is"),.v (.str f),.v (.int v)]
 | .put f v=>.tup [.v (.str "put"),.v (.str f),.v (.int v)]
 | .no s=>.tup [.v (.str "not"),s.t]
 | .again s=>.tup [.v (.str "again"),s.t]
 | .either a b=>.tup [.v (.str "either"),a.t,b.t]
 | .both a b=>.tup [.v (.str "then"),a.t,b.t]
def Say.kids:Say->List Say
 | .no s=>[s] | .again s=>[s] | .either a b=>[a,b] | .both a b=>[a,b] | _=>[]
def Say.parts:Say->List Say
 | .no s=>.no s::s.parts
 | .again s=>.again s::s.parts
 | .either a b=>.either a b::(a.parts++b.parts)
 | .both a b=>.both a b::(a.parts++b.parts)
 |s=>[s]
def Say.size:Say->Nat
 | .no s=>s.size+1
 | .again s=>s.size+1
 | .either a b=>a.size+b.size+1
 | .both a b=>a.size+b.size+1
 |_=>1
theorem Say.parts_len:∀s:Say,s.parts.length=s.size
 | .no s=>by change s.parts.length+1=_;rw[s.parts_len];rfl
 | .again s=>by change s.parts.length+1=_;rw[s.parts_len];rfl
 | .either a b=>by change(a.parts++b.parts).length+1=_;rw[aH,a.parts_len,b.parts_len];rfl
 | .both a b=>by change(a.parts++b.parts).length+1=_;rw[aH,a.parts_len,b.parts_len];rfl
 | .nought | .every | .note | .is _ _ | .put _ _=>rfl
theorem Say.parts_eq:∀s:Say,s.parts=s::s.kids.flatMap Say.parts
 | .no s=>by simp[Say.parts,Say.kids]
 | .again s=>by simp[Say.parts,Say.kids]
 | .either a b=>by simp[Say.parts,Say.kids]
 | .both a b=>by simp[Say.parts,Say.kids]
 | .nought | .every | .note | .is _ _ | .put _ _=>by simp[Say.parts,Say.kids]
def Say.isT:Say->Bool
 | .nought=>MT | .every=>MT | .is _ _=>MT
 | .no s=>s.isT
 | .either a b=>a.isT&&b.isT
 | .both a b=>a.isT&&b.isT
 |_=>MU
def Say.rm:Say->Nat
 | .note=>1
 | .again s=>s.rm
 | .either a b=>a.rm+b.rm
 | .both a b=>a.rm+b.rm
 |_=>0
abbrev wds (l:AZ):Tr:=.tup (l.map λx=>Tr.v (.str x))
abbrev qp:Tr:=wds ["not","either","then","again"]
abbrev uh:Tr:=wds ["is","put"]
noncomputable abbrev vx:Tr:=wds YW
def Hf {y:Str}{l:AZ}:∀e∈l.map (λx=>Tr.v (.str x)),iy 39 e (.v (.str y))=MT:=λe a=>by
 let{z,_,rfl}:=bE.mp a;rfl
def sr {x:Str}{l:AZ}{c b:Bool}(a:c=MT↔Tr.v (.str x)∈l.map λx=>Tr.v (.str x))(h:decide (x∈l)=b):c=b:=by
 have e:(c=MT)↔x∈l:=a.trans ⟨λz=>by
   let{y,d,e}:=bE.mp z;cases e;show d,λz=>bE.mpr #v[x,z,rfl]⟩
 rw[<-h];cases c with
 |true=>rw[NB (e.mp rfl)]
 |false=>rw[NA (λz=>aY (e.mpr z))]
def ix0 {b:Type}{a:b}{l:List b}{Q:b->Prop}(h:Q a):nu (atI (a::l) 0) Q:=bj (bt (i:=0) rfl) h
def ix1 {c:Type}{a b:c}{l:List c}{Q:c->Prop}(h:Q b):nu (atI (a::b::l) 1) Q:=bj (bt (i:=1) rfl) h
def Xz:GS:=(ak (sIf (gT (gOp (inG MU) (gX (aa 0) (gI 0)) (gC qp))) (bc (gSl (aa 0) (goS (gI 1)) goN)) cy) (bc (gTup gaN)))
def t9:GP:=λds R=>∃s:Say,ds=[s.t]/\R (.val (.tup (s.kids.map Say.t)))
def X0:Pm (Xz) 1 1 1 (t9):=by
 intro ds R e h;obtain⟨s,rfl,q⟩:_:=h;cases s<;>dsimp only[Say.t]<;>show{Hf,λc d=>?_}
 case no s=>cases sr d (b:=MT) ⋯;show q
 case again s=>cases sr d (b:=MT) ⋯;show q
 case either a b=>cases sr d (b:=MT) ⋯;show q
 case both a b=>cases sr d (b:=MT) ⋯;show q
 all_goals cases sr d (b:=MU) ⋯;show{bg rfl,q}
def Say.tag:Say->Fin 9
 | .nought=>0 | .every=>1 | .note=>2 | .is _ _=>3 | .put _ _=>4 | .no _=>5 | .again _=>6 | .either _ _=>7 | .both _ _=>8
def gy:Fin 9->Str
 |0=>"none" | 1=>"all" | 2=>"note" | 3=>"is" | 4=>"put" | 5=>"not" | 6=>"again" | 7=>"either" | 8=>"then"
def Say.sort (s:Say):Str:=gy s.tag
def Say.rest:Say->D2
 | .is f v=>[.v (.str f),.v (.int v)]
 | .put f v=>[.v (.str f),.v (.int v)]
 | .no s=>[s.t] | .again s=>[s.t] | .either a b=>[a.t,b.t] | .both a b=>[a.t,b.t]
 |_=>[]
def Say.t_eq (s:Say):s.t=.tup (.v (.str s.sort)::s.rest):=by cases s<;>rfl
def T6:GS:=(ak (ic 1 1 (gLst gaN)) (ak (ic 2 0 (gLst (gA1 (aa 0)))) (ak (E8 [3] (ku (aa 2)) (ak (ax 3 (gMc "list" 2 Ak gaN)) (ak (gc (xk 1 (aa 3))) (gc (gMc "list" 2 pq (gaE (gRev (ar 1 t9 (gA1 (aa 3))) (xj (gI 1))) gaN)))))) (bc (aa 1)))))
def qq:GP:=λds R=>∃s:Say,ds=[s.t]/\s.size<=1000/\R (.new (.lst (s.parts.map Say.t)))
def je (l:List Say):Nat:=(l.map Say.size).sum
def Say.size_pos (s:Say):1<=s.size:=by cases s<;>simp[Say.size]
def Say.size_kids (s:Say):s.size=je s.kids+1:=by cases s<;>simp[Say.size,Say.kids,je]<;>lia
def Aq (a b:List Say):je (a++b)=je a+je b:=by simp[je]
theorem w6:∀l:List Say,l.length<=je l
 | []=>aI _
 |s::l=>by
  have:=w6 l;have:=s.size_pos;simp[je]at *;lia
def Jf (l:List Say):je l.reverse=je l:=by simp[je,List.sum_reverse]
def T7:Pm (T6) 4 3 1 (qq):=by
 intro ds R g h;let{s,rfl,i,q}:=h;show{eQ _,bg rfl,?_};show{λk m=>∃P W:List Say,m={[KE (.v s.t),KE (.c 2),KE (.c 1),MS],[MS,KE (.lst (W.map Say.t)),KE (.lst (P.map Say.t))]}/\k=je W/\P++W.reverse.flatMap Say.parts=s.parts,{_,[],[s],rfl,rfl,by simp},?_};intro k m b;let{P,W,rfl,rfl,e}:=b;have pl:=NG sZ e;rw[aH,s.parts_len]at pl;have d:je W=(W.reverse.flatMap Say.parts).length:=by
  rw[nR,<-Jf];unfold je;congr 1;show lG λx _=>x.parts_len.symm
 have j:=w6 W;rcases List.eq_nil_or_concat W with rfl | ⟨a,x,rfl⟩;{change R _;simp at e;rw[e];show q}
 ·rw[List.concat_eq_append]at *;have ex:x.t=x.t:=rfl;change if (!((a++[x]).map Say.t).isEmpty)=MT then _ else _
  have l:=x.size_kids;rw[Aq]at d;have n:je [x]=x.size:=(by simp[je]);rw[MZ ∅];show{λm=>m={[KE (.v s.t),KE (.c 2),KE (.c 1),KE (.v x.t)],[MS,KE (.lst ((a++x.kids.reverse).map Say.t)),KE (.lst ((P++[x]).map Say.t))]},?_,?_};{intro m b;subst b;show{je (a++x.kids.reverse),?_,P++[x],a++x.kids.reverse,rfl,rfl,?_};{rw[Aq,Aq,Jf];lia};{rw[<-e,List.reverse_append,List.reverse_append,List.reverse_reverse,jB,jB,dX,List.reverse_singleton];congr 1;rw[dJ,List.flatMap_nil,bP,x.parts_eq];rfl}};{show{rfl,bj (x:=x.t) (by rw[bT];show jK) ?_};show{rfl,by change(P.map Say.t).length<1000000;rw[aC];lia,rfl,rfl,x,rfl,rfl,?_};have f:((a++[x]).map Say.t).dropLast=a.map Say.t:=(by rw[bT];show kP);change _/\(_:M)=_;rw[f];show⟨by rw[aC,jA,aC];have:=w6 x.kids;have:=w6 a;lia,?_⟩;change({[KE (.v s.t),KE (.c 2),KE (.c 1),KE (.v x.t)],[MS,KE (.lst (a.map Say.t++(x.kids.map Say.t).reverse)),KE (.lst (P.map Say.t++[x.t]))]}:M)=_;rw[<-List.map_reverse,<-bT];rw[bT (l₁:=P)];rfl}
def Say.own (a:LW):Say->Prop
 | .is f v=>∃p c,look a f=KE (p,c)/\0<=v/\v<(c:Int)
 | .put f v=>∃p c,look a f=KE (p,c)/\0<=v/\v<(c:Int)
 | .no s=>s.isT=MT
 |_=>True
def Say.good (a:LW)(s:Say):Prop:=∀x∈s.parts,x.own a
def Say.inT:Say->Bool
 | .nought=>MT | .every=>MT | .is _ _=>MT | .no _=>MT | .either _ _=>MT | .both _ _=>MT
 |_=>MU
theorem Say.isT_all:∀s:Say,s.parts.all Say.inT=s.isT
 | .no s=>by simp[Say.parts,Say.inT,Say.isT,s.isT_all]
 | .again s=>by simp[Say.parts,Say.inT,Say.isT]
 | .either a b=>by simp[Say.parts,Say.inT,Say.isT,a.isT_all,b.isT_all]
 | .both a b=>by simp[Say.parts,Say.inT,Say.isT,a.isT_all,b.isT_all]
 | .nought | .every | .note | .is _ _ | .put _ _=>by simp[Say.parts,Say.inT,Say.isT]
def agu (l:List a)(g:a->Bool):(l.map λx=>Tr.v (.bl (g x)))=(l.map g).map λn=>Tr.v (.bl n):=by rw[dG];rfl
def X1:GS:=(bc (gCB (Gw λbs=>bs.all id) (gaE (cu 1 [] (giL (ar 1 qq (gA1 (aa 0)))) (.one 0) dq (gOp (inG MU) (gX (aa 0) (gI 0)) (gC vx))) gaN)))
def Ar:GP:=λds R=>∃s:Say,ds=[s.t]/\s.size<=1000/\R (.val (.v (.bl s.isT)))
def X2:Pm (X1) 1 1 1 (Ar):=by
 intro ds R f h;let{s,rfl,a,q}:=h;show{rfl,s,rfl,a,?_};show c7 (out:=λx:Say=>Tr.v (.bl x.inT)) rfl _ _ (by change 0+_<=_;rw[s.parts_len];lia) (λx g Y d=>?_) ?_;{rw[x.t_eq];show ix0 ?_;show{Hf,λc e=>?_};cases sr e (b:=x.inT) ((⋯:∀n:Fin 9,decide (gy n∈[eA "none",eA "all",eA "is",eA "not",eA "either",eA "then"])=decide (n∈[0,1,3,5,7,8])) x.tag |>.trans (by cases x<;>rfl));show d};{show{s.parts.map Say.inT,by rw[bR];show agu _ _,?_};change R (.val (.v (.bl ((s.parts.map Say.inT).all id))));rw[List.all_map,show(id∘Say.inT)=Say.inT from rfl,s.isT_all];show q}
def Os:GS:=(sIf (Gs (ku (ar 1 Ar (gA1 (aa 0))))) L0 cy)
def tq:GP:=λds R=>∃s:Say,ds=[s.t]/\s.size<=1000/\s.isT=MT/\R (.val (.v .non))
def Ot:Pm (Os) 1 1 1 (tq):=by
 intro ds R c h;let{s,rfl,a,b,q}:=h;show{rfl,s,rfl,a,?_};change if (!s.isT)=MT then _ else _
 rw[b,M' #v[]];show q
def Say.isNo:Say->Bool
 | .no _=>MT
 |_=>MU
def Say.isF:Say->Bool
 | .is _ _=>MT
 | .put _ _=>MT
 |_=>MU
def Ou:GS:=(ak (sIf (gT (gOp (inG MU) (gX (aa 1) (gI 0)) (gC uh))) (gc (ar 3 uv (gaV (aa 0) (gaV (gX (aa 1) (gI 1)) (gA1 (gX (aa 1) (gI 2))))))) cy) (sIf (gT (gOp (eqG MU) (gX (aa 1) (gI 0)) (gS "not"))) (gc (ar 1 tq (gA1 (gX (aa 1) (gI 1))))) cy))
def xp:GP:=λds R=>∃(a:LW)(s:Say),ds=[spT a,s.t]/\s.size<=1000/\s.own a/\R (.val (.v .non))
def Ov:Pm (Ou) 2 1 2 (xp):=by
 intro ds R u h;obtain⟨a,s,rfl,e,d,q⟩:_:=h;have g:decide (V.str s.sort=V.str "not")=s.isNo:=((⋯:∀n:Fin 9,decide (V.str (gy n)=V.str "not")=decide (n=5)) s.tag).trans (by cases s<;>rfl);have k2:(!s.isNo)=MT\/∃y,s=.no y:=(by cases s<;>simp[Say.isNo]);have k1:sIf (gT (gOp (eqG MU) (gOp ixG (aa 1) (gC (.v (.int 0)))) (gC (.v (.str "not"))))) (gc (ar 1 tq (gaV (gOp ixG (aa 1) (gC (.v (.int 1)))) gaN))) cy {nx:=λm=>R (.val (.v .non)),rt:=Am R} ⟨locs 2 (vsW [spT a,.tup (.v (.str s.sort)::s.rest)]),bB 1 MS⟩:=by
  show ix0 ?_;show{rfl,?_};change if decide (V.str s.sort=V.str "not")=MT then _ else _
  rw[g];rcases k2 with k2 | ⟨y,rfl⟩;{rw[M' (⇑k2)];show q};{rw[MZ (show y.no.isNo=MT from rfl)];dsimp only[Say.rest];show{rfl,y,rfl,?_,d,q};simp[Say.size]at e;omega}
 rw[s.t_eq];show ix0 ?_;show{Hf,λc i=>?_};have k3:s.isF=MU\/(∃f v,s=.is f v)\/∃f v,s=.put f v:=(by cases s<;>simp[Say.isF]);cases sr i (b:=s.isF) ((⋯:∀n:Fin 9,decide (gy n∈[eA "is",eA "put"])=decide (n∈[3,4])) s.tag |>.trans (by cases s<;>rfl));rcases k3 with k3 | ⟨f,v,rfl⟩ | ⟨f,v,rfl⟩
 ·change if s.isF=MT then _ else _
  rw[k3,M' aY];show k1
 all_goals
  obtain⟨p,c,l,j,r⟩:_:=d;change if MT=MT then _ else _
  rw[MZ rfl];dsimp only[Say.rest];show#v[rfl,a,f,v,p,c,rfl,l,j,r,k1]
theorem Say.parts_size:∀(s x:Say),x∈s.parts->x.size<=s.size
 | .no s,x,h=>by
  rcases aX.mp h with rfl | h;{show aI _};{have:=s.parts_size x h;simp only[Say.size];lia}
 | .again s,x,h=>by
  rcases aX.mp h with rfl | h;{show aI _};{have:=s.parts_size x h;simp only[Say.size];lia}
 | .either a b,x,h=>by
  rcases aX.mp h with rfl | h;{show aI _};{rcases dF.mp h with h | h;{have:=a.parts_size x h;simp only[Say.size];lia};{have:=b.parts_size x h;simp only[Say.size];lia}}
 | .both a b,x,h=>by
  rcases aX.mp h with rfl | h;{show aI _};{rcases dF.mp h with h | h;{have:=a.parts_size x h;simp only[Say.size];lia};{have:=b.parts_size x h;simp only[Say.size];lia}}
 | .nought,x,h | .every,x,h | .note,x,h | .is _ _,x,h | .put _ _,x,h=>by
  rcases aX.mp h with rfl | h;{show aI _};{cases h}
def Jv:GS:=(c8 [2] (giL (ar 1 qq (gA1 (aa 1)))) (.one 2) (gc (ar 2 xp (gaV (aa 0) (gA1 (aa 2))))))
def uk:GP:=λds R=>∃(a:LW)(s:Say),ds=[spT a,s.t]/\s.size<=1000/\s.good a/\R (.val (.v .non))
def Jw:Pm (Jv) 3 1 2 (uk):=by
 intro ds R g h;let{a,s,rfl,c,d,q}:=h;show{rfl,s,rfl,c,?_};show jk (I:=λ_ m=>m={[KE (.v (spT a)),KE (.v s.t),MS],[MS]}) rfl ?_ (λ_ _=>q);intro i x m N e f hN;subst f;have b:=aU e;show⟨rfl,a,x,rfl,by have:=s.parts_size x b;lia,d x b,hN _ rfl⟩
end PB
namespace VL
open PySem L2 PySem.Deep
def T8 (i0 iv k:Nat)(fr:AQ)(i:GI)(t:Tg)(f:GE):GS:=λE m=>i0<m.loc.length/\i m λds a=>match ds with
 | []=>False
 |d0::b=>gTg t d0 {bB k MS++ou a.loc fr,a.cel} λe=>f e λg d=>match g with
  | .new (.lst (_::r))=>i6 d.cel a.loc=MT/\cq k fr t dq f a.loc (λj c=>match c.loc[iv]? with
    |some (KE (.v l))=>E.nx {c.loc.set i0 (KE (.v (.lst (.lst (l::r)::j)))),c.cel}
    |_=>False) b [] d.cel
  |_=>False
def X3 (l:Lx O W)(f:Rel b W m A)(h0:O.H a=MS)(s:W.F a=MS)(D:∀j,W.C j≠KE a)(E:CellOk b W.F W.H a d):∃e,Lx O e/\e.H=W.H/\e.C=W.C/\(∀c,c≠a->e.F c=W.F c)/\Same W.F e.F/\Rel b e m A/\Rp b e.F (.ref a) d:=by
 have g:Same W.F (eh W.F W.H a):=wq s;show{{eh W.F W.H a,W.H,W.C},{{λc o z=>g c o (l.same c o z),l.fr,λc z n=>?_,l.cl,l.dm},l.cx},rfl,rfl,λc q=>lp q,g,{{Ab f.ok.sub,λj d' G=>?_,f.ok.live,f.ok.dist},λi w hw=>?_,f.len},E.keep s};{by_cases q:c=a;{subst q;show .inl h0};{have u:eh W.F W.H a c≠MS:=n;rw[lp q]at u;show l.nw c z u}};{obtain⟨x,p,r,I⟩:_:=f.ok.cell j d' G;show{x,p,?_,I.mono g λ_ z=>z};change eh W.F W.H a x=MS;rw[lp (λz=>D j (by rw[<-z];show p))];show r}
 ·obtain⟨y,p,r⟩:_:=f.loc i w hw;show{y,p,?_};cases w with
  |v d'=>show Rp.mono g r
  |c j=>show r
def abk {b:Type}{a:b}{l:List b}:atI (a::l) 0=KE a:=by unfold atI ixN;rw[MZ #v[],MZ (by rw[aS];omega)];rfl
def X4 {b:B}{O:Wd}{i0 iv k:Nat}{fr:AQ}{i:GI}{t:Tg}{f:GE}{A:St}{H:Hp}{Q:VK}{D0:zr}(ht:C7 k t)
  (hQ:∀(D g:MV)(u0 v:V) (us rest:EX) (H1:Hp),i0<A.length->H1 D=KE (.lst (.ref g::rest))->H1 g=KE (.lst (u0::us))->g≠D->A[iv]?=KE (KE v)->D0.nx (A.set i0 (KE (.ref D))) (upd H1 g (.lst (v::us)))->Q (.ref D) H1)
  (h:lfS b O (T8 i0 iv k fr i t f) D0 A H):Km k fr (lfI b i) (gOf b.K t) (lfT b dq) (lf b f) A H Q:=by
 obtain⟨W,m,E,hW,l,wB,⟨DD,h⟩,q,_⟩:_:=h;rw[wB.len]at DD;show{W,m,_,hW,wB,h,λds m1 s J h1 l1 wA sq D hD=>?_};rcases ds with _ | ⟨d0,ds⟩;{show h1.elim};have h0:W.H D=MS:=l1.dm D hD;obtain⟨lD,JS,aD,eD,_,fD,cD,_⟩:_:=pj (d:=.lst []) (o:=.lst []) wA.ok hD {[],ay,.nil};cases eD
 let DS:Nat->EX->Hp->Prop:=λi ys w=>∃(W2:Wd)(G:D2) (cel:EZ) (g:MV) (u0:V) (us rest:EX) (r:D2),1<=i/\W2.H=w/\Lx s W2/\Rel b W2 #v[m1.loc,cel] A/\ys=.ref g::rest/\W2.H D=KE (.lst ys)/\W2.F D=MS/\(∀j,W2.C j≠KE D)/\
  g≠D/\s.H g=MS/\W2.H g=KE (.lst (u0::us))/\W2.F g=MS/\(∀j,W2.C j≠KE g)/\Rps b W2.F us r/\Rps b W2.F rest G/\
  cq k fr t dq f m1.loc (λG L=>match L.loc[iv]? with
    |some (KE (.v T))=>E.nx {L.loc.set i0 (KE (.v (.lst (.lst (T::r)::G)))),L.cel}
    |_=>False) (ds.drop (i-1)) G cel
 have JT:∀(i n:Nat)(ys:EX) (w:Hp),(i+n=(d0::ds).length/\((i=0/\ys=[]/\w=upd s.H D (.lst []))\/DS i ys w))->
   w D=KE (.lst ys)/\((J.stop i w/\Q (.ref D) w)\/(J.go i w/\ys.length<sizeLine/\∃N:EX->Hp->Prop,(∀BI H',N BI H'->∃m',m'<n/\(i+1+m'=(d0::ds).length/\((i+1=0/\BI=[]/\H'=upd s.H D (.lst []))\/DS (i+1) BI H')))/\∀x H3,J.yld i w x H3->S4 k fr (gOf b.K t) (lfT b dq) (lf b f) A D ys N x H3)):=by
  rintro i n ys w ⟨en,⟨rfl,rfl,rfl⟩ | ⟨W2,G,cel,g,u0,us,rest,r,i1,rfl,l2,u,rfl,d1,d2,d3,I,b1,b2,b3,b4,rr,rs,p⟩⟩
  ·show{ay,.inr ?_};have u:=wA.lift lD (λ_=>rfl) JS;obtain⟨st,go⟩:_:=sq s.F (upd s.H D (.lst [])) (λ_ _ z=>z) u.ok.sub 0;obtain⟨g1,g2⟩:_:=go _ rfl;show{g1,by change 0<sizeLine;decide,DS 1,λBI H' z=>{n-1,by rw[aS]at en;omega,by rw[aS]at en ⊢;omega,.inr z},λx H3 hy=>?_};obtain⟨W3,e3,l3,xR,r3⟩:_:=vm (W2:={s.F,upd s.H D (.lst []),s.C}) u (g2 x H3 hy);subst e3;show Al (xR.inner k fr) r3 h1 λm4 σ4 h4 AS ET HA=>{G4 ET ht HA,W3,m4,λc m'=>c=MT/\m'=m4,rfl,AS,#v[rfl,rfl],λcc L W5 h5 l5 zZ=>?_};obtain⟨rfl,rfl⟩:_:=h5;show{W5,L,_,rfl,zZ,h4,λev m6 U y h6 l6 CF r6=>?_};have HD:Lx (⟨s.F,upd s.H D (.lst []),s.C⟩:Wd) U:=l3.trans (l5.trans l6);rcases ev with d | d | j;{show h6.elim}
   ·rcases d with _ | _ | (_ | ⟨z0,r⟩) | _ | _ | _ | _<;>try show h6.elim
    obtain⟨lv,h7⟩:_:=h6;obtain⟨g,rfl,p0,p1,p2,xs,p3,p4⟩:_:=r6;obtain⟨k1,k2,k3⟩:_:=sh HD (ay (H:=s.H) (a:=D) (o:=.lst [])) fD cD;have ro:=u.outer HD CF lv;have I:g≠D:=λe=>by
     have w5:=sh (l3.trans l5) (ay (H:=s.H) (a:=D) (o:=.lst [])) fD cD;rw[e,w5.1]at p0;cases p0
    obtain⟨l8,EU⟩:_:=Bp (o:=.lst ([]++[.ref g])) (lD.trans HD) CF.ok hD k2 k3;obtain⟨x0,xs,rfl,pr⟩:∃x0 HX,xs=x0::HX/\Rps b U.F HX r:=(by cases p4 with | cons ph pr=>show{_,_,rfl,pr});show{k1,{U.F,upd U.H D (.lst ([]++[.ref g])),U.C},[],m6.cel,g,x0,xs,[],r,aI _,rfl,l8,#v[EU,ro.loc,ro.len],rfl,ay,k2,k3,I,?_,?_,p1,p2,pr,.nil,h7};{show(lD.trans (l3.trans l5)).dm g p0};{change upd U.H D _ g=_;rw[au I];show p3}
   ·show h6.elim
  ·show{d1,?_};obtain⟨st,go⟩:_:=sq W2.F W2.H l2.same u.ok.sub i;obtain⟨i',rfl⟩:∃i',i=i'+1:={i-1,()};rw[rB]at p;by_cases ci:i'<ds.length;{have hd:(d0::ds)[i'+1]?=KE ds[i']:=(by rw[List.getElem?_cons_succ];show aB ci);rw[hU ci]at p;obtain⟨g1,g2⟩:_:=go _ hd;obtain⟨hz,p⟩:_:=p;show .inr {g1,by rw[aS,rs.length];show bW (Nat.succ_lt_succ hz) #v[],DS (i'+1+1),λBI H' z=>{n-1,by rw[aS]at en;omega,by rw[aS]at en ⊢;omega,.inr z},λx H3 hy=>?_};obtain⟨W3,e3,l3,xR,r3⟩:_:=vm (W2:=W2) u (g2 x H3 hy);subst e3;show Al (xR.inner k fr) r3 p λm4 σ4 h4 AS ET HA=>{G4 ET ht HA,W3,m4,λc m'=>c=MT/\m'=m4,rfl,AS,#v[rfl,rfl],λcc L W5 h5 l5 zZ=>?_};have DR:Lx W2 W5:=l3.trans l5;obtain⟨rfl,rfl⟩:_:=h5;dsimp only[dq]at h4;rw[MZ rfl]at h4;{show{W5,L,_,rfl,zZ,h4,λev m6 U y h6 l6 CF r6=>?_};obtain⟨d',m7,W7,⟨lv,h7⟩,l7,e7,CU,r7⟩:_:=qj l6 CF r6 h6;have CG:Lx W2 W7:=DR.trans l7;obtain⟨k1,k2,k3⟩:_:=sh CG d1 d2 d3;obtain⟨c1,c2,c3⟩:_:=sh CG b2 b3 b4;have ro:=u.outer CG CU lv;obtain⟨l8,EU⟩:_:=Bp (o:=.lst ((.ref g::rest)++[y])) (l2.trans CG) CU.ok hD k2 k3;rw[<-e7];show{k1,{W7.F,upd W7.H D (.lst ((.ref g::rest)++[y])),W7.C},G++[d'],m7.cel,g,u0,us,rest++[y],r,(),rfl,l8,#v[EU,ro.loc,ro.len],rfl,ay,k2,k3,I,b1,?_,c2,c3,rr.mono CG.same,(rs.mono CG.same).append (.cons r7 .nil),h7};change upd W7.H D _ g=_;rw[au I];show c1}}
   ·rw[jE ()]at p;show .inl {st (by rw[aS]at *;omega),?_};change (match m1.loc[iv]? with | some (KE (.v T))=>E.nx {m1.loc.set i0 (KE (.v (.lst (.lst (T::r)::G)))),cel} | _=>False)at p
    rcases e:m1.loc[iv]? with _ | _ | (T | j);{rw[e]at p;show p.elim};{rw[e]at p;show p.elim};{rw[e]at p;obtain⟨v,ev,rv⟩:_:=u.loc iv _ e;have rv:Rp b W2.F v T:=rv;show hQ D g u0 v us rest W2.H DD d1 b2 I ev ?_;obtain⟨l8,EU⟩:_:=Bp (o:=.lst (v::us)) l2 u.ok b1 b3 b4;have rel8:Rel b ⟨W2.F,upd W2.H g (.lst (v::us)),W2.C⟩ ⟨m1.loc,cel⟩ A:=#v[EU,u.loc,u.len];obtain⟨W9,l9,e9,c9,f9,s9,rel9,r9⟩:_:=X3 (d:=.lst (T::r)) l8 rel8 b1 b3 b4 {_,ay,.cons rv rr};have hD9:W9.H D=KE (.lst (.ref g::rest)):=(by rw[e9];change upd W2.H g _ D=_;rw[au (eT I)];show d1);obtain⟨LP,EY,e10,c10,f10,HU,Y,GB⟩:_:=X3 (a:=D) (d:=.lst (.lst (T::r)::G)) l9 rel9 hD (by rw[f9 D (eT I)];show d2) (λj=>by rw[c9];show d3 j) {_,hD9,.cons r9 (rs.mono s9)};have eH:upd W2.H g (.lst (v::us))=LP.H:=(by rw[e10,e9]);rw[eH];show q _ LP _ p (l.trans (l1.trans EY).toLe) (l1.trans EY).same (Y.set GB)};{rw[e]at p;show p.elim}
 show{_,{(d0::ds).length,(),.inl #v[rfl,rfl,rfl]},JT}
section
variable {X:Cx}
def abl {i0 iv:Nat}{c:Str}{j l:Pos}{m:MY}{rest:List MY}{g:GS}{e iter d:MX}{b:lS}{pos:Pos}{ns ys:AZ}{fr:AQ}{cl:List (Str×MV)}{i:GI}{t:Tg}{f:GE}(hN:X.N.Nodup)(n:X.N[i0]?=KE c)(p:X.e.scope.names.lookup c=KE .local)(S:qd X ns ys fr b cl)(q:X.calm=MT)
  (hi:VI X d iter i) (r:∀C s H a,VG (cxC X (ns++ys) b cl C s H a) d t) (u:∀C s H a,VE (cxC X (ns++ys) b cl C s H a) e f) (hk:C7 ns.length t) (w:i0≠iv) (y:PS X m (Y7 (Sf iv) (gSub (tOp (rIxL X.K) (Sf i0) (tC (.int 0))) (tC (.int 0)) adg))) (A:VSs X rest g)
  (E:autoParam (∀x,iW iter X.e x=pure x) XW._auto_1) (G:↥(jO (.ListComp e [{d,iter,[],0}] b pos) (KE (.Name c j)) l.line X.e=pure MT)) :
  VSs X (.Assign [.Name c j] (.ListComp e [{d,iter,[],0}] b pos) l::m::rest) (ak (T8 i0 iv ns.length fr i t f) g):=⟨λO=>
PSs.sub (jt (P7 (g:=gOf X.K t) (tt:=lfT X.B dq) (te:=lf X.B f) hN n p S q hi.out (λC s H a=>(r C s H a).out) (λC s H a=>cw) (λC s H a=>(u C s H a).out) E G)
  (jt y (A.out O))) λD Y H h=>X4 (iv:=iv) (i0:=i0) (D0:={D with nx:=lfS X.B O g D}) hk (λI J u0 v us rs H1 L Q T ne U z=>by
    show{v,by rw[cZ w];show U,_,dA L,I,_,_,_,rfl,rfl,SqL.of Q,abk,J,_,0,0,rfl,rfl,T,by unfold ixN;rw[MZ #v[],MZ (by rw[aS];omega)];rfl,z}) (C5 h)⟩
end
end VL
namespace S1
def Hg:m∈longer a c↔∃l∈a,∃v:Nat,v<c/\m=l++[(v:Int)]:=by
 constructor;{show uu};{intro b;let{l,d,v,e,rfl}:=b;show eM.mpr {l,d,bE.mpr {v,bY.mpr e,rfl}}}
def T9 (cs:AQ)(l:LQ):Prop:=l.length=cs.length/\∀(i:Nat)(v:Int),l[i]?=KE v->∃c,cs[i]?=KE c/\0<=v/\v<(c:Int)
def Jg {cs:AQ}{c:Nat}{l:LQ}{v:Int}:T9 (cs++[c]) (l++[v])↔T9 cs l/\0<=v/\v<(c:Int):=by
 constructor;{intro f;let{a,b}:=f;have g:l.length=cs.length:=(⇑a);show{{g,λi u hi=>?_},?_};{have j:=(bZ.mp hi).1;let{d,hd,r}:=b i u (by rw[cE j];show hi);rw[cE ()]at hd;show#v[d,hd,r]};{let{d,hd,r}:=b l.length v ∅;rw[g]at hd;have:c=d:=(⇑hd);subst this;show r}};{intro f;let{{a,b},m}:=f;show{by simp[a],λi u hi=>?_};rcases Nat.lt_trichotomy i l.length with q | q | q;{rw[cE q]at hi;let{d,hd,r}:=b i u hi;show{d,by rw[cE ()];show hd,r}};{subst q;have e:v=u:=(⇑hi);subst e;show{c,by rw[a];simp,m}};{rw[dI (by rw[aH,dR];lia)]at hi;cases hi}}
def letters_mem (cs:AQ)(l:LQ):l∈letters cs↔T9 cs l:=by
 suffices z:∀(ds:AQ)(l:LQ),l∈letters ds.reverse↔T9 ds.reverse l by
  have:=z cs.reverse l
  rwa [List.reverse_reverse]at this
 intro ds
 induction ds with
 |nil=>
  intro l;change l∈[[]]↔_;rw[aN];constructor;{rintro rfl;show{rfl,λi v e=>by simp at e}};{rintro⟨h,_⟩;show jP.mp h}
 |cons c cs a=>
  intro l;rw[kJ,L8,Hg];constructor;{intro d;let{m,f,v,n,rfl}:=d;show Jg.mpr {(a m).mp f,(),()}};{intro h;have b:l≠[]:=λe=>(by rw[e]at h;have:=h.1;simp at this);obtain⟨m,v,rfl⟩:∃m v,l=m++[v]:={l.dropLast,l.getLast b,(jT b).symm};let{g,j,p}:=Jg.mp h;show{m,(a m).mpr g,v.toNat,(),by rw[Int.toNat_of_nonneg j]}}
def ako (h:HT.lexLt a b=MT):a≠b:=by
 intro c;subst c
 induction a with
 |nil=>cases h
 |cons x r d=>rw[HT.lexLt_cons,MZ rfl]at h;show d h
def g8 (cs:AQ):(letters cs).Nodup:=(dt cs).ord.imp λh=>ako h
def xq {cs:AQ}{l:LQ}{i:Nat}{v:Int}{c:Nat}(a:l∈letters cs)(b:cs[i]?=KE c)(h0:0<=v)(d:v<(c:Int)):l.set i v∈letters cs:=by
 rw[letters_mem]at a ⊢;show{by rw[gZ];show a.1,λj u e=>?_};rw[List.getElem?_set]at e
 split at e
 ·rename_i f
  subst f
  split at e;{cases e;show#v[c,b,h0,d]};{cases e}
 ·show a.2 j u e
def Fj (a:∀c∈cs,c<=6)(b:cs.length<=3):(letters cs).length<=216:=by
 rw[yj];show aV (akm cs a) (aV (kO #v[] b) #v[])
end S1
namespace PB
open PySem L2 VL Bits S1
structure SpOk (ws:LW):Prop where
 lo:1<=ws.length
 hi:ws.length<=3
 cnt:∀w∈ws,1<=w.2/\w.2<=6
abbrev LL (ws:LW):LJ:=letters (ws.map (·.2))
def Kr {a:LW}(h:SpOk a):(LL a).length<=216:=Fj (λc b=>by
  let{x,d,rfl}:=bE.mp b;show(h.cnt x d).2) (by rw[aC];show h.hi)
def X5 {a:LW}(h:SpOk a){x:Str}{p c:Nat}{v:Int}(lk:look a x=KE (p,c))(e:0<=v)(f:v<(c:Int)):Can (LL a) p v:=by
 have i:=Kr h;let{k,e0,b,_}:=Bu lk;rw[gB]at e0;subst e0;have j:p<a.length:=(bZ.mp b).1;show{g8 _,(),λl d=>?_};have g:=(dt _).wide l d;rw[aC]at g;have:=h.hi;show{(),(),xq d (by rw[aW,b,Option.map_some]) e f}
def Say.W (c:LW):Say->Nat->Nat->Rl
 | .nought=>λ_ _ _ _=>False
 | .every=>λ_ _ i j=>j=i
 | .note=>ox
 | .is f v=>λ_ _=>match look c f with | some (p,_)=>isR (LL c) p v | none=>λ_ _=>False
 | .put f v=>λ_ _=>match look c f with | some (p,_)=>xo (LL c) p v | none=>λ_ _=>False
 | .no s=>λ_ _=>Xs (LL c).length (s.W c 0 0)
 | .again s=>jm (LL c).length (s.W c)
 | .either a b=>gg (LL c).length (a.rm+1) (a.W c) (b.W c)
 | .both a b=>k9 (LL c).length (a.rm+1) (a.W c) (b.W c)
abbrev Hh (ws:LW)(s:Say)(d:Tr):Prop:=qo (LL ws).length (s.rm+1) (s.W ws) d
def Say.lone:Say->Bool
 | .nought=>MT | .every=>MT | .is _ _=>MT | .put _ _=>MT
 |_=>MU
def ifN {c:Bool}{P Q:Prop}(h:c=MU)(q:Q):if c=MT then P else Q:=by rw[M' (by rw[h];decide)];show q
def ifY {c:Bool}{P Q:Prop}(h:c=MT)(p:P):if c=MT then P else Q:=by rw[MZ h];show p
def tE (k:Fin 9):decide (V.str (gy k)=V.str "either")=decide (k=7):=(⋯:∀k:Fin 9,decide (V.str (gy k)=V.str "either")=decide (k=7)) k
def tB (k:Fin 9):decide (V.str (gy k)=V.str "then")=decide (k=8):=(⋯:∀k:Fin 9,decide (V.str (gy k)=V.str "then")=decide (k=8)) k
def tA (k:Fin 9):decide (V.str (gy k)=V.str "again")=decide (k=6):=(⋯:∀k:Fin 9,decide (V.str (gy k)=V.str "again")=decide (k=6)) k
def tN (k:Fin 9):decide (V.str (gy k)=V.str "not")=decide (k=5):=(⋯:∀k:Fin 9,decide (V.str (gy k)=V.str "not")=decide (k=5)) k
def tO (k:Fin 9):decide (V.str (gy k)=V.str "note")=decide (k=2):=(⋯:∀k:Fin 9,decide (V.str (gy k)=V.str "note")=decide (k=2)) k
def tZ (k:Fin 9):decide (V.str (gy k)=V.str "none")=decide (k=0):=(⋯:∀k:Fin 9,decide (V.str (gy k)=V.str "none")=decide (k=0)) k
def tL (k:Fin 9):decide (V.str (gy k)=V.str "all")=decide (k=1):=(⋯:∀k:Fin 9,decide (V.str (gy k)=V.str "all")=decide (k=1)) k
def tI' (k:Fin 9):decide (V.str (gy k)=V.str "is")=decide (k=3):=(⋯:∀k:Fin 9,decide (V.str (gy k)=V.str "is")=decide (k=3)) k
def sfN {c:Bool}{P Q:Prop}(h:c=MU)(q:Q):if (if MU=MT then !c else c)=MT then P else Q:=by subst h;rw[M' #v[]];show q
def sfY {c:Bool}{P Q:Prop}(h:c=MT)(p:P):if (if MU=MT then !c else c)=MT then P else Q:=by subst h;rw[MZ #v[]];show p
def Dj:GS:=(ak (sIf (gT (gOp (eqG MU) (gX (aa 2) (gI 0)) (gS "none"))) (bc (ar 1 qb (gA1 (gCB ja (gaE (aa 1) gaN))))) cy) (ak (sIf (gT (gOp (eqG MU) (gX (aa 2) (gI 0)) (gS "all"))) (bc (ar 1 m9 (gA1 (gCB ja (gaE (aa 1) gaN))))) cy) (ak (ax 3 (ar 3 uv (gaV (aa 0) (gaV (gX (aa 2) (gI 1)) (gA1 (gX (aa 2) (gI 2))))))) (ak (sIf (gT (gOp (eqG MU) (gX (aa 2) (gI 0)) (gS "is"))) (bc (ar 3 ug (gaV (aa 1) (gaV (aa 3) (gA1 (gX (aa 2) (gI 2))))))) cy) (bc (ar 3 so (gaV (aa 1) (gaV (aa 3) (gA1 (gX (aa 2) (gI 2)))))))))))
def o9:GP:=λds R=>∃(a:LW)(s:Say),ds=[spT a,ltT (LL a),s.t]/\SpOk a/\s.lone=MT/\s.own a/\Df (LL a).length (s.W a 0 0) R
def Dk:Pm (Dj) 4 1 3 (o9):=by
 intro ds R i h;let{a,s,rfl,ok,lo,e,q}:=h;have le:=Kr ok;have g:((LL a).map tI).length=(LL a).length:=aC ..;rw[s.t_eq];cases s with
 |nought=>
  show{rfl,?_};show sfY ((tZ _).trans rfl) ?_;show{rfl,(LL a).length,?_,(),q};rw[<-g]
 |every=>
  show{rfl,?_};show sfN ((tZ _).trans rfl) ?_;show{rfl,?_};show sfY ((tL _).trans rfl) ?_;show{rfl,(LL a).length,?_,(),q};rw[<-g]
 |is f v=>
  let{p,c,l,b,d}:=e;dsimp only[Say.W]at q;rw[l]at q;show{rfl,?_};show sfN ((tZ _).trans rfl) ?_;show{rfl,?_};show sfN ((tL _).trans rfl) ?_;dsimp only[Say.rest];show{rfl,a,f,v,p,c,rfl,l,b,d,?_};show{rfl,?_};show sfY ((tI' _).trans rfl) ?_;dsimp only[Say.rest];show{rfl,LL a,p,v,rfl,X5 ok l b d,q}
 |put f v=>
  let{p,c,l,b,d}:=e;dsimp only[Say.W]at q;rw[l]at q;show{rfl,?_};show sfN ((tZ _).trans rfl) ?_;show{rfl,?_};show sfN ((tL _).trans rfl) ?_;dsimp only[Say.rest];show{rfl,a,f,v,p,c,rfl,l,b,d,?_};show{rfl,?_};show sfN ((tI' _).trans rfl) ?_;dsimp only[Say.rest];show{rfl,LL a,p,v,rfl,X5 ok l b d,q}
 |_=>cases lo
def Ow:GS:=(ak (ax 3 (ar 2 i3 (gaV (gX (aa 0) (gI 0)) (gA1 (aa 1))))) (ak (ax 4 (cu 2 [3] (Tt (gaV (gSl (aa 0) (goS (gI 1)) goN) (gA1 (gSl (aa 2) (goS (gI 1)) goN)))) (.tup [0,1]) dq (ar 2 oj (gaV (aa 0) (gA1 (ar 2 i3 (gaV (aa 2) (gA1 (aa 1))))))))) (bc (gOp c5 (gLst (gA1 (aa 3))) (aa 4)))))
def y4 (n:Nat)(a:Nat->Rl)(A:Rl)(b:Nat->Rl)(c:Nat):Rl:=if c=0 then k8 n (a 0) A else orR n (a c) (k8 n (k8 n (a 0) A) (b c))
def xr:GP:=λds R=>∃(n k:Nat)(a b:Nat->Rl) (A:Rl) (x y z:Tr),ds=[x,y,z]/\Ap n (k+1) a x/\RelT n A y/\Ap n (k+1) b z/\k<=300/\n<=300/\∀l,LstT (λc=>RelT n (y4 n a A b c)) (k+1) l->R (.new (.lst l))
def Ox:Pm (Ow) 5 1 3 (xr):=by
 intro ds R hl h;let{n,k,w,x,A,_,_,_,rfl,{r,rfl,f},{y,rfl,C},{m,rfl,h0},hk,g,q}:=h;let{_,D,n1,rfl,E}:=f.at (c:=0) ();have rl:=f.len;have G:=h0.len;have p:=f.tail;have s:=h0.tail;show bj (bt (i:=0) D) {rfl,n,n1,y,_,_,rfl,E,C,g,λne u=>?_};change cq _ _ _ _ _ _ _ (prs (dg r (KE 1) MS) (dg m (KE 1) MS)) _ _;rw[sj,sj];have pl:(prs (r.drop 1) (m.drop 1)).length=k:=(by rw[G1,p.len,s.len,sG]);show wx (P:=λc=>RelT n (y4 n w A x (c+1))) rfl () (λc d e Y H=>?_) (λbs j=>?_);{let{a,b,I,J,rfl}:=Lu e;let{L,rfl,N}:=p.get c a I;let{O,rfl,Q}:=s.get c b J;show{rfl,n,ne,O,_,_,rfl,u,Q,g,λT U=>{rfl,n,L,T,_,_,rfl,N,U,g,λn6 p6=>H _ {n6,rfl,?_}}};unfold y4;rw[M' ()];show p6};{rw[pl]at j;have bl:=j.len;show{bg rfl,?_};show{by change 1+bs.length<=_;lia,?_};show q _ ?_;rw[jY k 1];show LstT.append (k:=1) (l:=[iL ne]) (.one {ne,rfl,?_}) j λc d hc z=>?_;{unfold y4;rw[MZ rfl];show u};{rw[jY 1 c];show z}}
def Mq:GS:=(ak (ax 1 (ar 1 nv (gA1 (gX (gX (aa 0) (gI 0)) (gI 0))))) (ak (T8 2 1 1 [1,0] (giL (aa 0)) (.one 0) (ar 3 xr (gaV (aa 0) (gaV (aa 1) (gA1 (gX (aa 2) (gI 0))))))) (bc (aa 2))))
def vy:GP:=λds R=>∃(n k:Nat)(W:Nat->Nat->Rl) (x:Tr),ds=[x]/\qo n (k+1) W x/\k<=300/\n<=300/\∀d,qo n (k+1) (jm n W) d->R (.val d)
def jr {P:Nat->Tr->Prop}{k:Nat}{l:D2}(h:LstT P (k+1) l):∃d a,l=d::a/\P 0 d/\LstT (λc=>P (c+1)) k a:=by
 rcases l with _ | ⟨d,a⟩;{have:=h.len;simp at this};{show⟨d,a,rfl,h.get 0 d rfl,⟨by have:=h.len;simpa using this,λc x e=>h.get (c+1) x e⟩⟩}
def LstT.cons {P:Nat->Tr->Prop}{k:Nat}{d:Tr}{l:D2}(h:P 0 d)(h':LstT (λc=>P (c+1)) k l):LstT P (k+1) (d::l):=⟨by rw[aS,h'.len],λc x e=>by
  cases c with
  |zero=>cases e;show h
  |succ c=>show h'.get c x e⟩
def Mr:Pm (Mq) 3 1 1 (vy):=by
 intro ds R G h;let{n,k,W,_,rfl,hw,hk,a,q}:=h;let{l,rfl,b}:=id hw;let{_,e0,m,rfl,h0}:=b.at (c:=0) ();let{_,u,w,rfl,y}:=h0.at (c:=0) ();have H:=b.len;show bj (bt (i:=0) e0) (bj (bt (i:=0) u) {rfl,n,w,_,rfl,y,a,λf g=>?_});show{iC 2,?_};let{I,J,rfl,A,p}:=jr b;have l2:=p.len;show bj (bt (i:=0) e0) {rfl,n,k,W 0,W 0,_,_,_,_,rfl,A,#v[f,rfl,g],#v[m,rfl,h0],hk,a,λr j=>?_};let{L,N,rfl,O,C}:=jr j;show{rfl,?_};show wx (P:=λc=>Ap n (k+1) (y4 n (W (c+1)) (Star n (W 0 0)) (W 0))) rfl () (λc d e Y D=>?_) (λbs s=>?_);{show bj (bt (i:=0) e0) {rfl,n,k,W (c+1),W 0,_,_,_,_,rfl,p.get c d e,#v[f,rfl,g],#v[m,rfl,h0],hk,a,λr j=>D _ #v[r,rfl,j]}};{show q _ {_,rfl,?_};rw[l2]at s;show LstT.cons {_,rfl,LstT.cons {f,rfl,?_} (C.imp λc d _ z=>z.eq ?_)} (s.imp λr d _ z=>?_);{show g};{unfold y4 jm;rw[M' (),M' ()]};{let{x,rfl,E}:=z;show{x,rfl,E.imp λc d _ z=>z.eq ?_};unfold y4 jm;by_cases h:c=0;{rw[MZ h,MZ h,M' ()]};{rw[M' h,M' h]}}}
def Hi:GS:=(ak (sIf (gT (gOp (eqG MU) (gX (aa 2) (gI 0)) (gS "either"))) (bc (ar 2 uf (gaV (gX (aa 3) (gI 0)) (gA1 (gX (aa 3) (gI 1)))))) cy) (ak (sIf (gT (gOp (eqG MU) (gX (aa 2) (gI 0)) (gS "then"))) (bc (ar 2 xn (gaV (gX (aa 3) (gI 0)) (gA1 (gX (aa 3) (gI 1)))))) cy) (ak (sIf (gT (gOp (eqG MU) (gX (aa 2) (gI 0)) (gS "again"))) (bc (ar 1 vy (gA1 (gX (aa 3) (gI 0))))) cy) (ak (sIf (gT (gOp (eqG MU) (gX (aa 2) (gI 0)) (gS "not"))) (bc (gLst (gA1 (gLst (gA1 (ar 1 qm (gA1 (gX (gX (gX (aa 3) (gI 0)) (gI 0)) (gI 0))))))))) cy) (ak (sIf (gT (gOp (eqG MU) (gX (aa 2) (gI 0)) (gS "note"))) (bc (ar 1 xl (gA1 (gCB ja (gaE (aa 1) gaN))))) cy) (bc (gLst (gA1 (gLst (gA1 (ar 3 o9 (gaV (aa 0) (gaV (aa 1) (gA1 (aa 2)))))))))))))))
def ng:GP:=λds R=>∃(a:LW)(s:Say) (l:D2),ds=[spT a,ltT (LL a),s.t,.lst l]/\SpOk a/\s.own a/\s.rm<=300/\LstT (λc d=>∃y,s.kids[c]?=KE y/\Hh a y d) s.kids.length l/\∀d,Hh a s d->R (.new d)/\R (.val d)
def Hj:Pm (Hi) 4 1 4 (ng):=by
 intro ds R G h;let{m,s,l,rfl,ok,u,rm,f,q}:=h;have le:=Kr ok;have w:((LL m).map tI).length=(LL m).length:=aC ..;rw[s.t_eq];have j:=λd hd=>(q d hd).1;have A:=λd hd=>(q d hd).2;clear q;cases s with
 |either a b=>
  let{x,l,rfl,{_,e,g},f}:=jr (k:=1) f;cases e;let{y,l,rfl,{_,e,n},f}:=jr (k:=0) f;cases e;show{rfl,?_};show sfY ((tE _).trans rfl) ?_;show ix0 (ix1 {rfl,_,_,_,_,_,x,y,rfl,g,n,rm,(),j})
 |both a b=>
  let{x,l,rfl,{_,e,g},f}:=jr (k:=1) f;cases e;let{y,l,rfl,{_,e,n},f}:=jr (k:=0) f;cases e;show{rfl,?_};show sfN ((tE _).trans rfl) ?_;show{rfl,?_};show sfY ((tB _).trans rfl) ?_;show ix0 (ix1 {rfl,_,_,_,_,_,x,y,rfl,g,n,rm,(),j})
 |again a=>
  let{x,l,rfl,{_,e,g},f}:=jr (k:=0) f;cases e;show{rfl,?_};show sfN ((tE _).trans rfl) ?_;show{rfl,?_};show sfN ((tB _).trans rfl) ?_;show{rfl,?_};show sfY ((tA _).trans rfl) ?_;show ix0 {rfl,_,_,_,x,rfl,g,rm,(),A}
 |no a=>
  let{x,l,rfl,{_,e,g},f}:=jr (k:=0) f;cases e;show{rfl,?_};show sfN ((tE _).trans rfl) ?_;show{rfl,?_};show sfN ((tB _).trans rfl) ?_;show{rfl,?_};show sfN ((tA _).trans rfl) ?_;show{rfl,?_};show sfY ((tN _).trans rfl) ?_;let{xs,rfl,p}:=g;let{_,e0,H,rfl,h0}:=p.at (c:=0) ();let{_,C,D,rfl,E}:=h0.at (c:=0) ();show ix0 (bj (bt (i:=0) e0) (bj (bt (i:=0) C) {rfl,_,D,_,rfl,E,(),λo r=>{bg rfl,bg rfl,j _ {_,rfl,.one {_,rfl,.one #v[o,rfl,r]}}}}))
 |note=>
  show{rfl,?_};show sfN ((tE _).trans rfl) ?_;show{rfl,?_};show sfN ((tB _).trans rfl) ?_;show{rfl,?_};show sfN ((tA _).trans rfl) ?_;show{rfl,?_};show sfN ((tN _).trans rfl) ?_;show{rfl,?_};show sfY ((tO _).trans rfl) ?_;show{rfl,(LL m).length,?_,(),j};rw[<-w]
 |_=>
  show{rfl,?_};show sfN ((tE _).trans rfl) ?_;show{rfl,?_};show sfN ((tB _).trans rfl) ?_;show{rfl,?_};show sfN ((tA _).trans rfl) ?_;show{rfl,?_};show sfN ((tN _).trans rfl) ?_;show{rfl,?_};show sfN ((tO _).trans rfl) ?_;show{rfl,m,_,NG (λz=>[_,_,z]) (Say.t_eq _).symm,ok,rfl,u,λo r=>{bg rfl,bg rfl,j _ {_,rfl,.one {_,rfl,.one #v[o,rfl,r]}}}}
def X6:GS:=(ak (ic 3 0 (gLst gaN)) (ak (c8 [4,5] (giV (gA1 (ar 1 qq (gA1 (aa 2))))) (.one 4) (ak (ax 5 (cu 1 [3] (giT (ar 1 t9 (gA1 (aa 4)))) (.one 0) dq (gMc "list" 1 Ak gaN))) (gc (xk 3 (ar 4 ng (gaV (aa 0) (gaV (aa 1) (gaV (aa 4) (gA1 (aa 5)))))))))) (bc (gMc "list" 3 Ak gaN))))
theorem pops (b:ou loc [3]=[KE (.c 1)])(e:∀st,i6 [MS,KE (.lst st)] loc=MT):∀(ks its a st:D2),its.length=ks.length->a.length+ks.length<=1000000->Q (a++ks) {loc,[MS,KE (.lst st)]}->cq 1 [3] (.one 0) dq (gMc "list" 1 Ak gaN) loc Q its a [MS,KE (.lst (st++ks.reverse))]
 | [],[],a,st,_,_,q=>by
  rw[bP]at q;rw[lB,bP];show q
 |k::ks,d::its,a,st,f,g,q=>by
  rw[aS]at g;rw[kJ,<-dX];show{(),?_};rw[b];show{rfl,bj (x:=k) jK ?_};show{e _,?_};have i:((st++ks.reverse)++[k]).dropLast=st++ks.reverse:=kP;change cq _ _ _ _ _ _ _ _ _ [MS,KE (.lst (((st++ks.reverse)++[k]).dropLast))];rw[i];show pops b e ks its (a++[k]) st (⇑f) (by rw[aH,dR];lia) ?_;rw[dX];show q
 | [],_::_,_,_,h,_,_=>by cases h
 |_::_,[],_,_,h,_,_=>by cases h
theorem Say.isT_rm:∀s:Say,s.isT=MT->s.rm=0
 | .nought,_ | .every,_ | .is _ _,_ | .no _,_=>rfl
 | .either a b,h=>by
  simp only[Say.isT,eG]at h;simp only[Say.rm,a.isT_rm h.1,b.isT_rm h.2]
 | .both a b,h=>by
  simp only[Say.isT,eG]at h;simp only[Say.rm,a.isT_rm h.1,b.isT_rm h.2]
 | .note,h | .put _ _,h | .again _,h=>by cases h
def As:GP:=λds R=>∃(a:LW)(s:Say),ds=[spT a,ltT (LL a),s.t]/\SpOk a/\s.size<=1000/\s.good a/\s.rm<=300/\∀d,Hh a s d->R (.val d)
abbrev woM (ws:LW)(s:Say)(st:D2):M:={[KE (.v (spT ws)),KE (.v (ltT (LL ws))),KE (.v s.t),KE (.c 1),MS,MS],[MS,KE (.lst st)]}
abbrev woB:GS:=(ak (ax 5 (cu 1 [3] (giT (ar 1 t9 (gaV (aa 4) gaN))) (.one 0) dq (gMc "list" 1 Ak gaN))) (gc (xk 3 (ar 4 ng (gaV (aa 0) (gaV (aa 1) (gaV (aa 4) (gaV (aa 5) gaN))))))))
def nh {s0 x:Say}{ks st rest:D2}(ok:SpOk a)(e:x.own a)(rm:x.rm<=300)(hk:LstT (λc d=>∃y,x.kids[c]?=KE y/\Hh a y d) x.kids.length ks)(b:st.length<1000000)
  (h:∀d,Hh a x d->dh [4,5] (.one 4) woB E rest (woM a s0 (st++[d]))):dh [4,5] (.one 4) woB E (x.t::rest) (woM a s0 (st++ks.reverse)):=by
 have f:=hk.len;have k2:x.kids.length<=2:=(by cases x<;>simp[Say.kids]);show{rfl,x,rfl,?_};show pops rfl (λ_=>rfl) ks _ [] st (by rw[aC];show f.symm) (by change 0+_<=_;lia) ?_;show{rfl,rfl,a,x,ks,rfl,ok,e,rm,hk,λd hd=>{{b,h d hd},{b,h d hd}}}
theorem vz {i:LW}{s0:Say}{E:wt}(ok:SpOk i):∀(s:Say)(st rest:D2),s.good i->s.rm<=300->st.length+s.size<100000->(∀d,Hh i s d->dh [4,5] (.one 4) woB E rest (woM i s0 (st++[d])))->dh [4,5] (.one 4) woB E ((s.parts.map Say.t).reverse++rest) (woM i s0 st)
 | .either a b,st,rest,g,rm,c,h=>by
  have e:((Say.either a b).parts.map Say.t).reverse++rest=(b.parts.map Say.t).reverse++((a.parts.map Say.t).reverse++((Say.either a b).t::rest)):=(by simp[Say.parts]);have ga:a.good i:=λx j=>g x (aP _ (gF _ j));have n:b.good i:=λx j=>g x (aP _ (cG _ j));have u:a.rm+b.rm<=300:=rm;have p:st.length+(a.size+b.size+1)<100000:=c;rw[e];show vz ok b st _ n () () λq r=>vz ok a _ _ ga () (by rw[aH,dR];have:=b.size_pos;lia) λl m=>?_;rw[dX];show nh (ks:=[l,q]) ok (g _ aR) rm (.cons #v[a,rfl,m] (.cons #v[b,rfl,r] .nil)) () h
 | .both a b,st,rest,g,rm,c,h=>by
  have e:((Say.both a b).parts.map Say.t).reverse++rest=(b.parts.map Say.t).reverse++((a.parts.map Say.t).reverse++((Say.both a b).t::rest)):=(by simp[Say.parts]);have ga:a.good i:=λx j=>g x (aP _ (gF _ j));have n:b.good i:=λx j=>g x (aP _ (cG _ j));have u:a.rm+b.rm<=300:=rm;have p:st.length+(a.size+b.size+1)<100000:=c;rw[e];show vz ok b st _ n () () λq r=>vz ok a _ _ ga () (by rw[aH,dR];have:=b.size_pos;lia) λl m=>?_;rw[dX];show nh (ks:=[l,q]) ok (g _ aR) rm (.cons #v[a,rfl,m] (.cons #v[b,rfl,r] .nil)) () h
 | .again a,st,rest,g,rm,c,h=>by
  have e:((Say.again a).parts.map Say.t).reverse++rest=(a.parts.map Say.t).reverse++((Say.again a).t::rest):=(by simp[Say.parts]);have ga:a.good i:=λx j=>g x (aP _ j);have p:st.length+(a.size+1)<100000:=c;rw[e];show vz ok a st _ ga rm () λl m=>?_;show nh (ks:=[l]) ok (g _ aR) rm (.cons #v[a,rfl,m] .nil) () h
 | .no a,st,rest,g,rm,c,h=>by
  have e:((Say.no a).parts.map Say.t).reverse++rest=(a.parts.map Say.t).reverse++((Say.no a).t::rest):=(by simp[Say.parts]);have ga:a.good i:=λx j=>g x (aP _ j);have p:st.length+(a.size+1)<100000:=c;have it:a.isT=MT:=g _ aR;rw[e];show vz ok a st _ ga (by rw[a.isT_rm it];lia) () λl m=>?_;show nh (ks:=[l]) ok (g _ aR) rm (.cons #v[a,rfl,m] .nil) () h
 | .nought,st,rest,g,rm,c,h=>by
  have w:=nh (ks:=[]) (st:=st) ok (g _ aR) rm .nil () h
  rwa [lB,bP]at w
 | .every,st,rest,g,rm,c,h=>by
  have w:=nh (ks:=[]) (st:=st) ok (g _ aR) rm .nil () h
  rwa [lB,bP]at w
 | .note,st,rest,g,rm,c,h=>by
  have w:=nh (ks:=[]) (st:=st) ok (g _ aR) rm .nil () h
  rwa [lB,bP]at w
 | .is f v,st,rest,g,rm,c,h=>by
  have w:=nh (ks:=[]) (st:=st) ok (g _ aR) rm .nil () h
  rwa [lB,bP]at w
 | .put f v,st,rest,g,rm,c,h=>by
  have w:=nh (ks:=[]) (st:=st) ok (g _ aR) rm .nil () h
  rwa [lB,bP]at w
def X7:Pm (X6) 6 2 3 (As):=by
 intro ds R c h;let{e,s,rfl,ok,a,b,rm,q}:=h;show{bg rfl,?_};show{rfl,s,rfl,a,?_};have w:=vz (s0:=s) (E:={nx:=bc (gMc "list" 3 Ak gaN) {nx:=λm=>R (.val (.v .non)),rt:=Am R},rt:=Am R}) ok s [] [] b rm (by change 0+_<_;lia) (λd hd=>by
   show{rfl,q d hd})
 rw[bP]at w;show w
end PB
namespace VL
open PySem L2 PySem.Deep PySem.SeqAt
open PyProof.Rows (envOfC)
structure Md (K:aE)(C:MV)(m wF:Str)(st:MY)(ps:AZ)(f:MV)(fd:gG):Prop where
 fn:Fun K m wF st f fd
 cl:Cls K C
 mt:Kz K C m f
 bd:Binds K fd ps []
structure Cd (K:aE)(mg:Str->AK)(x m wF:Str)(st:MY)(ps:AZ)(cR f:MV)(fd:gG):Prop where
 fn:Fun K m wF st f fd
 cm:Z3 K cR m f
 at_:mg x=KE (.ref cR)
 bd:Binds K fd ps []
structure Kd (K:aE)(mg:Str->AK)(x wF:Str)(st:MY)(ps:AZ)(C f:MV)(fd:gG):Prop where
 fn:Fun K "__init__" wF st f fd
 mk_:Mk K C f
 at_:mg x=KE (.ref C)
 bd:Binds K fd ps []
structure Co (P:aQ)(w:bC)(K:aE)(mg:Str->AK)(base:MW)(k:Nat)(x m:Str)(ps:AZ)(sp:Sp):Prop where
 ex:∃C f fd,Z3 K C m f/\fq P w K mg base CX0 k f fd ps sp/\mg x=KE (.ref C)/\Binds K fd ps []
section
variable {P:aQ}{w:bC}{K:aE}{mg:Str->AK}{base:MW}{X:Cx}
def vcm (F:Co X.p X.w X.K X.mg X.base m x i ps (spR X.B n q g))(r:Room k X.A)(s:VA X (e::d) ga)(hk:↑(m<=k))(u:↥(Gl X x))
  (y:↑((x==("__debug__":Str))=MU)) (z:↥(aO (e::d) X.e=(MU,eval e X.e)::aO d X.e)) (D:↥((eE pos (aO d X.e)).any (·.1)=MU))
  (E:eval (.Call (.Attribute (.Name x p) i j) (e::d) [] pos) X.e=(do
    let l <-eval (.Name x p) X.e
    mL j.atName
    let (f,first) <-jF [l] (mW l i pl)
    qO pos f first (eE pos (aO (e::d) X.e)) (mG pos (jH [] X.e))):=by rfl) :
  VE X (.Call (.Attribute (.Name x p) i j) (e::d) [] pos) (iz n q g ga):=by
 show#v[?_];let{C,f,fd,c,F,a,b}:=F;show PE.sub (Z4 (pl:=pl) c F (r.mono hk) u a b .nil yq s.out y z D E) λG H Q h=>Fe h
def vfm (F:Md K C x a st ps f fd)(S:cz N ps (bb st))
  (b:Rdx P w K mg base N a st f k g)
  (c:Pm g N.length nc ps.length d):Mo P w K mg base (k+1) C x ps (spP #v[P,w,K] ps.length d):=
 {F.cl,f,fd,fn_g F.fn S b c,F.mt,F.bd}
def vfc (F:Cd K mg y x a st ps b f fd)(S:cz N ps (bb st))
  (c:Rdx P w K mg base N a st f k g)
  (d:Pr p g N.length nc ps.length e):Co P w K mg base (k+1) y x ps (spR #v[P,w,K] ps.length p e):=
 {b,f,fd,F.cm,fn_r F.fn S c d,F.at_,F.bd}
def vfk (F:Kd K mg y a st ps C f fd)(S:cz N ps (bb st))
  (b:Rdx P w K mg base N a st f k g)
  (c:Pr p g N.length nc ps.length d):Ko P w K mg base (k+1) y C ps (spR #v[P,w,K] ps.length p d):=
 {f,fd,F.mk_,fn_r F.fn S b c,F.at_,F.bd}
end
end VL
namespace PB
open PySem L2 VL Bits S1
def Jx:GS:=(ak (ic 2 0 (gLst gaN)) (ak (c8 [3] (giL (aa 0)) (.one 3) (gc (gMc "list" 2 pq (gaE (cu 1 [3] (giR (gA1 (aa 1))) (.one 0) dq (gOp c5 (aa 1) (gTup (gA1 (aa 0))))) gaN)))) (bc (aa 2))))
def um:GP:=λds R=>∃(ls:LJ)(n:Nat),ds=[ltT ls,.v (.int n)]/\ls.length<=1000/\n<=100/\(∀l∈ls,l.length<=100)/\R (.new (ltT (longer ls n)))
def Jy:Pm (Jx) 4 2 2 (um):=by
 intro ds R a h;let{ls,n,rfl,b,d,f,q}:=h;show{bg rfl,?_};show de (I:=λi=>{[KE (.v (ltT ls)),KE (.v (.v (.int n))),KE (.c 1),MS],[MS,KE (.lst ((longer (ls.take i) n).map tI))]}) rfl (λi l N a hN=>?_) ?_
 ·have lm:=f l (aU a);show{rfl,by change(-1000000:Int)<=(n:Int);lia,by change(n:Int)<=1000000;lia,?_};change cq _ _ _ _ _ _ _ (fk 0 n) _ _;rw[e8];show c7 (out:=λv:Nat=>tI (l++[(v:Int)])) rfl _ _ (by simp;lia) (λv j Y g=>?_) ?_;{show{by change 1<=1000000;lia,by change(l.map _).length+1<=1000000;simp;lia,?_};change Y (.tup (l.map _++[_])) _;have e:tI (l++[(v:Int)])=.tup (l.map (λn=>Tr.v (.int n))++[.v (.int v)]):=(by simp[tI]);rw[<-e];show g}
  ·have e:longer (ls.take (i+1)) n=longer (ls.take i) n++(bG n).map λv:Nat=>l++[(v:Int)]:=by
    unfold longer;rw[cH,a];simp
   have m:(longer (ls.take i) n).length<=100000:=by
    rw[ue,cK];show aV (oN (aV (rX _ _) b) d) #v[]
   show{?_,?_};{rw[bR,aC,aC,bM];lia};{show cast (NG N ?_) hN;rw[e,bT,dG];rfl}
 ·change R _;rw[cW];show q
def Ms:GS:=(ak (ax 1 (gLst (gA1 (gTup gaN)))) (ak (c8 [2] (giT (aa 0)) (.one 2) (ax 1 (ar 2 um (gaV (aa 1) (gA1 (gX (aa 2) (gI 1))))))) (bc (aa 1))))
def v7:GP:=λds R=>∃a:LW,ds=[spT a]/\SpOk a/\R (.val (ltT (LL a)))
def Jh (a:LJ)(cs:AQ)(c:Nat):ip a (cs++[c])=longer (ip a cs) c:=by unfold ip;rw[mI];rfl
theorem SpOk.take (h:SpOk a)(i:Nat):(letters ((a.take i).map (·.2))).length<=216:=Fj (λc b=>by
  let{x,d,rfl}:=bE.mp b;show(h.cnt x (qI d)).2) (by rw[aC,cK];have:=h.hi;lia)
def Mt:Pm (Ms) 3 1 1 (v7):=by
 intro ds R b h;let{a,rfl,ok,q}:=h;show{bg rfl,bg rfl,?_};show de (I:=λi=>{[KE (.v (spT a)),KE (.v (ltT (letters ((a.take i).map (·.2))))),MS],[MS]}) rfl (λi x N c hN=>?_) ?_;{have d:=ok.cnt x (aU c);have e:=ok.hi;show⟨rfl,letters ((a.take i).map (·.2)),x.2,rfl,by have:=ok.take i;lia,(),λl b=>?_,?_⟩;{rw[(dt _).wide l b,aC,cK];lia};{show cast (NG N ?_) hN;rw[cH,c];change({[_,KE (.v (ltT (letters ((a.take i++[x]).map (·.2))))),_],_}:M)=_;rw[bT];unfold letters;rw[bV,mR,Jh];rfl}};{change R _;rw[cW];show q}
def w8 (C:MV)(ls:LJ)(k:Nat)(W:Nat->Nat->Rl)(d:Tr):Prop:=∃x,d=.obj C ZZ [ltT ls,x]/\qo ls.length (k+1) W x
def Oy (C:MV):GS:=(ak (Tz C 0 "letters" (aa 1)) (Tz C 0 "ways" (aa 2)))
def xt (C:MV):GR:=λds d R=>∃x y,ds=[x,y]/\d=.obj C [] []/\R (.val (.v .non)) (.obj C ZZ [x,y])
def Oz:Pr 0 (Oy C) 3 0 3 (xt C):=by
 intro ds d R a h;let{x,y,rfl,rfl,q}:=h;show{rfl,rfl,#v[],rfl,rfl,#v[],q}
def MskT (n:Nat)(T:Nat->Nat->Prop)(c:Nat)(d:Tr):Prop:=∃m,d=.v (.int m)/\MaskP n m (T c)
def lg (W:Nat->Nat->Rl)(a:AQ)(i:Nat)(c j:Nat):Prop:=∃r,r∈a/\W r c i j
abbrev rmT (rs:AQ):Tr:=.tup (rs.map λ(r:Nat)=>Tr.v (.int (r:Int)))
def Ask (C:MV)(ls:LJ)(k:Nat)(W:Nat->Nat->Rl)(m:Tr)(a:AQ)(l:LQ):Prop:=w8 C ls k W m/\(∀r∈a,r<k+1)/\l∈ls/\ls.length<=300/\k<=300
def B3 (C:MV):GS:=(ak (ax 3 (gMt "list" E6 (Ao C "letters" (aa 0)) (gaE (aa 2) gaN))) (ak (ax 4 (gOp ud (gLst (gA1 (gI 0))) (gCB ja (gaE (Ao C "ways" (aa 0)) gaN)))) (ak (c8 [5] (giT (aa 1)) (.one 5) (ax 4 (cu 2 [3] (Tt (gaV (aa 4) (gA1 (gX (Ao C "ways" (aa 0)) (aa 5))))) (.tup [0,1]) dq (gOp (dw λi j=>.int (eI i j)) (aa 0) (gX (aa 1) (aa 2)))))) (bc (aa 4)))))
def jh (C:MV):GP:=λds R=>∃ls k W m a l,ds=[m,rmT a,tI l]/\Ask C ls k W m a l/\∀x,LstT (MskT ls.length (lg W a (ls.idxOf l))) (k+1) x->R (.val (.lst x))
def B4 {C:MV}:Pm (B3 C) 6 1 3 (jh C):=by
 intro ds R hl h;let{ls,k,W,_,s,l,rfl,{{x,rfl,J},L,w,hn,hk},q}:=h;let{f,rfl,hw}:=J;have O:=hw.len;have Q:ls.idxOf l<ls.length:=cM.mpr w;show{rfl,rfl,ls,l,rfl,rfl,w,?_};show{bg rfl,rfl,by change(-1000000:Int)<=(f.length:Int);lia,by change(f.length:Int)<=1000000;lia,by change 1*((f.length:Int)).toNat<=1000000;lia,?_};show jk (I:=λi m=>∃y,m={[KE (.v (.obj C ZZ [ltT ls,.lst f])),KE (.v (rmT s)),KE (.v (tI l)),KE (.v (.v (.int (ls.idxOf l)))),KE (.v (.lst y)),MS],[MS]}/\LstT (MskT ls.length (lg W (s.take i) (ls.idxOf l))) (k+1) y) {_,rfl,?_} ?_ ?_;{rw[G9,bQ,O];show LstT.rep _ λc _=>⟨0,rfl,(jx _).iff λj _=>⟨λz=>z.elim,λT=>by let{_,z,_}:=T;show by simp at z⟩⟩};{intro i r m N A g hN;let{y,rfl,n}:=g;have U:=n.len;let{_,ey,D,rfl,hz}:=hw.at (L r (aU A));have zl:=hz.len;show{rfl,bj (x:=.lst f) rfl (bj (bt ey) ?_)};change cq _ _ _ _ _ _ _ (prs y D) _ _;have pl:(prs y D).length=k+1:=(by rw[G1,U,zl,sG]);show wx (P:=MskT ls.length (lg W (s.take (i+1)) (ls.idxOf l))) rfl () (λc d e Y hY=>?_) (λbs E=>?_);{let{a,b,ea,eb,rfl}:=Lu e;let{m1,rfl,p1}:=n.get c a ea;let{n2,rfl,G}:=hz.get c b eb;have h2:ls.idxOf l<n2.length:=(by rw[G.1];show Q);have H:n2[ls.idxOf l]?=KE n2[ls.idxOf l]:=aB h2;show bj (x:=.v (.int n2[ls.idxOf l])) (bt (i:=ls.idxOf l) (by rw[aW,H];rfl)) (hY _ {_,rfl,(vt p1 (G.2 _ _ H)).iff λj _=>?_});unfold lg;rw[cH,A];constructor;{rintro(⟨u,z1,p⟩ | z);{show{u,gF _ z1,p}};{show{r,cG _ ∅,z}}};{intro g;let{u,z1,p}:=g;rcases dF.mp z1 with z1 | z1;{show .inl #v[u,z1,p]};{simp at z1;subst z1;show .inr p}}};{rw[pl]at E;show hN _ #v[bs,rfl,E]}};{intro m g;let{y,rfl,n}:=g;rw[cW]at n;show q y n}
def Dl (C:MV):GS:=(bc (ar 2 vv (gaV (Ao C "letters" (aa 0)) (gA1 (gX (ql C "masks_from" 3 (jh C) (aa 0) (gaV (aa 1) (gA1 (aa 2)))) (gI 0))))))
def jy (C:MV):GP:=λds R=>∃ls k W m a l,ds=[m,rmT a,tI l]/\Ask C ls k W m a l/\∀mk,MaskP ls.length mk (lg W a (ls.idxOf l) 0)->R (.new (ltT (dn mk ls ls.length)))
def Dm:Pm (Dl C) 3 1 3 (jy C):=by
 intro ds R g h;let{ls,k,W,_,d,l,rfl,a,q}:=h;let{x,rfl,j}:=id a.1;show{rfl,rfl,rfl,rfl,ls,k,W,_,d,l,rfl,a,λy f=>?_};let{_,e,mk,rfl,b}:=f.at (c:=0) ();show bj (bt (i:=0) e) {rfl,ls.length,mk,ls,rfl,b.1,a.2.2.2.1,q mk b}
def O0 (C:MV):GS:=(bc (ql C "ends_from" 3 (jy C) (aa 0) (gaV (gTup (gA1 (aa 1))) (gA1 (aa 2)))))
def xu (C:MV):GP:=λds R=>∃ls k W m r l,ds=[m,.v (.int (r:Nat)),tI l]/\Ask C ls k W m [r] l/\∀mk,MaskP ls.length mk (W r 0 (ls.idxOf l))->R (.new (ltT (dn mk ls ls.length)))
def O1 {C:MV}:Pm (O0 C) 3 1 3 (xu C):=by
 intro ds R c h;let{ls,k,W,_,r,l,rfl,a,q}:=h;let{x,rfl,d}:=id a.1;show{rfl,rfl,bg rfl,rfl,ls,k,W,_,[r],l,rfl,a,λmk b=>q mk (b.iff λj _=>?_)};unfold lg;simp
def Hk (C:MV):GS:=(ak (gc (ar 2 uk (gaV (aa 1) (gA1 (aa 2))))) (ak (ax 3 (ar 1 v7 (gA1 (aa 1)))) (gc (iz 3 0 (xt C) (gaE (aa 0) (gaV (aa 3) (gA1 (ar 3 As (gaV (aa 1) (gaV (aa 3) (gA1 (aa 2))))))))))))
def su (C:MV):GR:=λds d R=>∃a s,ds=[spT a,Say.t s]/\d=.obj C [] []/\SpOk a/\s.size<=1000/\s.good a/\s.rm<=300/\∀x,w8 C (LL a) s.rm (s.W a) x->R (.val (.v .non)) x
def Hl:Pr 0 (Hk C) 4 0 3 (su C):=by
 intro ds d R f h;let{a,s,rfl,rfl,ok,b,c,rm,q}:=h;show{rfl,a,s,rfl,b,c,?_};show{rfl,a,rfl,ok,?_};show{rfl,a,s,rfl,ok,b,c,rm,λx e=>?_};show{rfl,_,_,rfl,rfl,?_};show q _ #v[x,rfl,e]
theorem Dn:∀(n:Nat)(l m:LQ),cmpL n (l.map λx=>Tr.v (.int x)) (m.map λx=>Tr.v (.int x))=MT
 |_,[],_=>by cases (by assumption:Nat)<;>simp[cmpL]
 |_,_::_,[]=>by simp[cmpL]
 |n,x::l,y::m=>by
  rw[bV,bV,cmpL,Dn n l m];cases n<;>rfl
def abn {l m:LQ}:(l.map λx=>Tr.v (.int x))=(m.map λx=>Tr.v (.int x))↔l=m:={λh=>(List.map_inj_right (λa b z=>by cases z;rfl)).mp h,λh=>by rw[h]}
theorem Mu:∀(n:Nat)(l m:LJ),cmpL (n+1) (l.map tI) (m.map tI)=MT
 |_,[],_=>by simp[cmpL]
 |_,_::_,[]=>by simp[cmpL]
 |n,x::l,y::m=>by
  rw[bV,bV,cmpL,Mu n l m,pC];show Dn n x y
def X8 {c:Bool}{P Q:Prop}[Decidable Q](h:c=MT↔P)(e:P↔Q):c=decide Q:=by
 by_cases q:Q;{rw[NB q];show h.mpr (e.mpr q)}
 ·rw[NA q];cases c with
  |false=>rfl
  |true=>show NC (e.mp (h.mp rfl)) q
theorem Bv {c:Type}{f:c->Tr}{n:Nat}(h:∀a b,iy n (f a) (f b)=MT):∀(l m:List c),cmpL n (l.map f) (m.map f)=MT
 | [],_=>by simp[cmpL]
 |_::_,[]=>by simp[cmpL]
 |x::l,y::m=>by rw[bV,bV,cmpL,h,Bv h l m];rfl
open Classical in
open Classical in
open Classical in
def abc:Str:="abcdefghijklmnopqrstuvwxyz"
def agv:abc.cps.toList.length=26:=by decide +kernel
def ly (a:Int)(h:0<m):0<=a % m/\a % m<m:={Int.emod_nonneg _ (Int.ne_of_gt h),Int.emod_lt_of_pos _ h}
def akq (h0:0<=v)(b:v<26):∃c,atI abc.cps.toList v=KE c:=by
 have hk:v.toNat<abc.cps.toList.length:=(by rw[agv];lia);have a:v=((v.toNat:Nat):Int):=();have q:atI abc.cps.toList ((v.toNat:Nat):Int)=KE abc.cps.toList[v.toNat]:=bt (aB hk);rw[<-a]at q;show{_,q}
structure Wds (ws:LW):Prop where
 nd:(ws.map (·.1)).Nodup
def Tail (a:Int)(b:Str)(d:LW):Prop:=∀(i:Nat)(w:Str×Nat),d[i]?=KE w->∃c,atI abc.cps.toList ((a+9*(i:Int)) % 26)=KE c/\w.1=#v[#[c]]++b
def abo {a:Int}:Tail a b []:=λi w h=>by cases h
def X9 {a:LW}(h:Tail d f a)(g:a.length=i)(e:atI abc.cps.toList ((d+9*(i:Int)) % 26)=KE c):Tail d f (a++[(#v[#[c]]++f,k)]):=λj w b=>by
 rcases Nat.lt_or_ge j a.length with z | z;{rw[cE z]at b;show h j w b}
 ·have l:j=a.length:=by
   have:=(bZ.mp b).1;rw[aH]at this;simp at this;lia
  subst l;rw[cQ (aI _),Nat.sub_self]at b;cases b;rw[g];show#v[c,e,rfl]
def agw (f:0<=v)(i:v<26)(j:0<=u)(l:u<26)(h:atI abc.cps.toList v=KE c)(g:atI abc.cps.toList u=KE c):v=u:=by
 have key:∀n:Nat,n<26->abc.cps.toList[n]?=KE (97+n):=⋯;have d:=key v.toNat ();have e:=key u.toNat ();have a:atI abc.cps.toList ((v.toNat:Nat):Int)=KE (97+v.toNat):=bt d;have b:atI abc.cps.toList ((u.toNat:Nat):Int)=KE (97+u.toNat):=bt e;rw[show((v.toNat:Nat):Int)=v by lia,h]at a;rw[show((u.toNat:Nat):Int)=u by lia,g]at b;have m:=bX a;have p:=bX b;lia
def abp (h:(#v[#[c]]++x:Str)=#v[#[d]]++x):c=d:=by
 have e:∀c:Nat,((⟨#[c]⟩:Str)++x).cps.toList=c::x.cps.toList:=λc=>by
  change(#[c]++x.cps).toList=_;simp
 have z:=NG (λs:Str=>s.cps.toList) h;simp only[e]at z;show(nJ z).1
def Tail.ok {ws:LW}(h:Tail fi tl ws)(l3:ws.length<=3)(f0:0<=fi)(f1:fi<26):Wds ws where
 nd:=by
  unfold List.Nodup;rw[List.pairwise_iff_getElem];intro i j hi hj hij;rw[aC]at hi hj;rw[List.getElem_map,List.getElem_map];let{c,ec,wc}:=h i _ (aB (show i<ws.length by lia));let{d,ed,wd}:=h j _ (aB hj);intro z;rw[wc,wd]at z;have:=abp z;subst this;have m1:=ly (fi+9*(i:Int)) (m:=26) #v[];have m2:=ly (fi+9*(j:Int)) (m:=26) #v[];have:=agw m1.1 m1.2 m2.1 m2.2 ec ed;lia
def prd:AQ->Nat
 | []=>1
 |c::cs=>c*prd cs
theorem Mv:∀cs k,prd (cs++[k])=prd cs*k
 | [],k=>by change k*1=1*k;lia
 |c::cs,k=>by change c*prd (cs++[k])=c*prd cs*k;rw[Mv cs k,uG]
def abq {cs:AQ}{k:Nat}{lf:Int}(h:(prd cs:Int)*lf<=24)(k1:1<=k)(b:0<=lf):(prd (cs++[k]):Int)*(lf / (k:Int))<=24:=by
 rw[Mv,Int.natCast_mul,Int.mul_assoc];have a:(k:Int)*(lf / (k:Int))<=lf:=Int.mul_ediv_self_le ();show uZ (Int.mul_le_mul_of_nonneg_left a (nV _)) h
abbrev iT (i:Int):Tr:=.v (.int i)
def O2:GS:=(ak (sIf (gT (gOp (dw λi j=>.bl (decide (i<j))) (aa 1) (gCB ja (gaE (aa 0) gaN)))) (bc (gX (aa 0) (aa 1))) cy) (bc (gI 0)))
def tu:GP:=λds R=>∃(ns:LQ)(k:Nat),ds=[.scr (ns.map iT),iT k]/\∀x:Int,R (.val (iT x))
def O3:Pm (O2) 2 1 2 (tu):=by
 intro ds R a h;let{ns,k,rfl,q}:=h;change if decide ((k:Int)<(((ns.map iT).length:Nat):Int))=MT then _ else _
 by_cases c:k<ns.length;{rw[MZ (by rw[aC];show NB ())];show bj (x:=iT ns[k]) (bt (by rw[aW,aB c];rfl)) (q _)};{rw[M' (by rw[aC,NA ()];decide)];show q 0}
def Mw:GS:=(ak (ax 1 (gOp (ib (λ_ j=>0<j) λi j=>.int (i % j)) (aa 0) (gI 2147483647))) (ak (ax 2 (gI 1)) (ak (c8 [3] (giR (gA1 (gI 16))) (.one 3) (ak (ax 1 (gOp (ib (λ_ j=>0<j) λi j=>.int (i % j)) (gOp c5 (gOp c5 (gOp c5 (gOp ud (aa 1) (aa 1)) (gOp ud (gOp ud (gI 48271) (aa 3)) (aa 3))) (aa 3)) (gI 3)) (gI 2147483629))) (ax 2 (gOp c5 (gOp ud (aa 2) (gI 2147483587)) (gOp (ib (λ_ j=>0<j) λi j=>.int (i % j)) (gOp ud (aa 1) (aa 1)) (gI 2147483587)))))) (ak (sIf (gT (gOp (eqG MU) (gOp (ib (λ_ j=>0<j) λi j=>.int (i % j)) (aa 0) (gI 2)) (gI 0))) (bc (gLst (gaV (gOp (ib Ky λi j=>.int (i / j)) (gCB absG (gaE (aa 0) gaN)) (gI 2)) (gA1 (aa 2))))) cy) (bc (gLst (gaV (gI 0) (gA1 (aa 2)))))))))
def qr:GP:=λds R=>∃n:Int,ds=[iT n]/\∀a b:Int,0<=a->0<=b->R (.new (.lst [iT a,iT b]))
def Mx:Pm (Mw) 4 1 1 (qr):=by
 intro ds R r h;let{n,rfl,q}:=h;have f:=ly n (m:=2147483647) #v[];show{by change(0:Int)<2147483647;decide,#v[],#v[],?_};change dh _ _ _ _ (fk 0 16) _;rw[e8];show jk (I:=λi m=>∃x y:Int,m={[KE (.v (iT n)),KE (.v (iT x)),KE (.v (iT y)),MS],[MS]}/\0<=x/\x<2147483647/\0<=y) {_,_,rfl,f.1,f.2,#v[]} ?_ ?_;{intro i k m N hk d hN;let{x,y,rfl,g,j,a}:=d;have hi:=bf hk;rw[bM]at hi;rw[cY hi]at hk;cases hk;have b:=ly (x*x+48271*(i:Int)*(i:Int)+(i:Int)+3) (m:=2147483629) #v[];have l:=ly ((x*x+48271*(i:Int)*(i:Int)+(i:Int)+3) % 2147483629*((x*x+48271*(i:Int)*(i:Int)+(i:Int)+3) % 2147483629)) (m:=2147483587) #v[];show{.inl {(),()},.inl {#v[],#v[]},.inr {(),()},by change(0:Int)<2147483629;decide,?_};show{.inr {#v[],#v[]},.inl {Int.lt_of_lt_of_le #v[] b.1,sI b.2 #v[]},by change(0:Int)<2147483587;decide,?_};show hN _ {_,_,rfl,b.1,sI b.2 #v[],?_};show Int.add_nonneg (Int.mul_nonneg a #v[]) l.1}
 ·intro m d;let{x,y,rfl,g,j,a}:=d;show{by change(0:Int)<2;decide,rfl,?_};have z:0<=(if n<0 then -n else n):=by split<;>lia
  have p:0<=(if n<0 then -n else n) / 2:=by lia
  by_cases c:n % 2=0;{show sfY (NB (show V.int (n % 2)=V.int 0 by rw[c])) ?_;show{{#v[],#v[]},bg rfl,q _ _ p a}};{show sfN (NA λe=>c (V.int.inj e)) ?_;show{bg rfl,q _ _ (Int.le_refl 0) a}}
def O4:GS:=(ak (ax 2 (gCB intG (gaE (gOp (eqG MU) (gX (aa 0) (gI 0)) (gI 0)) gaN))) (ak (ax 3 (gOp (ib (λ_ j=>0<j) λi j=>.int (i % j)) (gX (aa 0) (aa 2)) (aa 1))) (ak (Tw 0 (gOp (ib Ky λi j=>.int (i / j)) (gX (aa 0) (aa 2)) (aa 1)) (aa 2)) (bc (aa 3)))))
def My (a b:Int):Tr:=.lst [iT a,iT b]
def dz:GR:=λds d R=>∃m a b:Int,ds=[iT m]/\d=My a b/\0<=a/\0<=b/\0<m/\m<1073741824/\∀v c e:Int,0<=v->v<m->0<=c->0<=e->R (.val (iT v)) (My c e)
def O5:Pr 0 (O4) 4 0 2 (dz):=by
 intro ds d R l h;let{m,a,b,rfl,rfl,e,f,c,g,q}:=h;have i:=ly a c;have j:=ly b c;show{rfl,?_};generalize hk:decide (V.int a=V.int 0)=k;cases k with
 |true=>show{c,#v[c,g],q _ _ _ j.1 j.2 e (Int.ediv_nonneg f (Int.le_of_lt c))}
 |false=>show{c,#v[c,g],q _ _ _ i.1 i.2 (Int.ediv_nonneg e (Int.le_of_lt c)) f}
def adt {ns:LQ}(h0:0<=v)(b:v<(ns.length:Int)):∃x∈ns,atI (ns.map iT) v=KE (iT x):=by
 have hk:v.toNat<ns.length:=();have a:v=((v.toNat:Nat):Int):=();have q:atI (ns.map iT) ((v.toNat:Nat):Int)=KE (iT ns[v.toNat]):=bt (by rw[aW,aB hk];rfl);rw[<-a]at q;show{_,iH hk,q}
def akr (h0:0<=v)(a:v<8):(lU ("abcdefg":Str) MS (KE v)).length<=7:=by
 have z:v=0\/v=1\/v=2\/v=3\/v=4\/v=5\/v=6\/v=7:=();rcases z with z | z | z | z | z | z | z | z<;>subst z<;>decide +kernel
def uo:GP:=λds R=>∃n l:Int,ds=[iT n,iT l]/\1<=l/\l<=3/\∀a,SpOk a->Wds a->prd (a.map (·.2))<=24->l<=(a.length:Int)->R (.val (spT a))
def Hm:GS:=(ak (ax 1 (gLst (gA1 (gTup gaN)))) (ak (c8 [2,3,4,5] (giT (aa 0)) (.tup [2,3]) (ak (ax 4 (gLst gaN)) (ak (c8 [5] (giL (aa 1)) (.one 5) (ax 4 (gOp c5 (aa 4) (cu 1 [5] (giR (gA1 (aa 3))) (.one 0) dq (gOp c5 (aa 1) (gTup (gA1 (aa 0)))))))) (ax 1 (aa 4))))) (bc (aa 1))))
def jo:GP:=λds R=>∃a:LW,ds=[spT a]/\SpOk a/\R (.val (ltT (LL a)))
def Hn:Pm (Hm) 6 1 1 (jo):=by
 intro ds R b h;let{a,rfl,ok,q}:=h;have u:=ok.hi;show{bg rfl,bg rfl,?_};show de (I:=λi=>{[KE (.v (spT a)),KE (.v (ltT (letters ((a.take i).map (·.2))))),MS,MS,MS,MS],[MS]}) rfl (λi x N d hN=>?_) ?_
 ·have f:=ok.cnt x (aU d);have g:=ok.take i;have c:=ok.take (i+1);have en:letters ((a.take (i+1)).map (·.2))=longer (letters ((a.take i).map (·.2))) x.2:=by
   rw[cH,d];change letters ((a.take i++[x]).map (·.2))=_;rw[bT];unfold letters;rw[bV,mR,Jh]
  have wide:∀l∈letters ((a.take i).map (·.2)),l.length<=3:=λl b=>by
   rw[(dt _).wide l b,aC,cK];lia
  rw[en]at hN c;generalize letters ((a.take i).map (·.2))=ls at *;show{bg rfl,?_};show de (I:=λj=>{[KE (.v (spT a)),KE (.v (ltT ls)),KE (.v (.v (.str x.1))),KE (.v (iT x.2)),KE (.v (ltT (longer (ls.take j) x.2))),MS],[MS]}) rfl (λj l m b p=>?_) ?_
  ·have lm:=wide l (aU b);show{by change(-1000000:Int)<=(x.2:Int);lia,by change(x.2:Int)<=1000000;lia,?_};change cq _ _ _ _ _ _ _ (fk 0 x.2) _ _;rw[e8];show c7 (out:=λv:Nat=>tI (l++[(v:Int)])) rfl _ _ (by simp;lia) (λv w Y r=>?_) ?_;{show{by change 1<=1000000;lia,by change(l.map _).length+1<=1000000;simp;lia,?_};change Y (.tup (l.map _++[_])) _;have e:tI (l++[(v:Int)])=.tup (l.map (λn=>Tr.v (.int n))++[.v (.int v)]):=(by simp[tI]);rw[<-e];show r}
   ·have e:longer (ls.take (j+1)) x.2=longer (ls.take j) x.2++(bG x.2).map λv:Nat=>l++[(v:Int)]:=by
     unfold longer;rw[cH,b];simp
    have y:(longer (ls.take j) x.2).length<=100000:=by
     rw[ue,cK];show aV (oN (aV (rX _ _) g) f.2) #v[]
    have s:(longer (ls.take j) x.2).map tI++([]++(bG x.2).map λv:Nat=>tI (l++[(v:Int)]))=(longer (ls.take (j+1)) x.2).map tI:=by
     rw[e,bR,bT,dG];rfl
    show{by change((longer (ls.take j) x.2).map tI).length+([]++(bG x.2).map λv:Nat=>tI (l++[(v:Int)])).length<=1000000;rw[bR,aC,aC,bM];lia,?_};show cast (NG (λz=>m ({[KE (.v (spT a)),KE (.v (ltT ls)),KE (.v (.v (.str x.1))),KE (.v (iT x.2)),KE (.v (.lst z)),MS],[MS]}:M)) s.symm) p
  ·rw[cW];show hN
 ·change R _;rw[cW];show q
theorem gi:∀{a w} i,(a.map (·.1)).Nodup->w∈a->∃p,Bt w.1 a i=KE (p,w.2)
 |v::r,w,i,nd,h=>by
  rw[bV,fS]at nd;rcases aX.mp h with e | e;{subst e;show{i,MZ rfl}};{let{p,b}:=gi (i+1) nd.2 e;have ne:v.1≠w.1:=λz=>nd.1 (by rw[z];show qM e);show{p,by rw[Bt,M' ne,b]}}
def adu (l:List b)(a:b):atI (l++[a]) (-1)=KE a:=by
 unfold atI ixN;rw[M' #v[],MZ (by rw[aH];simp;lia)];rw[show(-1+((l++[a]).length:Int)).toNat=l.length by rw[aH];simp;lia];show List.getElem?_concat_length
def ie {E:wt}{m:M}(h:E.nx m):cy E m:=h
open PySem.Deep
open Classical in
def agx (cs:AQ):mul cs=prd cs:=by
 have h:∀cs k,cs.foldl (· * ·) k=k*prd cs:=λcs=>by
  induction cs with
  |nil=>intro k;change k=k*1;lia
  |cons c cs a=>intro k;rw[pV,a,uG];rfl
 have:=h cs 1;rw[Nat.one_mul]at this;show this
def Mz (a:LW):(LL a).length=prd (a.map (·.2)):=by rw[yj,agx]
end PB
namespace PB
open PySem L2 VL Bits S1 PySem.Deep
abbrev Lg:=Nat->AQ->Nat->Prop
def Run (W:Nat->Nat->Rl)(n k:Nat):AQ->Nat->Nat->Nat->Prop
 | [],r,i,e=>W r 0 i e
 |m::ns,r,i,e=>∃c,1<=c/\c<=k/\m<n/\W r c i m/\Run W n k ns c m e
def catL (n:Nat)(A B:Lg):Lg:=λi ns e=>∃a b k,ns=a++b/\k<n/\A i a k/\B k b e
inductive g6 (n:Nat)(A:Lg):Lg
 |refl {i:Nat}:g6 n A i [] i
 |step {i k e:Nat}{a b:AQ}:A i a k->k<n->g6 n A k b e->g6 n A i (a++b) e
def Say.S (c:LW):Say->Lg
 | .nought=>λ_ _ _=>False
 | .every=>λi ns e=>ns=[]/\e=i
 | .note=>λi ns e=>ns=[i]/\e=i
 | .is f v=>λi ns e=>ns=[]/\(match look c f with | some (p,_)=>isR (LL c) p v i e | none=>False)
 | .put f v=>λi ns e=>ns=[]/\(match look c f with | some (p,_)=>xo (LL c) p v i e | none=>False)
 | .no s=>λi ns e=>ns=[]/\e=i/\∀k,k<(LL c).length->¬s.S c i [] k
 | .again s=>g6 (LL c).length (s.S c)
 | .either a b=>λi ns e=>a.S c i ns e\/b.S c i ns e
 | .both a b=>catL (LL c).length (a.S c) (b.S c)
section
variable {n k1 k2:Nat}{W W1 W2:Nat->Nat->Rl}
theorem u7 {V:Nat->Nat->Rl}(h:∀r c,k1+1<=r->V r c=iq (k1+1) W2 r c):∀(ns:AQ)(r i e:Nat),1<=r->(Run V n (k1+k2) ns (k1+r) i e↔Run W2 n k2 ns r i e)
 | [],r,i,e,l=>by
  change V (k1+r) 0 i e↔W2 r 0 i e;rw[h _ _ ()];unfold iq;rw[MZ rfl,show k1+r-(k1+1)+1=r by lia]
 |m::ns,r,i,e,l=>by
  constructor;{intro d;let{c,g,p,f,a,b}:=d;rw[h _ _ ()]at a;unfold iq at a;rw[M' ()]at a;by_cases j:c<k1+1;{rw[MZ j]at a;show a.elim};{rw[M' j,show k1+r-(k1+1)+1=r by lia]at a;show{c-k1,(),(),f,by rw[show c-(k1+1)+1=c-k1 by lia]at a;show a,?_};rw[show c=k1+(c-k1)by lia]at b;show(u7 h ns (c-k1) m e ()).mp b}};{intro d;let{c,g,p,f,a,b}:=d;show{k1+c,(),(),f,?_,(u7 h ns c m e g).mpr b};rw[h _ _ ()];unfold iq;rw[M' (),M' (),show k1+r-(k1+1)+1=r by lia,show k1+c-(k1+1)+1=c by lia];show a}
def M0:∀r c,k1+1<=r->gg n (k1+1) W1 W2 r c=iq (k1+1) W2 r c:=λr c h=>by
 unfold gg;rw[M' ()]
def M1:∀r c,k1+1<=r->k9 n (k1+1) W1 W2 r c=iq (k1+1) W2 r c:=λr c h=>by
 unfold k9;rw[M' ()]
theorem y6:∀ns r i e,1<=r->r<=k1->(Run (gg n (k1+1) W1 W2) n (k1+k2) ns r i e↔Run W1 n k1 ns r i e)
 | [],r,i,e,p,hk=>by
  change gg n (k1+1) W1 W2 r 0 i e↔W1 r 0 i e;unfold gg;rw[MZ (),M' (),MZ ()]
 |m::ns,r,i,e,p,hk=>by
  have hw:∀c,1<=c->gg n (k1+1) W1 W2 r c=if c<k1+1 then W1 r c else λ_ _=>False:=λc d=>by
   unfold gg;rw[MZ (),M' (),M' (by lia:¬r=0)]
  constructor;{intro f;let{c,a,l,g,b,j}:=f;rw[hw c a]at b;by_cases d:c<k1+1;{rw[MZ d]at b;show{c,a,(),g,b,(y6 ns c m e a ()).mp j}};{rw[M' d]at b;show b.elim}};{intro f;let{c,a,l,g,b,j}:=f;show{c,a,(),g,by rw[hw c a,MZ ()];show b,(y6 ns c m e a l).mpr j}}
def abr (ns:AQ)(i e:Nat):Run (gg n (k1+1) W1 W2) n (k1+k2) ns 0 i e↔Run W1 n k1 ns 0 i e\/Run W2 n k2 ns 0 i e:=by
 cases ns with
 |nil=>
  change gg n (k1+1) W1 W2 0 0 i e↔_;unfold gg;rw[MZ (),MZ #v[rfl,rfl]];show kS
 |cons m ns=>
  have hw:∀c,1<=c->gg n (k1+1) W1 W2 0 c=if c<k1+1 then W1 0 c else W2 0 (c-k1):=λc g=>by
   unfold gg;rw[MZ (),M' (),MZ rfl,show c-(k1+1)+1=if c<k1+1 then 1 else c-k1 by split<;>lia]
   split<;>rfl
  constructor;{intro l;let{c,a,j,f,b,d}:=l;rw[hw c a]at b;by_cases g:c<k1+1;{rw[MZ g]at b;show .inl {c,a,(),f,b,(y6 ns c m e a ()).mp d}};{rw[M' g]at b;rw[show c=k1+(c-k1)by lia]at d;show .inr {c-k1,(),(),f,b,(u7 M0 ns (c-k1) m e ()).mp d}}};{rintro(⟨c,a,j,f,b,d⟩ | ⟨c,a,j,f,b,d⟩);{show{c,a,(),f,by rw[hw c a,MZ ()];show b,(y6 ns c m e a j).mpr d}};{show{k1+c,(),(),f,?_,(u7 M0 ns c m e a).mpr d};rw[hw _ (),M' (),show k1+c-k1=c by lia];show b}}
theorem Do:∀ns r i e,r<=k1->(Run (k9 n (k1+1) W1 W2) n (k1+k2) ns r i e↔∃a b m,ns=a++b/\m<n/\Run W1 n k1 a r i m/\Run W2 n k2 b 0 m e)
 | [],r,i,e,z=>by
  change k9 n (k1+1) W1 W2 r 0 i e↔_;unfold k9;rw[MZ (),MZ rfl];constructor;{intro j;let{m,d,l,f}:=j;show{[],[],m,rfl,d,l,f}};{intro j;let{a,b,m,h0,d,l,f}:=j;let{rfl,rfl}:=pB.mp h0.symm;show#v[m,d,l,f]}
 |x::ns,r,i,e,z=>by
  have hw:∀c,1<=c->k9 n (k1+1) W1 W2 r c=if c<k1+1 then W1 r c else k8 n (W1 r 0) (W2 0 (c-k1)):=λc w=>by
   unfold k9;rw[MZ (),M' ()];by_cases h:c<k1+1;{rw[MZ h,MZ h]};{rw[M' h,M' h,show c-(k1+1)+1=c-k1 by lia]}
  constructor;{intro j;let{c,d,l,f,g,p}:=j;rw[hw c d]at g;by_cases w:c<k1+1;{rw[MZ w]at g;let{a,b,m,rfl,q,s,u}:=(Do ns c x e ()).mp p;show{x::a,b,m,rfl,q,{c,d,(),f,g,s},u}};{rw[M' w]at g;let{m,q,s,u}:=g;rw[show c=k1+(c-k1)by lia]at p;show{[],x::ns,m,rfl,q,s,c-k1,(),(),f,u,(u7 M1 ns (c-k1) x e ()).mp p}}}
  ·intro j;let{a,b,m,h0,q,s,u}:=j;cases a with
   |nil=>
    rw[bR]at h0;subst h0;let{c,d,l,f,g,p}:=u;show{k1+c,(),(),f,?_,(u7 M1 ns c x e d).mpr p};rw[hw _ (),M' (),show k1+c-k1=c by lia];show#v[m,q,s,g]
   |cons y a=>
    rw[kY]at h0;let{rfl,rfl}:=nJ h0;let{c,d,l,f,g,p}:=s;show{c,d,(),f,by rw[hw c d,MZ ()];show g,(Do _ c _ e l).mpr #v[a,b,m,rfl,q,p,u]}
abbrev Dp (W:Nat->Nat->Rl)(n k:Nat):Lg:=λi ns e=>Run W n k ns 0 i e
variable {k:Nat}
def Ya (h:Star n (W 0 0) i e)(t:g6 n (Dp W n k) e b f):g6 n (Dp W n k) i b f:=by
 induction h with
 |refl=>show t
 |step r hk _ c=>show g6.step (a:=[]) r hk (c t)
def Au:g6 n (Dp W n k) i [] e↔Star n (W 0 0) i e:=by
 constructor
 ·intro h;generalize a:([]:AQ)=b at h
  induction h with
  |refl=>show .refl
  |step r hk _ c=>
   let{rfl,rfl}:=pB.mp a.symm;show .step r hk (c rfl)
 ·intro h;show Ya h .refl
def y8:g6 n (Dp W n k) i (x::ns) e↔∃y c a b m,Star n (W 0 0) i y/\1<=c/\c<=k/\x<n/\W 0 c y x/\ns=a++b/\Run W n k a c x m/\m<n/\g6 n (Dp W n k) m b e:=by
 constructor
 ·intro h;generalize d:x::ns=l at h
  induction h with
  |refl=>cases d
  |@step i u e a b r hk t w=>
   cases a with
   |nil=>
    let{y,c,A,C,m,D,q}:=w d;show{y,c,A,C,m,.step r hk D,q}
   |cons z a=>
    rw[kY]at d;let{rfl,rfl}:=nJ d;let{c,f,g,j,p,s}:=r;show{i,c,a,b,u,.refl,f,g,j,p,rfl,s,hk,t}
 ·intro E;let{y,c,a,b,m,f,g,j,p,s,rfl,G,H,I}:=E;show Ya f (g6.step (a:=x::a) #v[c,g,j,p,s,G] H I)
def Ua (a:1<=r):jm n W r 0=k8 n (W r 0) (Star n (W 0 0)):=by unfold jm;rw[MZ rfl,M' ()]
def v8 (a:1<=c):jm n W r c=orR n (W r c) (k8 n (k8 n (W r 0) (Star n (W 0 0))) (W 0 c)):=by unfold jm;rw[M' ()]
def Re (hi:i<n)(h:Star n (W 0 0) i y):y<n:=by
 induction h with
 |refl=>show hi
 |step _ hk _ a=>show a hk
theorem ua:∀ns r i e,1<=r->(Run (jm n W) n k ns r i e↔∃a b m,ns=a++b/\m<n/\Run W n k a r i m/\g6 n (Dp W n k) m b e)
 | [],r,i,e,C=>by
  change jm n W r 0 i e↔_;rw[Ua C];constructor;{intro j;let{m,d,f,g}:=j;show{[],[],m,rfl,d,f,Au.mpr g}};{intro j;let{a,b,m,h0,d,f,g}:=j;let{rfl,rfl}:=pB.mp h0.symm;show{m,d,f,Au.mp g}}
 |x::ns,r,i,e,C=>by
  constructor;{intro j;let{c,d,f,g,l,u}:=j;rw[v8 d]at l;let{a,b,m,rfl,p,q,s}:=(ua ns c x e d).mp u;rcases l with l | ⟨y,w,⟨z,D,E,G⟩,A⟩;{show{x::a,b,m,rfl,p,#v[c,d,f,g,l,q],s}};{show{[],x::(a++b),z,rfl,D,E,y8.mpr #v[y,c,a,b,m,G,d,f,g,A,rfl,q,p,s]}}}
  ·intro j;let{a,b,m,h0,p,q,s}:=j;cases a with
   |nil=>
    rw[bR]at h0;subst h0;let{y,c,a,b,H,w,d,f,g,A,rfl,I,J,L}:=y8.mp s;show{c,d,f,g,?_,(ua _ c x e d).mpr #v[a,b,H,rfl,J,I,L]};rw[v8 d];show .inr {y,Re p w,#v[m,p,q,w],A}
   |cons y a=>
    rw[kY]at h0;let{rfl,rfl}:=nJ h0;let{c,d,f,g,l,u}:=q;show{c,d,f,g,by rw[v8 d];show .inl l,(ua _ c _ e d).mpr #v[a,b,m,rfl,p,u,s]}
def Ub (ns:AQ)(i e:Nat)(hi:i<n):Run (jm n W) n k ns 0 i e↔g6 n (Dp W n k) i ns e:=by
 cases ns with
 |nil=>
  change jm n W 0 0 i e↔_;rw[Au];unfold jm;rw[MZ rfl,MZ rfl]
 |cons x ns=>
  rw[y8];constructor;{intro p;let{c,d,f,g,j,A}:=p;rw[v8 d]at j;let{a,b,m,rfl,q,s,u}:=(ua ns c x e d).mp A;rcases j with j | ⟨y,w,⟨z,C,D,E⟩,l⟩;{show{i,c,a,b,m,.refl,d,f,g,j,rfl,s,q,u}};{show{y,c,a,b,m,.step D C E,d,f,g,l,rfl,s,q,u}}}
  ·intro p;let{y,c,a,b,m,w,d,f,g,l,rfl,G,H,I}:=p;show{c,d,f,g,?_,(ua _ c x e d).mpr #v[a,b,m,rfl,H,G,I]};rw[v8 d];cases w with
   |refl=>show .inl l
   |step r hk t=>show .inr {y,Re hk t,{_,hk,r,t},l}
end
def v9 (ns:AQ)(i e:Nat):Run W n 0 ns 0 i e↔ns=[]/\W 0 0 i e:=by
 cases ns with
 |nil=>show{λh=>#v[rfl,h],λh=>h.2}
 |cons x ns=>show{λ⟨c,a,b,_⟩=>(),λh=>nomatch h.1}
def Yb {n:Nat}{A B:Lg}(h:∀i,i<n->∀ns e,A i ns e↔B i ns e){i e:Nat}{ns:AQ}(hi:i<n):g6 n A i ns e↔g6 n B i ns e:=by
 constructor
 ·intro s
  induction s with
  |refl=>show .refl
  |step r hk _ a=>show .step ((h _ hi _ _).mp r) hk (a hk)
 ·intro s
  induction s with
  |refl=>show .refl
  |step r hk _ a=>show .step ((h _ hi _ _).mpr r) hk (a hk)
theorem Say.run (d:LW):∀(s:Say)(i:Nat),i<(LL d).length->∀(ns:AQ)(e:Nat),Run (s.W d) (LL d).length s.rm ns 0 i e↔s.S d i ns e
 | .nought,i,hi,ns,e=>(v9 ns i e).trans {λh=>h.2,λh=>h.elim}
 | .every,i,hi,ns,e=>v9 ns i e
 | .is f v,i,hi,ns,e=>by
  show(v9 ns i e).trans (and_congr kS ?_);change(match look d f with | some (p,_)=>isR (LL d) p v | none=>λ_ _=>False) i e↔_
  cases look d f<;>show kS
 | .put f v,i,hi,ns,e=>by
  show(v9 ns i e).trans (and_congr kS ?_);change(match look d f with | some (p,_)=>xo (LL d) p v | none=>λ_ _=>False) i e↔_
  cases look d f<;>show kS
 | .no s,i,hi,ns,e=>by
  show(v9 ns i e).trans (and_congr kS (and_congr kS (forall_congr' λk=>imp_congr kS (not_congr ?_))));show s.run d i hi [] k
 | .note,i,hi,ns,e=>by
  have h0:∀r i e,ox r r i e↔False:=λr i e=>(by unfold ox;rw[MZ rfl]);have g:∀i e,ox 0 1 i e↔e=i:=λi e=>(by unfold ox;rw[M' ()]);have l:∀i e,ox 1 0 i e↔e=i:=λi e=>(by unfold ox;rw[M' ()]);cases ns with
  |nil=>show{λh=>((h0 0 i e).mp h).elim,λh=>nomatch h.1}
  |cons x ns=>
   constructor
   ·intro j;let{c,w,z,A,n,q}:=j;have:c=1:=(by have:Say.rm .note=1:=rfl;lia);subst this;cases(g i x).mp n;cases ns with
    |nil=>show{rfl,(l _ e).mp q}
    |cons y ns=>
     let{c,w,z,A,n,q}:=q;have:c=1:=(by have:Say.rm .note=1:=rfl;lia);subst this;show((h0 1 _ y).mp n).elim
   ·intro j;let{h,rfl}:=j;let{rfl,rfl}:=nJ h;show{1,aI _,aI _,hi,(g _ _).mpr rfl,(l _ _).mpr rfl}
 | .again s,i,hi,ns,e=>(Ub ns i e hi).trans (Yb (λi hi ns e=>s.run d i hi ns e) hi)
 | .either a b,i,hi,ns,e=>(abr ns i e).trans (or_congr (a.run d i hi ns e) (b.run d i hi ns e))
 | .both a b,i,hi,ns,e=>by
  show(Do ns 0 i e (eQ _)).trans ?_;constructor;{intro j;let{x,y,m,h0,g,l,u}:=j;show{x,y,m,h0,g,(a.run d i hi x m).mp l,(b.run d m g y e).mp u}};{intro j;let{x,y,m,h0,g,l,u}:=j;show{x,y,m,h0,g,(a.run d i hi x m).mpr l,(b.run d m g y e).mpr u}}
end PB
namespace VL
open PySem L2
def Fo.void (F:Fd K mg x st ps f fd)(h:∀ds R,¬g ds R):Fo P w K mg base k x ps (spP #v[P,w,K] n g):=
 ⟨f,fd,⟨λvs H Q E a=>by let{_,_,_,_,_,_,_,z,_}:=a;show(h _ _ z).elim,λA outer s H args us vs Q E c e b r a=>by let{_,_,_,_,_,_,_,z,_}:=a;show(h _ _ z).elim⟩,F.at_,F.fn.kp,F.bd⟩
open PySem.Deep
open PyProof.Rows (envOfC)
end VL
namespace PySem
namespace TupD
open SetTable TupSet Deep PyProof.Rows PySem.W
section
variable (prog:aQ)(w:bC)
def Td (h:MW)(e:Int×aL)(x:DW):Prop:=e.1=d8 prog w x/\∃a,e.2=.ref a/\IsDeep prog w h x a
def Ld (h:MW):List (Int×aL)->D1->Prop
 | [],[]=>True
 |e::a,x::xs=>Td prog w h e x/\Ld h a xs
 |_,_=>False
end
section
variable {prog:aQ}{w:bC}
variable {A:bU}{E:aL->aG->Prop}{s:aG}
def key_mono (hk:∀b o,h0.get? b=KE o->h.get? b=KE o)(k:IsDeep prog w h0 x a):IsDeep prog w h x a:=k.mono λb q e _=>hk b q e
end
def ltI:I2->I2->Bool
 | .inl a,.inl b=>decide (a<b)
 | .inl _,.inr _=>MT
 | .inr _,.inl _=>MU
 | .inr l,.inr m=>TupSet.lexLt l m
theorem Yc:∀{a b},ltI a b=MT->ltI b a=MU
 | .inl a,.inl b,h=>by simp[ltI]at h ⊢;omega
 | .inl _,.inr _,_=>rfl
 | .inr l,.inr m,h=>TupSet.lex_asymm h
theorem Yd:∀{a b c},ltI a b=MT->ltI b c=MT->ltI a c=MT
 | .inl a,.inl b,.inl c,h,h'=>by simp[ltI]at h h' ⊢;omega
 | .inl _,_,.inr _,_,_=>rfl
 | .inl _,.inr _,.inl _,_,h=>nomatch h
 | .inr _,.inl _,_,h,_=>nomatch h
 | .inr _,.inr _,.inl _,_,h=>nomatch h
 | .inr l,.inr m,.inr n,h,h'=>TupSet.lex_trans l m n h h'
def lexD:DW->DW->Bool
 | [],[]=>MU
 | [],_::_=>MT
 |_::_,[]=>MU
 |a::as,b::bs=>if a=b then lexD as bs else ltI a b
theorem lex_irrefl:∀x,lexD x x=MU
 | []=>rfl
 |a::as=>by simp[lexD,lex_irrefl as]
theorem lex_trans:∀x y z,lexD x y=MT->lexD y z=MT->lexD x z=MT
 | [],[],_,h,_=>nomatch h
 | [],_::_,[],_,h=>nomatch h
 | [],_::_,_::_,_,_=>rfl
 |_::_,[],_,h,_=>nomatch h
 |_::_,_::_,[],_,h=>nomatch h
 |a::as,b::bs,c::cs,f,d=>by
  by_cases i:a=b;{subst i;by_cases g:a=c;{subst g;simp only[lexD,if_true]at f d ⊢;show lex_trans as bs cs f d};{simp only[lexD,M' g]at d ⊢;show d}};{by_cases g:b=c;{subst g;simp only[lexD,M' i]at f ⊢;show f};{simp only[lexD,M' i,M' g]at f d;have j:=Yd f d;have l:¬a=c:=λe=>(by subst e;rw[Yc f]at d;cases d);simp only[lexD,M' l];show j}}
def lex_asymm (h:lexD x y=MT):lexD y x=MU:=by
 cases h':lexD y x with
 |false=>rfl
 |true=>have:=lex_trans _ _ _ h h';rw[lex_irrefl]at this;show nomatch this
def KeysL (prog:aQ)(w:bC)(h:MW):AW->D1->Prop
 | [],[]=>True
 |v::vs,x::xs=>(∃a,v=.ref a/\IsDeep prog w h x a)/\KeysL prog w h vs xs
 |_,_=>False
section
variable {prog:aQ}{w:bC}
theorem KeysL.length:∀{vs xs},KeysL prog w h vs xs->vs.length=xs.length
 | [],[],_=>rfl
 | [],_::_,h=>h.elim
 |_::_,[],h=>h.elim
 |_::_,_::_,h=>by simp[KeysL.length h.2]
theorem KeysL.at:∀{vs:AW}{xs:D1}(_:KeysL prog w h vs xs) {i:Nat},i<xs.length->∃a,vs.getD i .none=.ref a/\IsDeep prog w h (xs.getD i []) a
 | [],[],_,i,hi=>by simp at hi
 | [],_::_,h,_,_=>h.elim
 |_::_,[],h,_,_=>h.elim
 |v::vs,x::xs,h,0,_=>by simpa using h.1
 |v::vs,x::xs,h,i+1,hi=>by simpa using KeysL.at h.2 (i:=i) (⇑hi)
theorem KeysL.imp (k:∀x a,IsDeep prog w h x a->IsDeep prog w h' x a):∀{vs:AW}{xs:D1}(_:KeysL prog w h vs xs),KeysL prog w h' vs xs
 | [],[],_=>trivial
 | [],_::_,h=>h.elim
 |_::_,[],h=>h.elim
 |v::vs,x::xs,h=>{h.1.elim λa b=>{a,b.1,k _ _ b.2},KeysL.imp k h.2}
variable {A:bU}{E:aL->aG->Prop}{s:aG}
theorem lexLt_eq:∀x y,HT.lexLt x y=TupSet.lexLt x y
 | [],[]=>rfl
 | [],_::_=>rfl
 |_::_,[]=>rfl
 |a::as,b::bs=>by rw[HT.lexLt_cons,TupSet.lexLt,lexLt_eq as bs]
theorem Ho:∀{x vs},ItemsAre (gL prog w) x vs->mQ vs x
 |_,_,.nil=>.nil
 |_,_,.cons (k:=k) h t=>by obtain⟨a,rfl⟩:_:=aab h;show .cons _ _ (Ho t)
def Uc (x:IsDeep prog w h ks a)(f:h.get? d=KE (iU "list" vs n))(g:∀b o,b≠d->h.get? b=KE o->h'.get? b=KE o):IsDeep prog w h' ks a:=
 x.mono λb q e c=>g b q (λz=>by subst z;rw[f]at e;cases e;simp[iU]at c) e
end
end TupD
end PySem
namespace L2
open PySem PySem.Spec PyProof.Rows PySem.Deep
def xb (K:aE)(H:Hp)(ys:EX)(L:D1):Prop:=Paired (λy x=>∃a,y=.ref a/\KeyAt K H a x) ys L
section
variable {X:Cx}{j':CW}{σ:St}{H:Hp}{s:aG}
open Classical in
noncomputable def y9 (K:aE)(H:Hp)(h:MW):MW:=PySem.W.hideAll h ((bG h.objs.size).filter λa=>!decide (∃x:DW,KeyAt K H a x))
def abt {K:aE}{h:MW}{b:MV}{o:Obj}(e:(y9 K H h).get? b=KE o):h.get? b=KE o/\∃x:DW,KeyAt K H b x:=by
 have c:=PySem.W.of_hideAll _ e;show{c,Classical.byContradiction λn=>?_};have d:b∈(bG h.objs.size).filter λa=>!@decide (∃x:DW,KeyAt K H a x) (lN _):=dE.mpr {bY.mpr (bA c),by simp[n]};have z:(y9 K H h).get? b=MS:=PySem.W.hideAll_none _ d;rw[z]at e;cases e
def Ji {K:aE}{h:MW}{b:MV}{o:Obj}{x:DW}(e:h.get? b=KE o)(k:KeyAt K H b x):(y9 K H h).get? b=KE o:=by
 show PySem.W.hideAll_get _ e λa=>?_;have q:=(dE.mp a).2;have:∃x:DW,KeyAt K H b x:=#v[x,k];simp[this]at q
def Ud {K:aE}{c:MV}{l:LQ}(h:SqT K H c (l.map V.int)):KeyAt K H c (l.map Sum.inl):=⟨_,h,by
  clear h
  induction l with
  |nil=>show .nil
  |cons a l b=>show .cons rfl b⟩
def Inv.itemsK (I:Inv X j' σ H s){xs ks its}(r:Vals xs its)(h:Paired (λv k=>match k with | Sum.inl i=>v=V.int i | Sum.inr l=>∃c,v=.ref c/\SqT X.K H c (l.map V.int)) xs ks):ItemsR X.p X.w (y9 X.K H s.heap) ks its:=by
 induction h generalizing its with
 |nil=>cases r;trivial
 |@cons v k _ _ h _ a=>
  cases r with
  |cons r t=>
   cases k with
   |inl i=>
    subst h;let{b,rfl}:=r;show{by change fV i (.int i b)=MT;simp[fV],a t}
   |inr l=>
    let{c,rfl,k}:=h;cases r;let{o,its,n,d,q}:=I.tkey k;show{{c,rfl,o,its,n,Ji d (Ud k),q},a t}
def Inv.keyK (I:Inv X j' σ H s){a:MV}{x:DW}(h:KeyAt X.K H a x):IsDeep X.p X.w (y9 X.K H s.heap) x a:=by
 let{xs,b,p}:=id h;let{its,r,{o,c,d,n,hd},_}:=I.tuple b;show{o,its.toArray,n,Ji c h,d,hd,by simpa using I.itemsK r p}
def abu (I:Inv X j' σ H s){ys:EX}{L:D1}{its:AW}(h:xb X.K H ys L)(r:Vals ys its):TupD.KeysL X.p X.w (y9 X.K H s.heap) its L:=by
 unfold xb at h
 induction h generalizing its with
 |nil=>cases r;trivial
 |cons b _ c=>
  cases r with
  |cons d e=>
   let{a,rfl,k}:=b;cases d;show{{a,rfl,I.keyK k},c e}
end
end L2
namespace VL
open PySem L2 PySem.Deep
section
variable {X:Cx}
abbrev kyT (k:DW):Tr:=.tup (k.map itT)
theorem Dq {b:B}{F H:Hp}(e:Same F H):∀{xs:EX}{L:D1},Rps b F xs (L.map kyT)->xb b.K H xs L
 |_,[],.nil=>.nil
 |_,x::L,.cons h t=>by
  let{a,ys,rfl,c,d}:=Rp.tupI h;show .cons {a,rfl,jd (yz c d) e} (Dq e t)
def Ye (h:Paired (λv k=>match k with | Sum.inl i=>v=V.int i | Sum.inr l=>∃c,v=.ref c/\SqT b.K F c (l.map V.int)) xs k):Rps b F xs (k.map itT):=by
 induction h with
 |nil=>show .nil
 |@cons v k _ _ h _ a=>
  cases k with
  |inl i=>subst h;show .cons (.v rfl) a
  |inr l=>
   let{c,rfl,s}:=h;show .cons (.tup s (Lm _)) a
def akt (h:KeyAt b.K F a k):Rp b F (.ref a) (kyT k):=by
 let{xs,s,p}:=h;show .tup s (Ye p)
theorem M3 {b:B}{F:Hp}:∀{xs:EX}{L:D1},xb b.K F xs L->Rps b F xs (L.map kyT)
 |_,_,.nil=>.nil
 |_,_,.cons h t=>by
  let{a,rfl,c}:=h;show .cons (akt c) (M3 t)
def Ue {k:DW}{xs:EX}(h:Paired (λv k=>match k with | Sum.inl i=>v=V.int i | Sum.inr l=>∃c,v=.ref c/\SqT K H c (l.map V.int)) xs k):Paired (λv k=>match k with | Sum.inl i=>v=V.int i | Sum.inr l=>∃c,v=.ref c/\SqT K (lq F H) c (l.map V.int)) xs k:=Paired.mapP h λv k z=>by
 cases k with
 |inl i=>show z
 |inr l=>
  let{c,rfl,s}:=z;show{c,rfl,Lk s}
def Yf {k:DW}(h:KeyAt K H a k):KeyAt K (lq F H) a k:=by
 let{xs,s,p}:=h;show{xs,Lk s,Ue p}
theorem Jj {K:aE}{F H:Hp}:∀{xs:EX}{L:D1},xb K H xs L->xb K (lq F H) xs L
 |_,_,.nil=>.nil
 |_,_,.cons ⟨a,e,h⟩ t=>.cons {a,e,Yf h} (Jj t)
def abv {b:B}{W:Wd}{cel:EZ}{R:Ev->Prop}{Q:VK}{L:D1}(ok:Wok b W cel)(q:∀e c z,R e->After b W cel c->Rev b W c z e->Q z c.H)(h:R (.new (.lst (L.map kyT)))) :
  ∀d a,W.H d=MS->xb b.K W.H a L->Q (.ref d) (upd W.H d (.lst a)):=λd a hd f=>by
 let{l1,g,l}:=aft ok;let{l2,i,j}:=pj (d:=.lst (L.map kyT)) (o:=.lst a) (p:=d) g hd {a,ay,M3 (Jj f)};show q _ _ _ h {l1.trans l2,λ_=>rfl,i} (j.old l1.toLe)
def Av:List (DW×Tr)->D1->D2->(D1->D2->Prop)->Prop
 | [],ks,l,R=>R ks l
 | (k,d)::r,ks,l,R=>Av r (mz ks k) (m8 ks l k d) R
def Kt:GL
 | [.lst l],R=>∃ps:List (DW×Tr),l=ps.map (λp=>Tr.tup [kyT p.1,p.2])/\ps.length<=1000000/\Av ps [] [] λks l=>R (.new (.dct ks l))
 | [.dct ks l],R=>(∀P w,(ks.map (d8 P w)).Nodup)/\R (.new (.dct ks l))
 |_,_=>False
theorem Rf {b:B}{F:Hp}:∀{ps:List (DW×Tr)}{f:DE}{kvs:DE}{l:D2}{R:D1->D2->Prop},Paired (λ(e:DW×MV×V) p=>e.1=p.1/\KeyAt b.K F e.2.1 e.1/\Rp b F e.2.2 p.2) f ps->(∀e∈kvs,KeyAt b.K F e.2.1 e.1)->Rps b F (kvs.map (·.2.2)) l->Av ps (kvs.map (·.1)) l R->
  ∃j,(∀e∈ko kvs f,KeyAt b.K F e.2.1 e.1)/\Rps b F ((ko kvs f).map (·.2.2)) j/\(ko kvs f).length<=kvs.length+f.length/\R ((ko kvs f).map (·.1)) j
 | [],_,kvs,l,R,.nil,hk,m,h=>{l,hk,m,aI _,h}
 | (k,d)::ps,_,kvs,l,R,.cons (a:=e) q r,hk,m,h=>by
  let{i,c,v}:=e;let{rfl,s,u}:=q;let{w,x}:=lh (key:=λe:DW×MV×V=>e.1) (val:=λe=>e.2.2) i u (g:=λe=>if e.1=i then (e.1,e.2.1,v)else e) (e0:=(i,c,v)) rfl rfl (λe=>by split<;>rfl) (λe=>by split<;>rfl) m (L':=iu kvs i c v) (by
    unfold iu atK;rw[eO])
  have y:∀e∈iu kvs i c v,KeyAt b.K F e.2.1 e.1:=λe z=>by
   rcases Ey z with⟨z1,n⟩ | z1;{rcases n with n | ⟨A,C,D,E⟩;{rw[z1,n];show s};{have:=hk A C;rw[D,E]at this;rw[z1];show this}};{show hk e z1}
  let{j,G,H,I,J}:=Rf r y x (by rw[<-w];show h);show{j,G,H,aV I ?_,J};have:=Ex kvs i c v;rw[aS];lia
theorem M4 {b:B}{F H:Hp}(e:Same F H):∀{ps:List (DW×Tr)}{vs:EX},Rps b F vs (ps.map λp=>Tr.tup [kyT p.1,p.2])->∃f:DE,Paired (λv (e:DW×MV×V)=>∃p,v=.ref p/\SqT b.K H p [.ref e.2.1,e.2.2]/\KeyAt b.K H e.2.1 e.1) vs f/\Paired (λ(e:DW×MV×V) p=>e.1=p.1/\KeyAt b.K F e.2.1 e.1/\Rp b F e.2.2 p.2) f ps
 | [],_,.nil=>{[],.nil,.nil}
 | (k,d)::ps,_,.cons h t=>by
  let{f,i,j}:=M4 e t;let{a,xs,rfl,l,m}:=Rp.tupI h;cases m with
  |cons k1 n=>
   cases n with
   |cons k2 q=>
    cases q;let{c,ys,rfl,r,s}:=Rp.tupI k1;have g:=yz r s;show{(k,c,_)::f,.cons {a,rfl,l.same e,jd g e} i,.cons #v[rfl,g,k2] j}
def Rg (z:X.calm=MT)(hu:X.A.units+64<dB):my X (.type "dict") Kt:=by
 intro l s m H xs us Q I r h;let{W,cel,ds,R,rfl,ok,n,h,q}:=h;unfold Kt at h
 split at h
 ·let{x,rfl,a,vs,rfl,C,D}:=cp n;let{ps,rfl,hz,h}:=h;let{b,E,u}:=M4 ok.sub D;let{G,J,L,z3,N}:=Rf (kvs:=[]) u (λe O=>nomatch O) .nil h;show Ta rfl rfl rfl z () l s m W.H _ us Q I r {a,vs,b,rfl,C,E,λp c f g=>?_};have T:(ko [] b).length<=sizeLine:=by
   have e1:b.length=ps.length:=Paired.length u;have:([]:DE).length=0:=rfl;show big _ ()
  let{l2,i,j}:=pj (d:=.dct ((ko [] b).map (·.1)) G) (o:=mr X.p X.w p c (ko [] b)) ok f {_,c,ay,J,T,g,rfl,L};show q _ _ _ N {l2,λ_=>rfl,i} j
 {let{x,rfl,t}:=cp n;let{a,kvs,rfl,y,U,rfl,Y}:=t;let{hn,h}:=h;show Tc rfl rfl rfl l s m W.H _ us Q I r ⟨a,kvs,rfl,y,by have:=hn X.p X.w;rw[dG]at this;show this,λp c f g=>?_⟩;let{l2,i,j}:=pj (d:=.dct (kvs.map (·.1)) _) (o:=mr X.p X.w p c kvs) ok f {_,c,ay,U,y.len,g,rfl,Y};show q _ _ _ h {l2,λ_=>rfl,i} j};{show h.elim}
end
end VL
set_option maxHeartbeats 1000000
namespace PB
open PySem L2 VL Bits S1 PySem.Deep
abbrev ck:=Nat×LQ
abbrev sT (p:ck):Tr:=.tup [.v (.int (p.1:Int)),tI p.2]
abbrev trT (t:LJ):Tr:=.tup (t.map tI)
abbrev ssT (L:List ck):Tr:=.lst (L.map sT)
theorem Rh:∀{L M:List e},L.Nodup->(∀x∈L,x∈M)->L.length<=M.length
 | [],_,_,_=>eQ _
 |x::L,M,nd,h=>by
  let{a,b,rfl}:=List.append_of_mem (h x aR);have c:=fS.mp nd;have:=Rh (L:=L) (M:=a++b) c.2 λy d=>by
   have:=h y (aP _ d);rw[dF,aX]at this;rw[dF];rcases this with h | rfl | h;{show .inl h};{show NC d c.1};{show .inr h}
  simp only[aH,aS]at this ⊢;lia
section
variable {n:Nat}{ws:LW}{t:LJ}{L:List ck}{R:Ev->Prop}
def ky (p:ck):DW:=[.inl (p.1:Int),.inr p.2]
def unky:DW->ck
 | [.inl k,.inr l]=>(k.toNat,l)
 |_=>(0,[])
def Ri (p:ck):unky (ky p)=p:=by
 let{k,l}:=p;change((k:Int).toNat,l)=(k,l);rw[bQ]
def Yg (h:ky p=ky q):p=q:=by rw[<-Ri p,h,Ri]
end
section
variable {ws:LW}{t:LJ}
abbrev ixL (ws:LW)(l:LQ):Nat:=(LL ws).idxOf l
def Bw (h:l∈LL ws):(LL ws)[ixL ws l]?=KE l:=by
 rw[aB (cM.mpr h),gE]
end
def gu (ls:LJ)(a:LQ):Nat->List LJ
 |0=>[[a]]
 |m+1=>(gu ls a m).flatMap λb=>ls.map λl=>b++[l]
theorem M5 (ls:LJ)(a:LQ):∀m,(gu ls a m).length=ls.length ^ m
 |0=>rfl
 |m+1=>by
  unfold gu;rw[nR];have:((gu ls a m).map λb=>(ls.map λl=>b++[l]).length)=(gu ls a m).map λ_=>ls.length:=lG λb _=>(by rw[aC]);rw[this,List.map_const',List.sum_replicate_nat,M5 ls a m,lA]
theorem Dr {ls:LJ}{a:LQ}:∀{m:Nat}{b:LJ},b∈gu ls a m->∃ns,b=a::ns/\ns.length=m/\∀l∈ns,l∈ls
 |0,b,h=>{[],aN.mp h,rfl,λl c=>nomatch c}
 |m+1,b,h=>by
  let{g,h0,d}:=eM.mp h;let{l,c,rfl}:=bE.mp d;let{ns,rfl,e,f}:=Dr h0;show{ns++[l],rfl,by rw[aH,e];rfl,λx hx=>?_};rcases dF.mp hx with hx | hx;{show f x hx};{rw[aN.mp hx];show c}
def M6 (C:MV):GS:=(bc (gCB ja (gaE (Ao C "ways" (aa 0)) gaN)))
def wa (C:MV):GP:=λds R=>∃ls k W m,ds=[m]/\w8 C ls k W m/\R (.val (iT ((k+1:Nat):Int)))
def M7:Pm (M6 C) 1 1 1 (wa C):=by
 intro ds R b h;let{ls,k,W,_,rfl,{x,rfl,l,rfl,a},q}:=h;show{rfl,?_};change R (.val (.v (.int (l.length:Int))));rw[a.len];show q
open Classical in
noncomputable def du (k:Nat)(W:Nat->Nat->Rl)(a:AQ)(i j:Nat):AQ:=((bG k).map (·+1)).filter λc=>decide (lg W a i c j)
noncomputable def goF (ls:LJ)(k:Nat)(W:Nat->Nat->Rl)(a:AQ)(i:Nat):List (LQ×AQ):=ls.zipIdx.filterMap λp=>if du k W a i p.2=[]then MS else KE (p.1,du k W a i p.2)
abbrev goT (p:LQ×AQ):Tr:=.tup [tI p.1,rmT p.2]
def Ds (C:MV):GS:=(ak (ax 3 (ql C "masks_from" 3 (jh C) (aa 0) (gaV (aa 1) (gA1 (aa 2))))) (ak (ic 4 0 (gLst gaN)) (ak (c8 [5,6,7,8] (Lv (gA1 (Ao C "letters" (aa 0)))) (.tup [5,6]) (ak (ax 7 (gOp (ib Ct λi j=>.int (i*2 ^ j.toNat)) (gI 1) (aa 5))) (ak (ax 8 (gCB Ai (gaE (cu 1 [7,3] (giR2 (gaV (gI 1) (gA1 (gCB ja (gaE (aa 3) gaN))))) (.one 0) (ku (gOp (dw λi j=>.int (dZ i j)) (gX (aa 2) (aa 0)) (aa 1))) (aa 0)) gaN))) (sIf (ku (aa 8)) (gc (xk 4 (gTup (gaV (aa 6) (gA1 (aa 8)))))) cy)))) (bc (aa 4)))))
def jz (C:MV):GP:=λds R=>∃ls k W m a l,ds=[m,rmT a,tI l]/\Ask C ls k W m a l/\R (.new (.lst ((goF ls k W a (ls.idxOf l)).map goT)))
def agy (k:Nat):fk 1 k=((bG k).map (·+1)).map λc:Nat=>iT (c:Int):=by
 unfold fk;rw[dG];show lG λi _=>?_;change Tr.v (.int (1+(i:Int)))=Tr.v (.int ((i+1:Nat):Int));rw[show(1+(i:Int))=((i+1:Nat):Int)by lia]
def agz (h:MaskP n m p)(a:j<n):(dZ m (2 ^ j) != 0)=MT↔p j:=by
 let{k,rfl,_}:=jw h.1;have e:((2:Int) ^ j)=((2 ^ j:Nat):Int):=(by push_cast;rfl);rw[e,G8,<-h.2 j a,bQ];constructor
 ·intro z;cases c:k.testBit j with
  |true=>rfl
  |false=>
   have:k &&& 2 ^ j=0:=kN λi=>by
    rw[jJ,Nat.testBit_two_pow,Nat.zero_testBit];by_cases d:j=i;{subst d;simp[c]};{simp[d]}
   rw[this]at z;cases z
 ·intro z;have:(k &&& 2 ^ j).testBit j=MT:=(by rw[jJ,z,oE];rfl);have b:k &&& 2 ^ j≠0:=λe=>(by rw[e,Nat.zero_testBit]at this;cases this);simpa using b
open Classical in
def Dt:Pm (Ds C) 9 2 3 (jz C):=by
 intro ds R E h;let{ls,k,W,_,a,l,rfl,f,q}:=h;let{x,rfl,G}:=id f.1;show{rfl,rfl,rfl,ls,k,W,_,a,l,rfl,f,λy g=>?_};show{bg rfl,rfl,?_};have H:=f.2.2.2.1;have J:=f.2.2.2.2;change dh _ _ _ _ (jg (ls.map tI)) _;rw[wu];show de (I:=λi=>{[KE (.v (.obj C ZZ [ltT ls,x])),KE (.v (rmT a)),KE (.v (tI l)),KE (.v (.lst y)),KE (.c 1),MS,MS,MS,MS],[MS,KE (.lst (((ls.zipIdx.take i).filterMap λp=>if du k W a (ls.idxOf l) p.2=[]then MS else KE (p.1,du k W a (ls.idxOf l) p.2)).map goT))]}) rfl (λi p N b hN=>?_) ?_
 ·have hi:=bf b;rw[iK]at hi;let{z,j}:=p;have m:j=i/\ls[i]?=KE z:=by
   rw[nE]at b;cases e:ls[i]? with
   |none=>rw[e]at b;cases b
   |some z'=>rw[e]at b;simp at b;show{b.2.symm,by rw[b.1]}
  let{rfl,L}:=m;show{{(),(),#v[]},?_};have O:y.length=k+1:=g.len;show{{#v[],#v[],by change(-1000000:Int)<=(y.length:Int);lia,by change(y.length:Int)<=1000000;lia},?_};change cq _ _ _ _ _ _ _ (fk 1 ((y.length:Int)-1).toNat) _ _;rw[show((y.length:Int)-1).toNat=k by lia,agy];show fw (p:=λc=>decide (lg W a (ls.idxOf l) c j)) (out:=λc:Nat=>iT (c:Int)) rfl _ _ (by simp;lia) (λc n Y Z r s=>?_) ?_
  ·have u:c<k+1:=by
    let{Q,h0,rfl}:=bE.mp n;have:=bY.mp h0;lia
   let{_,e,mk,rfl,w}:=g.at (c:=c) u;show bj (bt (i:=c) e) ?_;have ab:=agz w hi;change if (dZ mk (1*2 ^ ((j:Int)).toNat) != 0)=MT then _ else _
   rw[qU,bQ];by_cases d:lg W a (ls.idxOf l) c j;{show ifY (ab.mpr d) ?_;show r (NB d)};{show ifN (⇑(λz=>d (ab.mp z))) ?_;show s (NA d)}
  ·rw[bR];have A:((bG k).map (·+1)).filter (λc=>decide (lg W a (ls.idxOf l) c j))=du k W a (ls.idxOf l) j:=rfl;rw[A];have D:(ls.zipIdx.take (j+1))=ls.zipIdx.take j++[(z,j)]:=(by rw[cH,b];rfl);rw[D,kC]at hN;by_cases d:du k W a (ls.idxOf l) j=[];{show ifN (show(!((du k W a (ls.idxOf l) j).map λc:Nat=>iT (c:Int)).isEmpty)=MU by rw[d];rfl) ?_;show ie ?_;show cast (NG (λz:List (LQ×AQ)=>N ({[KE (.v (.obj C ZZ [ltT ls,x])),KE (.v (rmT a)),KE (.v (tI l)),KE (.v (.lst y)),KE (.c 1),MS,MS,MS,MS],[MS,KE (.lst (z.map goT))]}:M)) ?_) hN;simp[d]}
   ·show ifY (show(!((du k W a (ls.idxOf l) j).map λc:Nat=>iT (c:Int)).isEmpty)=MT by simpa using d) ?_;have T:((ls.zipIdx.take j).filterMap λp=>if du k W a (ls.idxOf l) p.2=[]then MS else KE (p.1,du k W a (ls.idxOf l) p.2)).length<=1000:=by
     show aV (lC _ _) ?_;rw[cK,iK];lia
    show{rfl,bg rfl,by change(sF goT _).length<1000000;rw[aC];lia,?_};show cast (NG (λz:D2=>N ({[KE (.v (.obj C ZZ [ltT ls,x])),KE (.v (rmT a)),KE (.v (tI l)),KE (.v (.lst y)),KE (.c 1),MS,MS,MS,MS],[MS,KE (.lst z)]}:M)) ?_) hN;rw[bT];simp[d]
 ·rw[iK,show ls.zipIdx.take ls.length=ls.zipIdx by rw[mH (by rw[iK];show aI _)]];show q
theorem zc {a c:Type}{f:a->List c}{b:Nat}:∀{l:List a},(∀x∈l,(f x).length<=b)->(l.flatMap f).length<=l.length*b
 | [],_=>eQ _
 |x::l,h=>by
  have e:=h x aR;have g:=zc (l:=l) λy d=>h y (aP _ d);rw[dJ,aH,aS,pW];lia
abbrev goP (p:LQ×Nat):Tr:=.tup [tI p.1,iT (p.2:Int)]
noncomputable def goL (ls:LJ)(k:Nat)(W:Nat->Nat->Rl)(r i:Nat):List (LQ×Nat):=(goF ls k W [r] i).flatMap λp=>p.2.map λc=>(p.1,c)
def Du (k:Nat)(W:Nat->Nat->Rl)(a:AQ)(i j:Nat):(du k W a i j).length<=k:=by
 unfold du;show aV (iA _ _) (by rw[aC,bM];show aI _)
def Bx (ls:LJ)(k:Nat)(W:Nat->Nat->Rl)(a:AQ)(i:Nat):(goF ls k W a i).length<=ls.length:=by
 unfold goF;show aV (lC _ _) (by rw[iK];show aI _)
def u9 {ls:LJ}{k:Nat}{W:Nat->Nat->Rl}{a:AQ}{i:Nat}{p:LQ×AQ}(h:p∈goF ls k W a i):∃j,ls[j]?=KE p.1/\p.2=du k W a i j/\p.2≠[]:=by
 let{{z,j},hz,e}:=qX.mp h;have b:=iS.mp hz;dsimp only at e
 split at e;{cases e};{next d=>cases e;show#v[j,b,rfl,d]}
def O6 (C:MV):GS:=(ak (ic 3 0 (gLst gaN)) (ak (c8 [4,5] (giL (ql C "goes_from" 3 (jz C) (aa 0) (gaV (gTup (gA1 (aa 1))) (gA1 (aa 2))))) (.tup [4,5]) (gc (gMc "list" 3 pq (gaE (cu 1 [4] (giT (aa 5)) (.one 0) dq (gTup (gaV (aa 1) (gA1 (aa 0))))) gaN)))) (bc (aa 3))))
def xv (C:MV):GP:=λds R=>∃ls k W m r l,ds=[m,.v (.int (r:Nat)),tI l]/\Ask C ls k W m [r] l/\R (.new (.lst ((goL ls k W r (ls.idxOf l)).map goP)))
def O7 {C:MV}:Pm (O6 C) 6 2 3 (xv C):=by
 intro ds R s h;let{ls,k,W,_,r,l,rfl,d,q}:=h;let{x,rfl,u}:=id d.1;have w:=d.2.2.2.1;have m:=d.2.2.2.2;show{bg rfl,rfl,rfl,bg rfl,rfl,ls,k,W,_,[r],l,rfl,d,?_};have y:=Bx ls k W [r] (ls.idxOf l);have g:∀p∈goF ls k W [r] (ls.idxOf l),p.2.length<=300:=λp a=>by
  let{j,_,e,_}:=u9 a;rw[e];show aV (Du _ _ _ _ _) m
 unfold goL at q;generalize goF ls k W [r] (ls.idxOf l)=f at *;show de (I:=λi=>{[KE (.v (.obj C ZZ [ltT ls,x])),KE (.v (.v (.int (r:Nat)))),KE (.v (tI l)),KE (.c 1),MS,MS],[MS,KE (.lst (((f.take i).flatMap λp=>p.2.map λc=>(p.1,c)).map goP))]}) rfl (λi p N a hN=>?_) ?_
 ·have z:=g p (aU a);show{rfl,?_};show c7 (out:=λc:Nat=>goP (p.1,c)) rfl _ _ (by change 0+_<=_;lia) (λc A Y n=>?_) ?_;{show{bg rfl,n}}
  ·have e:((f.take (i+1)).flatMap λp=>p.2.map λc=>(p.1,c))=((f.take i).flatMap λp=>p.2.map λc=>(p.1,c))++p.2.map λc=>(p.1,c):=by
    rw[cH,a];simp
   show{?_,?_}
   ·have D:((f.take i).flatMap λp=>p.2.map λc=>(p.1,c)).length<=300*300:=by
     show aV (zc (b:=300) λp a=>by rw[aC];show g p (qI a)) ?_;show iR _ ?_;rw[cK];lia
    rw[bR,aC,aC];lia
   ·show cast (NG N ?_) hN;rw[e,bT,dG];rfl
 ·change R _;rw[cW];show q
abbrev Bgn:=LJ×LQ×AQ
abbrev bgT (p:Bgn):Tr:=.tup [trT (p.1++[p.2.1]),rmT p.2.2]
open Classical in
noncomputable def ji (ls:LJ)(W:Nat->Nat->Rl)(a:AQ)(i:Nat):LJ:=(ls.zipIdx.filter λp=>decide (lg W a i 0 p.2)).map (·.1)
structure BgOk (ls:LJ)(k:Nat)(p:Bgn):Prop where
 lm:p.2.1∈ls
 rm:∀r∈p.2.2,r<k+1
 ln:p.1.length<=100
def Yh (h:MaskP ls.length mk (lg W a i 0)):dn mk ls ls.length=ji ls W a i:=by
 rw[Mb];unfold ji;congr 1;show iX λp b=>?_;have:=iS.mp b;have c:=bf this;rw[eJ,h.2 p.2 c,@decide_eq_true_iff _ (lN _)]
def aha (C:MV):GS:=(ak (ic 2 0 (gLst gaN)) (ak (c8 [3,4] (giL (aa 1)) (.tup [3,4]) (gc (gMc "list" 2 pq (gaE (cu 1 [3] (giL (ql C "ends_from" 3 (jy C) (aa 0) (gaV (aa 4) (gA1 (gX (aa 3) (xj (gI 1))))))) (.one 0) dq (gOp c5 (aa 1) (gTup (gA1 (aa 0))))) gaN)))) (bc (aa 2))))
noncomputable def kg (ls:LJ)(W:Nat->Nat->Rl)(B:List Bgn):List (LJ):=B.flatMap λp=>(ji ls W p.2.2 (ls.idxOf p.2.1)).map λe=>p.1++[p.2.1]++[e]
def Hq (C:MV):GP:=λds R=>∃ls k W m B,ds=[m,.lst (B.map bgT)]/\w8 C ls k W m/\ls.length<=300/\k<=300/\(∀p∈B,BgOk ls k p)/\B.length<=1000/\R (.new (.lst ((kg ls W B).map trT)))
def ahb:Pm (aha C) 5 2 2 (Hq C):=by
 intro ds R y h;let{ls,k,W,_,B,rfl,f,g,m,hB,bl,q}:=h;let{x,rfl,z}:=id f;show{bg rfl,?_};have j:∀p∈B,(ji ls W p.2.2 (ls.idxOf p.2.1)).length<=300:=λp a=>by
  unfold ji;rw[aC];show aV (iA _ _) (by rw[iK];show g)
 unfold kg at q;show de (I:=λi=>{[KE (.v (.obj C ZZ [ltT ls,x])),KE (.v (.lst (B.map bgT))),KE (.c 1),MS,MS],[MS,KE (.lst (((B.take i).flatMap λp=>(ji ls W p.2.2 (ls.idxOf p.2.1)).map λe=>p.1++[p.2.1]++[e]).map trT))]}) rfl (λi p N a hN=>?_) ?_
 ·have l:=aU a;have d:=hB p l;have A:=j p l;have n:atI ((p.1++[p.2.1]).map tI) (-1)=KE (tI p.2.1):=(by rw[bT];show adu _ _);show{rfl,rfl,rfl,?_};show bj n ?_;show{rfl,ls,k,W,_,p.2.2,p.2.1,rfl,#v[f,d.rm,d.lm,g,m],λmk r=>?_};rw[Yh r];show c7 (out:=λe:LQ=>trT (p.1++[p.2.1]++[e])) rfl _ _ (by change 0+_<=_;lia) (λe D Y s=>?_) ?_;{have u:=d.ln;show{bg rfl,by change((p.1++[p.2.1]).map tI).length+1<=1000000;rw[aC,aH,dR];lia,?_};change Y (.tup ((p.1++[p.2.1]).map tI++[tI e])) _;have w:trT (p.1++[p.2.1]++[e])=.tup ((p.1++[p.2.1]).map tI++[tI e]):=(by simp[trT]);rw[<-w];show s}
  ·have e:((B.take (i+1)).flatMap λp=>(ji ls W p.2.2 (ls.idxOf p.2.1)).map λe=>p.1++[p.2.1]++[e])=((B.take i).flatMap λp=>(ji ls W p.2.2 (ls.idxOf p.2.1)).map λe=>p.1++[p.2.1]++[e])++(ji ls W p.2.2 (ls.idxOf p.2.1)).map λe=>p.1++[p.2.1]++[e]:=by
    rw[cH,a];simp
   show{?_,?_}
   ·have E:((B.take i).flatMap λp=>(ji ls W p.2.2 (ls.idxOf p.2.1)).map λe=>p.1++[p.2.1]++[e]).length<=1000*300:=by
     show aV (zc (b:=300) λp a=>by rw[aC];show j p (qI a)) ?_;show iR _ ?_;rw[cK];lia
    rw[bR,aC,aC];lia
   ·show cast (NG N ?_) hN;rw[e,bT,dG];rfl
 ·change R _;rw[cW];show q
abbrev jq (K:List ck):Tr:=.dct (K.map ky) (K.map λ_=>.v (.bl MT))
def Fk {K:List ck}:g7 (K.map ky) (ky p)=MT↔p∈K:=by
 unfold g7;rw[pF];constructor;{intro a;let{x,b,e}:=a;let{q,c,rfl}:=bE.mp b;rw[<-Yg (of_decide_eq_true e)];show c};{intro h;show{ky p,qM h,NB rfl}}
open Classical in
noncomputable def qt (K:List ck)(g:LQ×AQ):AQ:=g.2.filter λc=>decide ((c,g.1)∈K)
noncomputable def ig (K:List ck)(b:LJ)(g:LQ×AQ):Option Bgn:=if qt K g=[]then MS else KE (b,g.1,qt K g)
noncomputable def xw (ls:LJ)(k:Nat)(W:Nat->Nat->Rl)(B:List Bgn)(K:List ck):List Bgn:=B.flatMap λp=>(goF ls k W p.2.2 (ls.idxOf p.2.1)).filterMap (ig K (p.1++[p.2.1]))
def Yi (C:MV):GS:=(ak (ic 3 0 (gLst gaN)) (ak (c8 [4,5,6,7,8] (giL (aa 1)) (.tup [4,5]) (c8 [6,7,8] (giL (ql C "goes_from" 3 (jz C) (aa 0) (gaV (aa 5) (gA1 (gOp ixD (aa 4) (xj (gI 1))))))) (.tup [6,7]) (ak (ax 8 (gCB Ai (gaE (cu 1 [2,6] (giT (aa 7)) (.one 0) (gT (gOp (inD MU) (gTup (gaV (aa 0) (gA1 (aa 2)))) (aa 1))) (aa 0)) gaN))) (sIf (ku (aa 8)) (gc (xk 3 (gTup (gaV (gOp c5 (aa 4) (gTup (gA1 (aa 6)))) (gA1 (aa 8)))))) cy)))) (bc (aa 3))))
def Aw (C:MV):GP:=λds R=>∃ls k W m B K,ds=[m,.lst (B.map bgT),jq K]/\w8 C ls k W m/\ls.length<=300/\k<=300/\(∀p∈B,BgOk ls k p)/\B.length<=1000/\R (.new (.lst ((xw ls k W B K).map bgT)))
open Classical in
def Yj {C:MV}:Pm (Yi C) 9 2 3 (Aw C):=by
 intro ds R T h;let{ls,k,W,_,B,K,rfl,n,r,s,hB,bl,q}:=h;let{x,rfl,U}:=id n;show{bg rfl,?_};have y:∀p:Bgn,((goF ls k W p.2.2 (ls.idxOf p.2.1)).filterMap (ig K (p.1++[p.2.1]))).length<=300:=λp=>aV (lC _ _) (aV (Bx _ _ _ _ _) r);unfold xw at q;show de (I:=λi=>{[KE (.v (.obj C ZZ [ltT ls,x])),KE (.v (.lst (B.map bgT))),KE (.v (jq K)),KE (.c 1),MS,MS,MS,MS,MS],[MS,KE (.lst (((B.take i).flatMap λp=>(goF ls k W p.2.2 (ls.idxOf p.2.1)).filterMap (ig K (p.1++[p.2.1]))).map bgT))]}) rfl (λi p N u hN=>?_) ?_
 ·have A:=aU u;have l:=hB p A;have E:atI ((p.1++[p.2.1]).map tI) (-1)=KE (tI p.2.1):=(by rw[bT];show adu _ _);have e:((B.take (i+1)).flatMap λp=>(goF ls k W p.2.2 (ls.idxOf p.2.1)).filterMap (ig K (p.1++[p.2.1])))=((B.take i).flatMap λp=>(goF ls k W p.2.2 (ls.idxOf p.2.1)).filterMap (ig K (p.1++[p.2.1])))++(goF ls k W p.2.2 (ls.idxOf p.2.1)).filterMap (ig K (p.1++[p.2.1])):=by
   rw[cH,u];simp
  have b1:((B.take i).flatMap λp=>(goF ls k W p.2.2 (ls.idxOf p.2.1)).filterMap (ig K (p.1++[p.2.1]))).length<=1000*300:=by
   show aV (zc (b:=300) λp _=>y p) ?_;show iR _ ?_;rw[cK];lia
  rw[e]at hN;have G:=Bx ls k W p.2.2 (ls.idxOf p.2.1);have H:∀g∈goF ls k W p.2.2 (ls.idxOf p.2.1),g.2.length<=300:=λg f=>by
   let{j,_,e,_}:=u9 f;rw[e];show aV (Du _ _ _ _ _) s
  generalize ((B.take i).flatMap λp=>(goF ls k W p.2.2 (ls.idxOf p.2.1)).filterMap (ig K (p.1++[p.2.1])))=D at *;show{rfl,rfl,?_};show bj E ?_;show{rfl,ls,k,W,_,p.2.2,p.2.1,rfl,#v[n,l.rm,l.lm,r,s],?_};generalize goF ls k W p.2.2 (ls.idxOf p.2.1)=a at *;show de (I:=λj=>{[KE (.v (.obj C ZZ [ltT ls,x])),KE (.v (.lst (B.map bgT))),KE (.v (jq K)),KE (.c 1),KE (.v (trT (p.1++[p.2.1]))),KE (.v (rmT p.2.2)),MS,MS,MS],[MS,KE (.lst ((D++(a.take j).filterMap (ig K (p.1++[p.2.1]))).map bgT))]}) (by simp[locs,fgt,List.set]) (λj g w f m=>?_) ?_
  ·have g3:=H g (aU f);have bn:=l.ln;show fw (p:=λc=>decide ((c,g.1)∈K)) (out:=λc:Nat=>iT (c:Int)) rfl _ _ (by change 0+_<=_;lia) (λc hc Y Z J L=>?_) ?_;{show{bg rfl,ky (c,g.1),rfl,?_};by_cases d:(c,g.1)∈K;{show sfY (Fk.mpr d) ?_;show J (NB d)};{show sfN (⇑(λz=>d (Fk.mp z))) ?_;show L (NA d)}}
   ·rw[bR];have O:g.2.filter (λc=>decide ((c,g.1)∈K))=qt K g:=rfl;rw[O];have Q:a.take (j+1)=a.take j++[g]:=(by rw[cH,f];rfl);rw[Q,kC,<-dX]at m;have fl:(D++(a.take j).filterMap (ig K (p.1++[p.2.1]))).length<=500000:=by
     rw[aH];have:=lC (ig K (p.1++[p.2.1])) (a.take j);rw[cK]at this;lia
    by_cases d:qt K g=[];{show ifN (show(!((qt K g).map λc:Nat=>iT (c:Int)).isEmpty)=MU by rw[d];rfl) ?_;show ie ?_;show cast (NG (λz:List Bgn=>w ({[KE (.v (.obj C ZZ [ltT ls,x])),KE (.v (.lst (B.map bgT))),KE (.v (jq K)),KE (.c 1),KE (.v (trT (p.1++[p.2.1]))),KE (.v (rmT p.2.2)),MS,MS,MS],[MS,KE (.lst (z.map bgT))]}:M)) ?_) m;simp[ig,d]};{show ifY (show(!((qt K g).map λc:Nat=>iT (c:Int)).isEmpty)=MT by simpa using d) ?_;show{rfl,bg rfl,by change((p.1++[p.2.1]).map tI).length+1<=1000000;rw[aC,aH,dR];lia,bg rfl,by change(sF bgT _).length<1000000;rw[aC];lia,?_};show cast (NG (λz:D2=>w ({[KE (.v (.obj C ZZ [ltT ls,x])),KE (.v (.lst (B.map bgT))),KE (.v (jq K)),KE (.c 1),KE (.v (trT (p.1++[p.2.1]))),KE (.v (rmT p.2.2)),MS,MS,MS],[MS,KE (.lst z)]}:M)) ?_) m;rw[bT (l₁:=D++_)];simp[ig,d]}
  ·rw[cW];show hN
 ·change R _;rw[cW];show q
def VdR (ls:LJ)(k:Nat)(p:ck):Prop:=p.1<k+1/\p.2∈ls
def Ax (ls:LJ)(k:Nat):Prop:=∀P w p q,VdR ls k p->VdR ls k q->d8 P w (ky p)=d8 P w (ky q)->p=q
def Ahd (ls:LJ)(k:Nat)(W:Nat->Nat->Rl)(K:List ck)(p:ck):Prop:=∃g∈goL ls k W p.1 (ls.idxOf p.2),(g.2,g.1)∈K
def ahc {K:List ck}(hi:Ax ls k)(nd:K.Nodup)(c:∀p∈K,VdR ls k p)(P:aQ)(w:bC):((K.map ky).map (d8 P w)).Nodup:=by
 rw[dG];show List.pairwise_map.mpr (List.Pairwise.imp_of_mem (λ{a b} d f g e=>g ?_) nd);rw[Function.comp_apply,Function.comp_apply]at e;show hi P w a b (c a d) (c b f) e
open Classical in
def Rj (K:List ck)(p:ck):mz (K.map ky) (ky p)=(if p∈K then K else K++[p]).map ky/\m8 (K.map ky) (K.map λ_=>Tr.v (.bl MT)) (ky p) (.v (.bl MT))=(if p∈K then K else K++[p]).map λ_=>Tr.v (.bl MT):=by
 have a:ky p∈K.map ky↔p∈K:=⟨λh=>by
   obtain⟨q,b,e⟩:_:=bE.mp h;rw[<-Yg e];show b,λh=>qM h⟩
 unfold mz m8;by_cases c:p∈K;{rw[MZ (a.mpr c),MZ (a.mpr c),MZ c];show{rfl,?_};rw[List.zipWith_map];simp};{rw[M' λz=>c (a.mp z),M' λz=>c (a.mp z),M' c,bT,bT];show#v[rfl,rfl]}
def Dv (C:MV):GS:=(ak (ic 3 0 (gCB Kt (gaE (aa 2) gaN))) (ak (c8 [4] (giL (aa 1)) (.one 4) (sIf (ku (gCB (Gw λbs=>bs.any id) (gaE (cu 2 [2] (giL (ql C "goes" 3 (xv C) (aa 0) (gaV (gOp ixD (aa 4) (gI 0)) (gA1 (gOp ixD (aa 4) (gI 1)))))) (.tup [0,1]) dq (gOp (inD MU) (gTup (gaV (aa 1) (gA1 (aa 0)))) (aa 2))) gaN))) (Tw 3 (gC (.v (.bl MT))) (aa 4)) cy)) (bc (aa 3))))
def pb (C:MV):GP:=λds R=>∃ls k W m a K,ds=[m,ssT a,jq K]/\w8 C ls k W m/\ls.length<=300/\k<=300/\Ax ls k/\(∀p∈a,VdR ls k p)/\a.length<=100000/\K.Nodup/\(∀p∈K,VdR ls k p)/\K.length<=100000/\
 ∀b:List ck,b.Nodup->(∀p,p∈b↔p∈K\/(p∈a/\Ahd ls k W K p))->b.length<=K.length+a.length->R (.new (jq b))
open Classical in
def Dw {C:MV}:Pm (Dv C) 5 2 3 (pb C):=by
 intro ds R hl h;obtain⟨ls,k,W,_,r,K,rfl,w,y,A,hi,J,pl,nd,L,kl,q⟩:_:=h;obtain⟨x,rfl,hx⟩:_:=id w;show{ahc hi nd L,?_};show jk (I:=λi m=>∃d:List ck,m={[KE (.v (.obj C ZZ [ltT ls,x])),KE (.v (ssT r)),KE (.v (jq K)),KE (.c 1),MS],[MS,KE (jq d)]}/\d.Nodup/\(∀p,p∈d↔p∈K\/(p∈r.take i/\Ahd ls k W K p))/\d.length<=K.length+i) {K,rfl,nd,by simp,aI _} ?_ ?_
 ·rintro i p m N u ⟨d,rfl,n1,s,D⟩ hN;have BC:=bf u;have E:=J p (aU u);have G:∀q,q∈r.take (i+1)↔q∈r.take i\/q=p:=λq=>(by rw[cH,u];simp);show{rfl,rfl,rfl,ls,k,W,_,p.1,p.2,rfl,{w,by simpa using E.1,E.2,y,A},?_};have gl:(goL ls k W p.1 (ls.idxOf p.2)).length<=300*300:=by
   unfold goL;show aV (zc (b:=300) λg n=>?_) (iR _ (aV (Bx _ _ _ _ _) y));rw[aC];obtain⟨j,_,e,_⟩:_:=u9 n;rw[e];show aV (Du _ _ _ _ _) A
  have H:Ahd ls k W K p↔((goL ls k W p.1 (ls.idxOf p.2)).map λg=>g7 (K.map ky) (ky (g.2,g.1))).any id=MT:=by
   rw[List.any_map,pF];constructor;{rintro⟨g,n,h⟩;show{g,n,Fk.mpr h}};{rintro⟨g,n,h⟩;show{g,n,Fk.mp h}}
  generalize goL ls k W p.1 (ls.idxOf p.2)=O at *;show c7 (out:=λg:LQ×Nat=>Tr.v (.bl (g7 (K.map ky) (ky (g.2,g.1))))) rfl _ _ (by change 0+_<=_;omega) (λg n Y Q=>?_) ?_;{show{bg rfl,ky (g.2,g.1),rfl,Q}}
  ·rw[bR];show{O.map λg=>g7 (K.map ky) (ky (g.2,g.1)),by rw[dG];rfl,?_};by_cases c:Ahd ls k W K p
   ·show ifY (H.mp c) ?_;obtain⟨T,U⟩:_:=Rj d p;show{ky p,rfl,by rw[aC];omega,?_};change N ({[KE (.v (.obj C ZZ [ltT ls,x])),KE (.v (ssT r)),KE (.v (jq K)),KE (.c 1),MS],[MS,KE (.dct (mz (d.map ky) (ky p)) (m8 (d.map ky) (d.map λ_=>Tr.v (.bl MT)) (ky p) (.v (.bl MT))))]}:M);rw[T,U];show hN _ {if p∈d then d else d++[p],rfl,?_,λq=>?_,?_};{split;{show n1};{next h=>show List.nodup_append.mpr {n1,List.nodup_cons.mpr {(λz=>nomatch z),List.nodup_nil},λa ha b hb e=>h (by rw[<-aN.mp hb,<-e];show ha)}}}
    ·have hq:q∈(if p∈d then d else d++[p])↔q∈d\/q=p:=by
      split;{next h=>show⟨.inl,λz=>by rcases z with z | rfl;show z;show h⟩};{rw[dF,aN]}
     rw[hq,s,G];constructor;{rintro((h | ⟨l,f⟩) | rfl);{show .inl h};{show .inr {.inl l,f}};{show .inr {.inr rfl,c}}};{rintro(h | ⟨l | rfl,f⟩);{show .inl (.inl h)};{show .inl (.inr #v[l,f])};{show .inr rfl}}
    ·split;{omega};{rw[aH,dR];omega}
   ·show ifN (⇑(λz=>c (H.mpr z))) ?_;show ie ?_;show hN _ {d,rfl,n1,λq=>?_,()};rw[s,G];constructor;{rintro(h | ⟨l,f⟩);{show .inl h};{show .inr {.inl l,f}}};{rintro(h | ⟨l | rfl,f⟩);{show .inl h};{show .inr #v[l,f]};{show NC f c}}
 ·rintro m ⟨d,rfl,n1,s,D⟩;rw[cW]at s;show q d n1 s D
def gv (ls:LJ)(k:Nat)(W:Nat->Nat->Rl):Nat->ck->Prop
 |0=>λp=>∃j,j<ls.length/\W p.1 0 (ls.idxOf p.2) j
 |m+1=>λp=>gv ls k W m p\/∃g∈goL ls k W p.1 (ls.idxOf p.2),gv ls k W m (g.2,g.1)
def prs (ls:LJ)(k:Nat):List ck:=(bG (k+1)).flatMap λr=>ls.map λl=>(r,l)
def Rk:p∈prs ls k↔VdR ls k p:=by
 unfold prs VdR;rw[List.mem_flatMap];constructor;{intro a;let{r,b,h}:=a;let{l,c,rfl}:=bE.mp h;show{bY.mp b,c}};{intro a;let{d,e}:=a;show{p.1,bY.mpr d,bE.mpr #v[p.2,e,rfl]}}
def aku (k:Nat)(nd:ls.Nodup):(prs ls k).Nodup:=by
 unfold prs;show List.pairwise_flatMap.mpr {λr _=>?_,?_};{show List.Pairwise.map _ (λa b c e=>c (Prod.mk.inj e).2) nd};{show List.Pairwise.imp (λ{a b} c x d y f e=>?_) List.nodup_range;subst e;let{l,_,rfl}:=bE.mp d;let{g,_,e}:=bE.mp f;show c (Prod.mk.inj e).1.symm}
theorem Rm:∀(Q K:List ck),(K++Q).Nodup->R ((K++Q).map ky) ((K++Q).map λ_=>Tr.v (.bl MT))->Av (Q.map λp=>(ky p,Tr.v (.bl MT))) (K.map ky) (K.map λ_=>Tr.v (.bl MT)) R
 | [],K,_,h=>by rw[bP]at h;show h
 |p::Q,K,nd,h=>by
  have a:p ∉ K:=λz=>(List.nodup_append.mp nd).2.2 p z p aR rfl;have e:=Rj K p;rw[M' a]at e;change Av _ (mz (K.map ky) (ky p)) (m8 (K.map ky) (K.map λ_=>Tr.v (.bl MT)) (ky p) (.v (.bl MT))) R;rw[e.1,e.2];have b:K++p::Q=(K++[p])++Q:=∅;rw[b]at nd h;show Rm Q (K++[p]) nd h
def akv (h:g∈goL ls k W r i):VdR ls k (g.2,g.1):=by
 unfold goL at h;let{p,b,d}:=eM.mp h;let{c,a,rfl}:=bE.mp d;let{j,e,f,_}:=u9 b;rw[f]at a;unfold du at a;let{l,h0,rfl}:=bE.mp (dE.mp a).1;show⟨by have:=bY.mp h0;change l+1<k+1;lia,aU e⟩
def Hr (C:MV):GS:=(ak (ic 2 0 (gLst gaN)) (ak (c8 [3] (giR (gA1 (ql C "rooms" 1 (wa C) (aa 0) gaN))) (.one 3) (gc (gMc "list" 2 pq (gaE (cu 1 [3] (giL (Ao C "letters" (aa 0))) (.one 0) dq (gTup (gaV (aa 1) (gA1 (aa 0))))) gaN)))) (ak (ax 4 (gCB Kt (gaE (cu 1 [0] (giL (aa 2)) (.one 0) (ku (ql C "ends" 3 (xu C) (aa 1) (gaV (gX (aa 0) (gI 0)) (gA1 (gX (aa 0) (gI 1)))))) (gTup (gaV (aa 0) (gA1 (gC (.v (.bl MT))))))) gaN))) (ak (ic 5 1 (gLst gaN)) (ak (c8 [6] (giR (gA1 (aa 1))) (.one 6) (ak (gc (xk 5 (aa 4))) (ax 4 (ar 3 (pb C) (gaV (aa 0) (gaV (aa 2) (gA1 (aa 4)))))))) (bc (aa 5)))))))
def sv (C:MV):GP:=λds R=>∃ls k W m n,ds=[m,iT ((n:Nat):Int)]/\w8 C ls k W m/\ls.Nodup/\ls.length<=300/\k<=300/\Ax ls k/\n<=100/\
 ∀a:List (List ck),a.length=n->(∀m K,a[m]?=KE K->∀p,p∈K↔VdR ls k p/\gv ls k W m p)->R (.new (.lst (a.map jq)))
open Classical in
def Hs:Pm (Hr C) 7 3 2 (sv C):=by
 intro ds R hl h;let{ls,k,W,_,n,rfl,G,nd,H,zJ,hi,hn,q}:=h;let{x,rfl,hx}:=id G;show{bg rfl,rfl,rfl,rfl,ls,k,W,_,rfl,G,by change(-1000000:Int)<=((k+1:Nat):Int);lia,by change((k+1:Nat):Int)<=1000000;lia,?_};change dh _ _ _ _ (fk 0 (((k+1:Nat):Int)).toNat) _;rw[bQ,e8];show de (I:=λi=>{[KE (.v (.obj C ZZ [ltT ls,x])),KE (.v (iT ((n:Nat):Int))),KE (.c 1),MS,MS,MS,MS],[MS,KE (ssT ((bG i).flatMap λr=>ls.map λl=>(r,l))),MS]}) rfl (λi r N O hN=>?_) ?_
 ·have BC:=bf O;rw[bM]at BC;rw[cY BC]at O;cases O;have fl:((bG i).flatMap λr=>ls.map λl=>((r,l):ck)).length<=301*300:=by
   show aV (zc (b:=300) λr _=>by rw[aC];show H) (iR _ ?_);rw[bM];lia
  show{rfl,rfl,?_};show c7 (out:=λl:LQ=>sT (i,l)) rfl _ _ (by change 0+_<=_;lia) (λl hl Y Q=>{bg rfl,Q}) ?_;have e:((bG (i+1)).flatMap λr=>ls.map λl=>((r,l):ck))=((bG i).flatMap λr=>ls.map λl=>((r,l):ck))++ls.map λl=>((i,l):ck):=by
   rw[lW];simp
  rw[e]at hN;show{?_,?_};{rw[bR,aC,aC];lia}
  ·show cast (NG N ?_) hN;have es:ssT (((bG i).flatMap λr=>ls.map λl=>((r,l):ck))++ls.map λl=>((i,l):ck))=Tr.lst ((((bG i).flatMap λr=>ls.map λl=>((r,l):ck)).map sT)++ls.map λl=>sT (i,l)):=by
    change Tr.lst (sF sT (_++_))=_;rw[bT,dG];rfl
   rw[es];rfl
 ·rw[bM];have ep:((bG (k+1)).flatMap λr=>ls.map λl=>((r,l):ck))=prs ls k:=rfl;rw[ep];have T:=aku k nd;have pl:(prs ls k).length<=301*300:=by
   unfold prs;show aV (zc (b:=300) λr _=>by rw[aC];show H) (iR _ ?_);rw[bM];lia
  have vp:∀p∈prs ls k,VdR ls k p:=λp f=>Rk.mp f;have U:∀p,p∈prs ls k↔VdR ls k p:=λp=>Rk;generalize prs ls k=s at *;show fw (p:=λp:ck=>decide (gv ls k W 0 p)) (out:=λp=>Tr.tup [sT p,.v (.bl MT)]) rfl _ _ (by change 0+_<=_;lia) (λp f Y Z Q hZ=>?_) ?_
  ·have v:=vp p f;show{rfl,rfl,rfl,ls,k,W,_,p.1,p.2,rfl,{G,by simpa using v.1,v.2,H,zJ},λmk CV=>?_};have ec:gv ls k W 0 p↔dn mk ls ls.length≠[]:=by
    constructor;{intro E e;let{j,w,hw}:=E;have:ls[j]∈dn mk ls ls.length:=L6.mpr {j,w,(CV.2 j w).mpr hw,aB w};rw[e]at this;show nomatch this};{intro AI;let{y,hy}:=List.exists_mem_of_ne_nil _ AI;let{j,w,hb,_}:=L6.mp hy;show{j,w,(CV.2 j w).mp hb}}
   by_cases c:gv ls k W 0 p;{show ifY (show(!((dn mk ls ls.length).map tI).isEmpty)=MT by simpa using ec.mp c) ?_;show{bg rfl,Q (NB c)}};{show ifN (show(!((dn mk ls ls.length).map tI).isEmpty)=MU by simpa using λz=>c (ec.mpr z)) ?_;show hZ (NA c)}
  ·rw[bR];have LS:(s.filter λp=>decide (gv ls k W 0 p)).Nodup:=T.filter _;have k0m:∀p,p∈s.filter (λp=>decide (gv ls k W 0 p))↔VdR ls k p/\gv ls k W 0 p:=λp=>(by rw[List.mem_filter,WX,U]);have k0l:(s.filter λp=>decide (gv ls k W 0 p)).length<=100000:=aV (iA _ _) ();generalize s.filter (λp=>decide (gv ls k W 0 p))=K0 at *;show{K0.map λp=>(ky p,Tr.v (.bl MT)),by rw[dG];rfl,by rw[aC];lia,Rm K0 [] LS ?_};show{bg rfl,by change(-1000000:Int)<=((n:Nat):Int);lia,by change((n:Nat):Int)<=1000000;lia,?_};change dh _ _ _ _ (fk 0 (((n:Nat):Int)).toNat) _;rw[bQ,e8];show jk (I:=λi m=>∃(a:List (List ck))(K:List ck),m={[KE (.v (.obj C ZZ [ltT ls,x])),KE (.v (iT ((n:Nat):Int))),KE (.v (ssT s)),MS,KE (.v (jq K)),KE (.c 2),MS],[MS,MS,KE (.lst (a.map jq))]}/\a.length=i/\(∀m K,a[m]?=KE K->∀p,p∈K↔VdR ls k p/\gv ls k W m p)/\K.Nodup/\(∀p,p∈K↔VdR ls k p/\gv ls k W i p)) {[],K0,rfl,rfl,(λm K e=>by cases e),LS,k0m} ?_ ?_
   ·intro i y m N hy E hN;let{a,K,hm,J,kc,kn,A}:=E;have hiy:=bf hy;rw[bM]at hiy;have kv:∀p∈K,VdR ls k p:=λp f=>((A p).mp f).1;have kle:K.length<=100000:=aV (Rh kn λp f=>(U p).mpr (kv p f)) ();have nxt:∀d:List ck,(∀p,p∈d↔p∈K\/(p∈s/\Ahd ls k W K p))->∀p,p∈d↔VdR ls k p/\gv ls k W (i+1) p:=λd h p=>by
     rw[h,A,U];constructor;{rintro(⟨D,u⟩ | ⟨D,g,L,u⟩);{show{D,.inl u}};{show{D,.inr {g,L,((A _).mp u).2}}}};{rintro⟨D,u | ⟨g,L,u⟩⟩;{show .inl #v[D,u]};{show .inr {D,g,L,(A _).mpr {akv L,u}}}}
    have lst:∀m d,(a++[K])[m]?=KE d->∀p,p∈d↔VdR ls k p/\gv ls k W m p:=λm d e=>by
     by_cases c:m<a.length;{rw[cE c]at e;show kc m d e};{rw[cQ ()]at e;have:m-a.length=0:=(by have:=bf e;simp at this;lia);rw[this]at e;cases e;rw[show m=i by lia];show A}
    have em:(a++[K]).map jq=a.map jq++[jq K]:=(by rw[bT];rfl);have kll:(a.map jq).length<1000000:=(by rw[aC];lia);subst hm;show{rfl,kll,?_};show{rfl,ls,k,W,_,s,K,rfl,G,H,zJ,hi,vp,(),kn,kv,kle,λd n' m' _=>hN _ {a++[K],d,?_,by rw[aH,J];rfl,lst,n',nxt d m'}};rw[em];rfl
   ·intro m E;let{a,K,hm,J,kc,kn,A}:=E;rw[bM]at J;subst hm;show q a J kc
abbrev ki:Tr:=.v (.int 400)
noncomputable def Bm (ls:LJ)(k:Nat)(W:Nat->Nat->Rl)(a:LQ)(n:Nat)(b:List (List ck)):Nat->List Bgn
 |0=>[([],a,[0])]
 |m+1=>xw ls k W (Bm ls k W a n b m) (b.getD (n-m-1) [])
noncomputable def j3 (ls:LJ)(k:Nat)(W:Nat->Nat->Rl)(a:LQ)(n:Nat)(b:List (List ck))(m:Nat):List (LJ):=(bG m).flatMap λj=>kg ls W (Bm ls k W a n b j)
def ahd {ls:LJ}{k:Nat}{W:Nat->Nat->Rl}{B:List Bgn}{K:List ck}{h:Nat}(hB:∀p∈B,p.2.1∈ls/\(∀r∈p.2.2,r<k+1)/\p.1.length=h):∀p∈xw ls k W B K,p.2.1∈ls/\(∀r∈p.2.2,r<k+1)/\p.1.length=h+1:=λp b=>by
 unfold xw at b;let{q,d,f}:=eM.mp b;let{g,i,e}:=qX.mp f;let{j,l,m,_}:=u9 i;unfold ig at e
 split at e;{cases e};{cases e;show{aU l,λc a=>?_,by change(q.1++[q.2.1]).length=_;rw[aH,(hB q d).2.2];rfl};unfold qt at a;have a:=(dE.mp a).1;rw[m]at a;unfold du at a;let{n,h0,rfl}:=bE.mp (dE.mp a).1;have:=bY.mp h0;change n+1<k+1;lia}
theorem adv {ls:LJ}{k:Nat}{W:Nat->Nat->Rl}{a:LQ}{n:Nat}{c:List (List ck)}(b:a∈ls):∀m,∀p∈Bm ls k W a n c m,p.2.1∈ls/\(∀r∈p.2.2,r<k+1)/\p.1.length=m
 |0=>λp d=>by
  cases aN.mp d;show{b,λr e=>by rw[aN.mp e];lia,rfl}
 |m+1=>ahd (adv b m)
def Ht (W:Nat->Nat->Rl)(n k:Nat):AQ->Nat->Nat->Nat->Prop
 | [],r,_,c=>c=r
 |m::ns,r,i,c=>∃a,1<=a/\a<=k/\m<n/\W r a i m/\Ht W n k ns a m c
def i8 (i:Nat):AQ->Nat
 | []=>i
 |m::ns=>i8 m ns
section
variable {W:Nat->Nat->Rl}{n k:Nat}
theorem Dx:∀ns r i e,Run W n k ns r i e↔∃c,Ht W n k ns r i c/\W c 0 (i8 i ns) e
 | [],r,i,e=>{λh=>#v[r,rfl,h],λ⟨c,a,b⟩=>by cases a;show b}
 |m::ns,r,i,e=>by
  constructor;{rintro⟨c,a,b,f,g,p⟩;obtain⟨d,j,l⟩:_:=(Dx ns c m e).mp p;show{d,#v[c,a,b,f,g,j],l}};{rintro⟨d,⟨c,a,b,f,g,j⟩,l⟩;show{c,a,b,f,g,(Dx ns c m e).mpr #v[d,j,l]}}
theorem uw:∀ns i m,i8 i (ns++[m])=m
 | [],_,_=>rfl
 |x::ns,_,m=>uw ns x m
theorem uc:∀ns r i m c,Ht W n k (ns++[m]) r i c↔∃d,Ht W n k ns r i d/\1<=c/\c<=k/\m<n/\W d c (i8 i ns) m
 | [],r,i,m,c=>by
  constructor;{rintro⟨g,a,b,e,f,rfl⟩;show#v[r,rfl,a,b,e,f]};{rintro⟨d,rfl,a,b,e,f⟩;show#v[c,a,b,e,f,rfl]}
 |x::ns,r,i,m,c=>by
  constructor;{rintro⟨g,a,b,e,f,p⟩;obtain⟨d,j,l⟩:_:=(uc ns g x m c).mp p;show{d,#v[g,a,b,e,f,j],l}};{rintro⟨d,⟨g,a,b,e,f,j⟩,l⟩;show{g,a,b,e,f,(uc ns g x m c).mpr #v[d,j,l]}}
end
def wb (ls:LJ)(a:LQ):Nat->List (LJ×LQ)
 |0=>[([],a)]
 |m+1=>(wb ls a m).flatMap λx=>ls.map λl=>(x.1++[x.2],l)
theorem Fl (ls:LJ)(a:LQ):∀m,(wb ls a m).map (λx=>x.1++[x.2])=gu ls a m
 |0=>rfl
 |m+1=>by
  unfold wb gu;rw[List.map_flatMap,<-Fl ls a m,nF];congr 1
  funext x
  rw[dG];rfl
section
variable {ls:LJ}{k:Nat}{W:Nat->Nat->Rl}{a:LQ}{n:Nat}
def xx (ls:LJ)(x:LJ×LQ):AQ:=((x.1++[x.2]).tail).map ls.idxOf
def zh (x:LJ×LQ)(l:LQ):xx ls (x.1++[x.2],l)=xx ls x++[ls.idxOf l]:=by
 unfold xx;have:((x.1++[x.2])++[l]).tail=(x.1++[x.2]).tail++[l]:=(by cases x.1<;>rfl);change(((x.1++[x.2])++[l]).tail).map ls.idxOf=_;rw[this,bT];rfl
theorem Dy:∀{m x},x∈wb ls a m->i8 (ls.idxOf a) (xx ls x)=ls.idxOf x.2
 |0,x,h=>by cases aN.mp h;rfl
 |m+1,x,h=>by
  obtain⟨y,c,b⟩:_:=eM.mp h;obtain⟨l,d,rfl⟩:_:=bE.mp b;rw[zh,uw]
open Classical in
noncomputable def rsF (ls:LJ)(k:Nat)(W:Nat->Nat->Rl)(a:LQ)(n m:Nat)(x:LJ×LQ):AQ:=if m=0 then [0]else ((bG k).map (·+1)).filter λc=>decide (Ht W ls.length k (xx ls x) 0 (ls.idxOf a) c/\gv ls k W (n-m) (c,x.2))
noncomputable def FF (ls:LJ)(k:Nat)(W:Nat->Nat->Rl)(a:LQ)(n m:Nat)(x:LJ×LQ):Option Bgn:=if rsF ls k W a n m x=[]then MS else KE (x.1,x.2,rsF ls k W a n m x)
def akw (d:ls[j]?=KE l)(f:1<=c)(g:c<=k)(hw:W r c i j):(l,c)∈goL ls k W r i:=by
 unfold goL;have b:c∈du k W [r] i j:=by
  unfold du;show dE.mpr {bE.mpr {c-1,bY.mpr (),()},?_};show @decide_eq_true _ (lN _) {r,aN.mpr rfl,hw}
 show eM.mpr {(l,du k W [r] i j),?_,bE.mpr #v[c,b,rfl]};unfold goF;show List.mem_filterMap.mpr {(l,j),List.mem_zipIdx_iff_getElem?.mpr d,?_};rw[M' λe=>by rw[e]at b;show nomatch b]
def g9 {P:Prop}{i:Decidable P}:@decide P i=MT↔P:=WX
def ahe {m j:Nat}{x:LJ×LQ}{l:LQ}{K:List ck}(nd:ls.Nodup)(b:x∈wb ls a m)(I:m<n)(e:ls[j]?=KE l)(u:∀p,p∈K↔VdR ls k p/\gv ls k W (n-m-1) p) :
  rsF ls k W a n (m+1) (x.1++[x.2],l)=qt K (l,du k W (rsF ls k W a n m x) (ls.idxOf x.2) j):=by
 have i:l∈ls:=aU e;have q:=bf e;have w:ls.idxOf l=j:=by
  have A:ls[ls.idxOf l]?=KE l:=(by rw[aB (cM.mpr i),gE]);show(mK (cM.mpr i) nd).mp (A.trans e.symm)
 unfold rsF qt du;rw[M' (),List.filter_filter];show iX λc C=>?_;obtain⟨r,h0,rfl⟩:_:=bE.mp C;have D:=bY.mp h0;rw[eJ,eG,g9,g9,g9,zh,uc,Dy b,w,u];have en:n-(m+1)=n-m-1:=();rw[en];constructor
 ·rintro⟨⟨d,f,J,L,N,s⟩,g⟩;show{{{by change r+1<k+1;omega,i},g},d,?_,s};by_cases z:m=0;{subst z;rw[MZ rfl];cases aN.mp b;cases f;show aN.mpr rfl}
  ·rw[M' z];have dk:1<=d/\d<=k:=by
    cases m with
    |zero=>show NC rfl z
    |succ O=>
     obtain⟨y,Q,E⟩:_:=eM.mp b;obtain⟨T,U,rfl⟩:_:=bE.mp E;rw[zh,uc]at f;obtain⟨_,_,G,H,_⟩:_:=f;show#v[G,H]
   show dE.mpr {bE.mpr {d-1,bY.mpr (),()},?_};show g9.mpr {f,?_};rw[show n-m=(n-m-1)+1 by omega];show .inr {(l,r+1),akw e () () s,g}
 ·rintro⟨⟨_,g⟩,d,hd,hw⟩;show{{d,?_,(),(),q,hw},g};by_cases z:m=0;{subst z;rw[MZ rfl]at hd;cases aN.mp b;rw[aN.mp hd];rfl};{rw[M' z]at hd;show(g9.mp (dE.mp hd).2).1}
theorem Ug {b c γ:Type}(f:b->Option c)(g:c->List γ):∀l:List b,(l.filterMap f).flatMap g=l.flatMap λx=>(f x).elim [] g
 | []=>rfl
 |x::l=>by
  rw[dJ,<-Ug f g l];cases e:f x with
  |none=>rw[lE e];rfl
  |some y=>rw[jL e,dJ];rfl
theorem j4 {b c:Type}{f g:b->List c}:∀{l:List b},(∀x∈l,f x=g x)->l.flatMap f=l.flatMap g
 | [],_=>rfl
 |x::l,h=>by rw[dJ,dJ,h x aR,j4 λy d=>h y (aP _ d)]
theorem M8 {b i:Type}{f g:b->Option i}:∀{l:List b},(∀x∈l,f x=g x)->l.filterMap f=l.filterMap g
 | [],_=>rfl
 |x::l,h=>by
  have c:=M8 λy j=>h y (aP _ j);have d:=h x aR;cases e:f x with
  |none=>rw[lE e,lE (d ▸ e),c]
  |some y=>rw[jL e,jL (d ▸ e),c]
def akx {b c:Type}(f:b->Option c)(l:List b):l.filterMap f=l.zipIdx.filterMap λq=>f q.1:=by
 have h:(l.zipIdx.map uB).filterMap f=l.zipIdx.filterMap (f∘uB):=qY;rw[List.zipIdx_map_fst]at h;show h
theorem Uh (nd:ls.Nodup){b:List (List ck)}(i:b.length=n)(f:∀m K,b[m]?=KE K->∀p,p∈K↔VdR ls k p/\gv ls k W m p):∀m,m<=n->Bm ls k W a n b m=(wb ls a m).filterMap (FF ls k W a n m)
 |0,_=>by
  change[([],a,[0])]=tM _ [([],a)];have:FF ls k W a n 0 ([],a)=KE ([],a,[0]):=by
   unfold FF rsF;rw[MZ rfl,M' ∅]
  rw[jL this];rfl
 |m+1,h=>by
  obtain⟨K,g⟩:∃K,b[n-m-1]?=KE K:={_,aB ()};have s:b.getD (n-m-1) []=K:=(by rw[bO,g];rfl);change xw ls k W (Bm ls k W a n b m) (b.getD (n-m-1) [])=((wb ls a m).flatMap λx=>ls.map λl=>(x.1++[x.2],l)).filterMap (FF ls k W a n (m+1));rw[s,Uh nd i f m ()];unfold xw;rw[Ug,List.filterMap_flatMap];show j4 λx u=>?_;have key:∀l j,ls[j]?=KE l->FF ls k W a n (m+1) (x.1++[x.2],l)=ig K (x.1++[x.2]) (l,du k W (rsF ls k W a n m x) (ls.idxOf x.2) j):=λl j e=>by
   unfold FF ig;rw[ahe nd u () e (f _ K g)]
  rw[qY];by_cases c:rsF ls k W a n m x=[]
  ·have e0:FF ls k W a n m x=MS:=(by unfold FF;rw[MZ c]);rw[e0];show(List.filterMap_eq_nil_iff.mpr λl w=>?_).symm;obtain⟨j,e⟩:_:=kE.mp w;change FF ls k W a n (m+1) (x.1++[x.2],l)=MS;rw[key l j e,c];have:du k W [] (ls.idxOf x.2) j=[]:=by
    unfold du;show jV.mpr λy _ z=>?_;obtain⟨r,A,_⟩:_:=g9.mp z;show nomatch A
   unfold ig qt;rw[this];rfl
  ·have e0:FF ls k W a n m x=KE (x.1,x.2,rsF ls k W a n m x):=(by unfold FF;rw[M' c]);rw[e0];change(goF ls k W (rsF ls k W a n m x) (ls.idxOf x.2)).filterMap (ig K (x.1++[x.2]))=_;unfold goF;rw[List.filterMap_filterMap];have C:ls.filterMap (FF ls k W a n (m+1)∘λl=>(x.1++[x.2],l))=ls.zipIdx.filterMap λq=>FF ls k W a n (m+1) (x.1++[x.2],q.1):=by
    show akx _ ls
   rw[C];show M8 λq D=>?_;have e:=iS.mp D;rw[key q.1 q.2 e];by_cases d:du k W (rsF ls k W a n m x) (ls.idxOf x.2) q.2=[];{rw[MZ d,d];unfold ig qt;rfl};{rw[M' d];rfl}
theorem Rn:∀d,gv ls k W q p->gv ls k W (q+d) p
 |0,h=>h
 |d+1,h=>.inl (Rn d h)
def aky {m j:Nat}{x:LJ×LQ}(b:x∈wb ls a m)(u:m<=n)(g:j<ls.length):lg W (rsF ls k W a n m x) (ls.idxOf x.2) 0 j↔Run W ls.length k (xx ls x) 0 (ls.idxOf a) j:=by
 rw[Dx,Dy b];unfold lg rsF;by_cases z:m=0;{subst z;rw[MZ rfl];cases aN.mp b;constructor;{rintro⟨r,e,hw⟩;rw[aN.mp e]at hw;show{0,rfl,hw}};{rintro⟨c,i,hw⟩;cases i;show{0,aN.mpr rfl,hw}}}
 ·rw[M' z];constructor;{rintro⟨r,e,hw⟩;show{r,(g9.mp (dE.mp e).2).1,hw}}
  ·rintro⟨d,f,hw⟩;have dk:1<=d/\d<=k:=by
    cases m with
    |zero=>show NC rfl z
    |succ w=>
     obtain⟨y,A,l⟩:_:=eM.mp b;obtain⟨C,D,rfl⟩:_:=bE.mp l;rw[zh,uc]at f;obtain⟨_,_,p,q,_⟩:_:=f;show#v[p,q]
   show{d,dE.mpr {bE.mpr {d-1,bY.mpr (),()},g9.mpr {f,?_}},hw};have s:gv ls k W 0 (d,x.2):=#v[j,g,hw];have:=Rn (n-m) s
   rwa [gB]at this
open Classical in
noncomputable def Fm (ls:LJ)(k:Nat)(W:Nat->Nat->Rl)(a:LQ)(x:LJ×LQ):LJ:=(ls.zipIdx.filter λq=>decide (Run W ls.length k (xx ls x) 0 (ls.idxOf a) q.2)).map (·.1)
def akz (nd:ls.Nodup){b:List (List ck)}(g:b.length=n)(i:∀m K,b[m]?=KE K->∀p,p∈K↔VdR ls k p/\gv ls k W m p)(m:Nat)(d:m<=n):kg ls W (Bm ls k W a n b m)=(wb ls a m).flatMap λx=>(Fm ls k W a x).map λe=>x.1++[x.2]++[e]:=by
 rw[Uh nd g i m d];unfold kg;rw[Ug];show j4 λx j=>?_;have f:ji ls W (rsF ls k W a n m x) (ls.idxOf x.2)=Fm ls k W a x:=by
  unfold ji Fm;congr 1;show iX λq l=>?_;have s:=bf (iS.mp l);rw[eJ,g9,g9];show aky j d s
 by_cases c:rsF ls k W a n m x=[]
 ·have e0:FF ls k W a n m x=MS:=(by unfold FF;rw[MZ c]);rw[e0,<-f,c];have:ji ls W [] (ls.idxOf x.2)=[]:=by
   unfold ji;rw[jV.mpr λy _ z=>?_];{rfl};{obtain⟨r,u,_⟩:_:=g9.mp z;show nomatch u}
  rw[this];rfl
 ·have e0:FF ls k W a n m x=KE (x.1,x.2,rsF ls k W a n m x):=(by unfold FF;rw[M' c]);rw[e0,<-f];rfl
end
end PB
namespace PySem
namespace Deep
inductive BT where
 |nil
 |node (l:BT) (x:Int) (r:BT)
def BT.ins:BT->Int->Option BT
 | .nil,y=>KE (.node .nil y .nil)
 | .node l x r,y=>if y<x then (l.ins y).map (.node · x r)else if x<y then (r.ins y).map (.node l x ·)else MS
def BT.toL:BT->LQ
 | .nil=>[]
 | .node l x r=>l.toL++x::r.toL
def BT.build:LQ->BT->Option BT
 | [],t=>KE t
 |x::xs,t=>(t.ins x).bind (BT.build xs)
theorem BT.ins_ok:∀{t t':BT}{y:Int},t.ins y=KE t'->t.toL.Pairwise (· < ·)->t'.toL.Pairwise (· < ·)/\t'.toL.Perm (y::t.toL)
 | .nil,t',y,h,_=>by
  cases h;show{by simp[BT.toL],by simp[BT.toL]}
 | .node l x r,t',y,h,s=>by
  have f:(l.toL++x::r.toL).Pairwise (· < ·):=s;obtain⟨m,n,g⟩:_:=List.pairwise_append.mp f;obtain⟨p,u⟩:_:=oB.mp n;have h':(if y<x then (l.ins y).map (BT.node · x r)else if x<y then (r.ins y).map (BT.node l x ·)else MS)=KE t':=h
  by_cases c:y<x;{rw[MZ c]at h';obtain⟨w,e,rfl⟩:_:=eF.mp h';obtain⟨i,d⟩:_:=BT.ins_ok e m;show{List.pairwise_append.mpr {i,n,λa ha b hb=>?_},?_};{rcases aX.mp (d.mem_iff.mp ha)with rfl | ha;{rcases aX.mp hb with rfl | hb;{show c};{show sI c (p b hb)}};{show g a ha b hb}};{change(w.toL++x::r.toL).Perm (y::(l.toL++x::r.toL));show List.Perm.append_right _ d}}
  ·rw[M' c]at h';by_cases j:x<y
   ·rw[MZ j]at h';obtain⟨q,e,rfl⟩:_:=eF.mp h';obtain⟨i,d⟩:_:=BT.ins_ok e u;have up:∀b∈q.toL,x<b:=λb hb=>by
     rcases aX.mp (d.mem_iff.mp hb)with rfl | hb;{show j};{show p b hb}
    show{List.pairwise_append.mpr {m,List.pairwise_cons.mpr #v[up,i],λa ha b hb=>?_},?_};{rcases aX.mp hb with rfl | hb;{show g a ha b aR};{show sI (g a ha x aR) (up b hb)}};{change(l.toL++x::q.toL).Perm (y::(l.toL++x::r.toL));show(pL l.toL (List.Perm.cons x d)).trans ?_;show(pL l.toL (List.Perm.swap y x r.toL)).trans ?_;show List.perm_middle}
   ·rw[M' j]at h';cases h'
theorem BT.build_ok:∀{xs:LQ}{t t':BT},BT.build xs t=KE t'->t.toL.Pairwise (· < ·)->t'.toL.Pairwise (· < ·)/\t'.toL.Perm (xs++t.toL)
 | [],t,t',h,a=>by cases h;show{a,List.Perm.refl _}
 |x::xs,t,t',h,a=>by
  obtain⟨i,b,c⟩:_:=Option.bind_eq_some_iff.mp (show(t.ins x).bind (BT.build xs)=KE t' from h);obtain⟨d,e⟩:_:=BT.ins_ok b a;obtain⟨f,g⟩:_:=BT.build_ok c d;show{f,g.trans ?_};show(pL xs e).trans ?_;show List.perm_middle
def sx (h:(BT.build xs .nil).isSome=MT):xs.Nodup:=by
 obtain⟨t,e⟩:_:=nW.mp h;obtain⟨a,b⟩:_:=BT.build_ok e .nil;have c:t.toL.Nodup:=a.imp λh=>Int.ne_of_lt h;have d:t.toL.Perm xs:=(by simpa[BT.toL]using b);show d.nodup_iff.mp c
theorem qu {g l:Type}{f:g->l}:∀{xs:List g},(xs.map f).Nodup->∀a∈xs,∀b∈xs,f a=f b->a=b
 | [],_,a,c,_,_,_=>by cases c
 |x::xs,h,a,c,b,i,e=>by
  rw[bV,fS]at h;rcases aX.mp c with j | LU;{rcases aX.mp i with d | BN;{rw[j,d]};{rw[j]at e;show NC (bE.mpr #v[b,BN,e.symm]) h.1}};{rcases aX.mp i with d | BN;{rw[d]at e;show NC (bE.mpr #v[a,LU,e]) h.1};{show qu h.2 a LU b BN e}}
def xf (x:Nat×LQ):Int:=tY (fG [hashInt (x.1:Int),tY (fG (x.2.map hashInt))])
def box (n:Nat):List (Nat×LQ):=(bG 6).flatMap λr=>(S1.letters (bB n 6)).map λl=>(r,l)
def box1:((box 1).map xf).Nodup:=sx ⋯
def box2:((box 2).map xf).Nodup:=sx ⋯
def box3:((box 3).map xf).Nodup:=sx ⋯
def Ay (P:aQ)(w:bC)(r:Nat)(l:LQ):d8 P w [.inl (r:Int),.inr l]=xf (r,l):=rfl
def ahf (a:r<6)(b:l.length=n)(c:∀v∈l,0<=v/\v<6):(r,l)∈box n:=by
 show eM.mpr {r,bY.mpr a,bE.mpr {l,?_,rfl}};rw[S1.letters_mem];show{by rw[b,dC],λi v e=>?_};have hi:=(bZ.mp e).1;show{6,by rw[dP,MZ ()],?_};show c v (aU e)
def abx {n:Nat}(f:n=1\/n=2\/n=3){a b:Nat×LQ}(c:a∈box n)(d:b∈box n)(e:xf a=xf b):a=b:=by
 rcases f with rfl | rfl | rfl;{show qu box1 a c b d e};{show qu box2 a c b d e};{show qu box3 a c b d e}
end Deep
end PySem
namespace PB
open PySem L2 VL Bits S1 PySem.Deep
def ahg (ok:SpOk a)(hk:k<6):Ax (LL a) k:=λP w p q d m e=>by
 have box:∀p:ck,VdR (LL a) k p->p∈box a.length:=λp d=>by
  let{r,l}:=p;have g:=(dt _).wide l d.2;rw[aC]at g;show ahf (by have:=d.1;change r<6;lia) g λv n=>?_;let{i,hi}:=kE.mp n;let{c,b,s,j}:=((letters_mem ..).mp d.2).2 i v hi;rw[aW]at b;cases f:a[i]? with
  |none=>rw[f]at b;cases b
  |some y=>
   rw[f]at b;cases b;have:=(ok.cnt y (aU f)).2;have j:v<(y.2:Int):=j;show{s,()}
 have u:a.length=1\/a.length=2\/a.length=3:=(by have:=ok.lo;have:=ok.hi;lia);have b:xf p=xf q:=by
  rw[<-Ay P w p.1 p.2,<-Ay P w q.1 q.2];show e
 show abx u (box p d) (box q m) b
end PB
namespace L2
open PySem PySem.Spec PyProof.Rows Fly
def ala (h:H a=KE o):upd H a o=H:=by
 funext b;unfold upd;split;{rename_i q;rw[q,h]};{rfl}
abbrev bmV:AW:=[.type "ValueError",.type "Exception",.type "BaseException",.type "object"]
structure Ui (bm:AW):Prop where
 hV:bm.contains (.type "ValueError")=MT
 hA:bm.contains (.type "AttributeError")=MU
 hN:bm.contains (.type "NameError")=MU
 hB:bm.contains (.type "BaseException")=MT
 hO:bm.contains (.type "object")=MT
 pass:∀self:aL,vW self "__setattr__" bm=pure Unit.unit
def yk:Ui bmV:={#v[],#v[],#v[],#v[],#v[],PySem.F.store_ValueError.passes}
def alb (c:MV):Ui (.ref c::bmV):={by rw[eB,yk.hV,jZ],by rw[eB,yk.hA];rfl,by rw[eB,yk.hN];rfl,by rw[eB,yk.hB,jZ],by rw[eB,yk.hO,jZ],λself=>by rw[tK];show yk.pass self}
structure we (K:aE)(C:MV):Prop where
 obj:∃nm q N bs bm sn sub ab col dd k0 k1 k2 k3 k5,K.lookup C=KE (eR nm q C N bs bm MT sn sub ab col dd k0 k1 k2 k3 k5 "ValueError.__new__")/\Ui bm
 sa:bH K (.ref C) "__setattr__"=KE (KE (.builtin "object.__setattr__"))
 ga:bH K (.ref C) "__getattribute__"=KE (KE (.builtin "BaseException.__getattribute__"))
 gt:bH K (.ref C) "__getattr__"=KE MS
 kp:dH K (.ref C)=MT
section
variable {X:Cx}{j':CW}{σ:St}{H:Hp}{s:aG}{e C:MV}{dct:Option MV}
def Inv.xsame (I:Inv X j' σ H s)(a:H e=KE (jj e C dct))(kp:∀b o,b≠e->s.heap.get? b=KE o->h'.get? b=KE o)
  (c:h'.get? e=KE {cls:=.ref C,dict:=dct,data:=.fields #[.ref d,.none,.none,.none,.bool MU,.none]}):Inv X j' σ H {s with heap:=h',toks:=t'}:=by
 have:=I.write (x:=e) (e:=e) (o:=jj e C dct) (t':=t') (h':=h') (by rw[a];show iQ) (.inl rfl) kp {_,c} (Gq c)
 rwa [ala a]at this
def aby (u:Gl X x)(w:X.mg x=KE (.ref j))(z:jM X.K (.ref j) "__getattribute__"=KE (KE (.builtin "type.__getattribute__")))
  (A:lX X.K j (.type "type")=MT) (D:lY X.K (.ref j) (.type "type") "__init__"=KE (.val (.builtin "ValueError.__init__"))) (E:PA X (a::b) t)
  (G:↑((x==("__debug__":Str))=MU)) (J:↥(aO (a::b) X.e=(MU,eval a X.e)::aO b X.e)) (L:↥((eE pos (aO b X.e)).any (·.1)=MU))
  (O:eval (.Call (.Attribute (.Name x p) "__init__" m) (a::b) [] pos) X.e=(do
    let n <-eval (.Name x p) X.e
    mL m.atName
    let (f,first) <-jF [n] (mW n "__init__" pl)
    qO pos f first (eE pos (aO (a::b) X.e)) (mG pos (jH [] X.e))):=by rfl) :
  PE X (.Call (.Attribute (.Name x p) "__init__" m) (a::b) [] pos) (λσ H Q=>t σ H λvs i=>∃e C dct y,vs=[.ref e,y]/\i e=KE (jj e C dct)/\we X.K C/\Q .non i):=by
 intro j' s σ H Q I h;show mO (pl:=pl) (mj I u w ?_ G) O;show PySem.W.method_cls I.kIn z (PySem.W.cls_value I.kIn A D ⋯ ?_);show callWith_builtin1 (thn (E pos j' _ σ H _ (I.tok (s.toks+1)) h) λus U Y=>?_) J L;let{vs,i,l,r1,e,C,dct,y,ev,r,c,q2}:=Y;subst ev;let{u1,u2,rfl,r2,r3}:=wo r1;obtain rfl:u1=aZ e:=r2;let{nm,q,N,bs,bm,sn,sub,ab,col,dd,k0,k1,k2,k3,k5,lk,T}:=c.obj;have hC:=l.kIn _ _ lk;let{t0,hq}:=o7 l.hok r;let{hh,g,d,tk,os}:=U;show Wp PySem.F.excBase_ValueError T.hV hC hq (by change 1<=sizeLine;decide) λh' t1 kp EW=>{.non,i,l.xsame r kp EW,rfl,q2}
def Ro (ha:PE X o ta)(hv:PE X value tv)(hs:jO value (KE (.Attribute o f yD)) pos.line X.e=pure MU) :
  PS X (.Assign [.Attribute o f yD] value pos) (λD σ H=>tv σ H λy Q=>ta σ Q λx i=>∃e C,x=.ref e/\we X.K C/\NoAttr X.K C f/\((i e=KE (jj e C MS)/\∀a,i a=MS->a≠e->D.nx σ (upd (upd i a (.xd [(f,y)])) e (jj e C (KE a))))\/(∃a fs,i e=KE (jj e C (KE a))/\i a=KE (.xd fs)/\fs.length<1000/\D.nx σ (upd i a (.xd (ir f y fs)))))):=by
 intro j' s σ H D I h;show plainObj_wpAny_Assign_Attribute (thn (hv j' s σ H _ I h) λu s1 U=>?_) hs;let{y,Q,I1,ry,q}:=U;show thn (ha j' s1 σ Q _ I1 q) λov Y U=>?_;let{x,i,I2,rx,e,C,ex,c,n,A}:=U;subst ex;obtain rfl:ov=aZ e:=rx;let{nm,q,N,bs,bm,sn,sub,ab,col,dd,k0,k1,k2,k3,k5,lk,T}:=c.obj;have L:=I2.kIn _ _ lk;have LV:=fE (M:=aT X.p X.w) I2.kIn c.sa;have IB:=fE (M:=aT X.p X.w) I2.kIn n;rcases A with⟨r,A⟩ | ⟨a,fs,r,h2,hl,A⟩
 ·let{t0,E}:=o7 I2.hok r;let{hh,g,d,tk,os}:=Y;show Wq PySem.F.store_ValueError T.hO L LV E rfl λGN t'=>?_;show afq T.pass L IB E rfl (λc z=>by cases z) rfl λh' t2 a nd ne sz hx ns kp=>{_,rfl,σ,_,?_,A a (I2.hok.fresh sz) ne};have CP:i a=MS:=I2.hok.fresh sz;have une:∀b u,hh.get? b=KE u->b≠a:=λb u z w=>(by rw[w,nd]at z;cases z);have G:∀b u,i b=KE u->u≠jj e C MS->b≠e:=λb u z w y=>(by rw[y,r]at z;show w (bX z).symm);have HF:∀b,b≠e->b≠a->upd (upd i a (.xd [(f,y)])) e (jj e C (KE a)) b=i b:=λb w z=>(by rw[au w,au z]);have l:∀b u,i b=KE u->u≠jj e C MS->upd (upd i a (.xd [(f,y)])) e (jj e C (KE a)) b=KE u:=λb u z w=>by
   rw[HF b (G b u z w) (bp z CP)];show z
  show I2.un (t':=t2) (h':=h') {λb u z m _ _=>kp b u (λw=>by rw[w,r]at m;cases m) z,λb u z m _ _=>{u.slots,kp b u (λw=>by rw[w,r]at m;cases m) z},λb u z m _=>by rw[HF b (λw=>by rw[w,r]at m;cases m) (une b u z)];show m,λb u z _=>?_,λb xs z=>l b _ z (by intro w;cases w),λb u v z=>l b _ z (by intro w;cases w),λb ps z=>{#[],by rw[l b _ z (by intro w;cases w)];simp}} λb u z=>?_;{by_cases w:b=e;{rw[w];show{_,hx}};{show{u,kp b u w z}}}
  ·by_cases w:b=e;{subst w;rw[ay]at z;cases z;show Gq hx}
   ·rw[au w]at z;by_cases J:b=a
    ·subst J;rw[ay]at z;cases z;show{_,ns,λj=>?_};change RelO (jG j [(f,y)]) (if j=f then KE u else MS)
     by_cases O:j=f;{rw[MZ O,O];simp[jG];show ry}
     ·rw[M' O];have:jG j [(f,y)]=MS:=by
       change(match j==f with | true=>KE y | false=>MS)=MS
       rw[beq_eq_false_iff_ne.mpr O]
      rw[this];trivial
    ·rw[au J]at z;show(I2.hok b u z).stay (λc v hc p=>kp c v ?_ p) (λc p=>l c _ p (by intro w;cases w)) λc xs p=>l c _ p (by intro w;cases w);rcases hc with rfl | hc;{show w};{show G c _ hc (by intro w;cases w)}
 ·let{t0,E}:=o7 I2.hok r;let{mA,ns,wB}:=(show ObjOk X.p X.w i Y.heap a (.xd fs)from I2.hok a _ h2);let{hh,g,d,tk,os}:=Y;have wi:Within mA (fs.map (·.1)):=λj hy=>by
   cases w:fs.lookup j with
   |none=>
    have:=wB j;rw[w]at this;cases J:mA j with
    |none=>show NC J hy
    |some v=>rw[J]at this;show this.elim
   |some v=>show bE.mpr {(j,v),jQ w,rfl}
  show Wq PySem.F.store_ValueError T.hO L LV E rfl λGN t'=>?_;show aae T.pass L IB E rfl rfl ns wi (by rw[aC,eP];lia) λh' t2 DL kp=>{_,rfl,σ,_,?_,A};have hd:∃o,h'.get? a=KE o:=let ⟨o,_,_,z,_⟩:=DL;#v[o,z];have G:∀b u,i b=KE u->u≠HO.xd fs->b≠a:=λb u z w y=>(by rw[y,h2]at z;show w (bX z).symm);have l:∀b u,i b=KE u->u≠HO.xd fs->upd i a (.xd (ir f y fs)) b=KE u:=λb u z w=>(by rw[au (G b u z w)];show z);have nd:∀b,i b=MS->b≠a:=λb m w=>(by rw[w,h2]at m;cases m);show I2.un (t':=t2) (h':=h') {λb u z m _ _=>kp b u (nd b m) z,λb u z m _ _=>{u.slots,kp b u (nd b m) z},λb u z m _=>by rw[au (nd b m)];show m,λb u z _=>?_,λb xs z=>l b _ z (by intro w;cases w),λb u v z=>l b _ z (by intro w;cases w),λb ps z=>{#[],by rw[l b _ z (by intro w;cases w)];simp}} λb v z=>?_;{by_cases w:b=a;{rw[w];show hd};{show{u,kp b u w z}}}
  ·by_cases w:b=a
   ·subst w;rw[ay]at z;cases z;show{_,DL,λj=>?_};change RelO ((ir f y fs).lookup j) (if j=f then KE u else mA j)
    rw[xh];by_cases w:j=f;{rw[MZ w,MZ w];show ry};{rw[M' w,M' w];show wB j}
   ·rw[au w]at z;show(I2.hok b v z).stay (λc v' hc p=>kp c v' ?_ p) (λc p=>l c _ p (by intro w;cases w)) λc xs p=>l c _ p (by intro w;cases w);rcases hc with rfl | hc;{show w};{show G c _ hc (by intro w;cases w)}
def Rq (y:PE X o A)(D:iP o f X.e (eval o X.e)=eval o X.e) :
  PE X (.Attribute o f pos) (λσ H Q=>A σ H λx b=>∃e C fs v,x=.ref e/\we X.K C/\NoAttr X.K C f/\XAs b e C fs/\fs.lookup f=KE v/\Q v b):=by
 intro j' s σ H Q I h;show Pw D (thn (y j' s σ H _ I h) λu j E=>?_);let{x,b,a,G,e,C,fs,v,ex,c,n,{l,xa,hd},lf,q}:=E;subst ex;obtain rfl:u=aZ e:=G;let{nm,qn,N,bs,bm,sn,sub,ab,col,dd,k0,k1,k2,k3,k5,lk,T}:=c.obj;have J:=a.kIn _ _ lk;have m:=fE (M:=aT X.p X.w) a.kIn c.ga;have p:=fE (M:=aT X.p X.w) a.kIn c.gt;have L:=fE (M:=aT X.p X.w) a.kIn n;have O:∃i vs,j.heap.get? e=KE i/\i.cls=.ref C/\i.dict=KE l/\i.data=.fields vs:=by
  rcases xa with xa | xa;{let{t0,z}:=o7 a.hok xa;show{_,_,z,rfl,rfl,rfl}};{show Li a.hok xa}
 let{i,vs,U,Y,z3,z4}:=O;let{mA,ns,wB}:=(show ObjOk X.p X.w b j.heap l (.xd fs)from a.hok l _ hd);let{u',hu,r}:=RelO.some_of (v:=v) (o:=mA f) (by rw[<-lf];show wB f);have tk:=a.tok (j.toks+1);let{hh,g,d,t,os}:=j;show get_x PySem.F.attrBase_ValueError T.hB J L m p U Y z4 z3 ns.ns hu (PySem.W.handedOut_of (Ij r)) #v[v,b,tk,r,q]
end
section
variable {X:Cx}{x:Str}{C fI:MV}{k:Nat}{fd:gG}{ps:AZ}{sp:Sp}{a:MX}{es:CY}{t:TA}{p pos:Pos}
def abz (c:we X.K C)(hi:bH X.K (.ref C) "__init__"=KE (KE (.ref fI)))(lf:∃l,X.K.lookup fI=KE l/\l.cls=.type "function")(F:fq X.p X.w X.K X.mg X.base CX0 k fI fd ps sp)(G:Room (k+1) X.A)
  (J:Gl X x) (L:X.mg x=KE (.ref C)) (O:Binds X.K fd ps []) (U:PA X (a::es) t) (Y:↑((x==("__debug__":Str))=MU))
  (he:↥(aO (a::es) X.e=(MU,eval a X.e)::aO es X.e)) (yE:↥((eE pos (aO es X.e)).any (·.1)=MU)) :
  PE X (.Call (.Name x p) (a::es) [] pos) (λj H Q=>t j H λvs f=>vs.length<=100/\∀e,f e=MS->sp (.ref e::vs) (upd f e (jj e C MS)) (λv H2=>v=.non/\Q (.ref e) H2) E0):=by
 intro n s j H Q I h;show iE (mj I J L ?_ Y);show jX (h₀:=X.base) I.ok.mod.kin c.kp (thn (U pos n s j H _ I h) λus s1 wD=>?_) he yE;let{vs,f,b,r,hl,q}:=wD;show{b.kIn,?_};change aJ _ _ (call (.ref C) us) _ _ _;let{nm,qn,N,bs,bm,sn,sub,ab,col,dd,k0,k1,k2,k3,k5,lk,T}:=c.obj;let{l,lI,cI}:=lf;have hC:=b.kIn _ _ lk;have hI:=b.kIn _ _ lI;have li:=fE (M:=aT X.p X.w) b.kIn hi;have hz:us.length<=sizeLine:=(by rw[<-r.length,eP];lia);let{hh,g,d,y,os}:=s1;show Wo PySem.F.excBase_ValueError T.hV T.hA T.hN hC li hI cI (λh' e sz me=>?_) hz;let{t0,m,_}:=me.there;have fr:f e=MS:=b.hok.fresh sz;have I2:Inv X n j (upd f e (jj e C MS)) ⟨h',g,d,y,os⟩:=b.laid (t':=y) (h':=h') me.keeps sz (Gq m);have D:=q e fr;have E:Vals (V.ref e::vs) (aZ e::us):=.cons rfl r;have AN:(aZ e::us++[]).length=ps.length:=by
  have z:=E.length;rw[F.len _ _ _ _ D]at z;rw[bP];show z.symm
 have bd:=O _ (aZ e::us) I2.kIn AN;rw[bP]at bd;show pR (mM (F.run _ X.stack _ _ {aZ e::us,[]} (aZ e::us) _ _ E0 (G.make C us []) (I2.env0.make C us []) bd E D) λr s' i=>?_);cases r with
 |error e=>show eU i
 |ok fl=>
  cases fl with
  |ret u=>
   let{v,H',I3,rv,ev,q3}:=I2.after i;subst ev;show{rv,{V.ref e,H',I3,rfl,q3}}
  |next=>show eU i
  |brk=>show eU i
  |cont=>show eU i
theorem Fq (b:∀o s,Q o s->d o s):∀parts c s,Joins M A E parts c Q s->Joins M A E parts c d s
 | [],_,_,h=>b _ _ h
 |_::rest,_,_,h=>dW h (λ_ f ⟨y,t,e,l,r⟩=>{y,t,e,l,Fq b rest _ f r}) λ_ _ z=>z
def Az:V->Prop
 | .int i=>i.natAbs.log2<1000
 | .str x=>(reprText x).length<=2000
 |_=>False
def PJ (X:Cx)(es:CY)(t:St->Hp->(Hp->Prop)->Prop):Prop:=
 ∀c s b H d R,Inv X c b H s->d.length+3000*es.length<=1000000->t b H R->
  Joins (aT X.p X.w) X.A X.xe (sJ es X.e) d (λout e=>out.length<=sizeLine/\∃H',Inv X c b H' e/\R H') s
def alc:PJ X [] (λ_ H R=>R H):=λ_ s _ H c R I b h=>{by rw[eP];simp at b;lia,H,I,h}
def ald {z:Str}{j:Nat}{t:St->Hp->(Hp->Prop)->Prop}(hz:z.length<=2000)(d:PJ X es t)(e:↥(sJ (.Constant (.str z) j q::es) X.e=eval (.Constant (.str z) j q) X.e::sJ es X.e)):PJ X (.Constant (.str z) j q::es) t:=by
 intro f s g H b R I i h;rw[e];have l:b.length+3000*(es.length+1)<=1000000:=i;have c:(b++z).length=b.length+z.length:=strLen_append b z;show Calls.Constant_str {z,_,rfl,by rw[c,eP];lia,d f _ g H (b++z) R (I.tok _) (by rw[c];lia) h}
def Rr {t:St->Hp->(Hp->Prop)->Prop}(G:PE X v J)(r:PJ X es t)(L:↥(sJ (.FormattedValue v 114 MS q::es) X.e=eval (.FormattedValue v 114 MS q) X.e::sJ es X.e)) :
  PJ X (.FormattedValue v 114 MS q::es) (λc H R=>J c H λy b=>Az y/\t c b R):=by
 intro j s c H d R I N h;rw[L];have U:d.length+3000*(es.length+1)<=1000000:=N;have fin:∀(z:Str)(b:Hp) (f:aG) (g:Tok),Inv X j c b f->z.length<=2000->t c b R->
   aJ (aT X.p X.w) X.A (formatField (.str z g) uM) (λw O=>∃y t',w=.str y t'/\(d++y).length<=sizeLine/\Joins (aT X.p X.w) X.A X.xe (sJ es X.e) (d++y) (λout f=>out.length<=sizeLine/\∃H',Inv X j c H' f/\R H') O) X.xe f:=by
  intro z b f g l hz m;have n:(d++z).length=d.length+z.length:=strLen_append d z;have D:(d++z).length<=sizeLine:=(by rw[n,eP];lia);show wpAny_formatField_str {z,_,rfl,D,r j _ c b (d++z) R l (by rw[n];lia) m} {z,_,rfl,D,r j _ c b (d++z) R (l.tok _) (by rw[n];lia) m} (by rw[eP];lia)
 show wpAny_FormattedValue_repr (thn (G j s c H _ I h) λu f Q=>?_);let{y,b,l,E,e,m}:=Q;cases y with
 |int i=>
  let{g,rfl}:=(show ∃t,u=nU i t from E);have e:i.natAbs.log2<1000:=e;have len:(eA (toString i)).length<=2000:=by
   rw[PySem.ofString_length];have:=int_text_length_le (k:=1000) #v[] e;lia
  show wpAny_pyReprObj_gives (T:="int") (rO _ i g) PySem.F.slot_int_repr PySem.F.entry_int_repr (by unfold argsOk;kernel_rfl) (gives_int_repr i g ()) ?_ rfl (by rw[eP];lia);show fin _ b _ _ (l.tok _) len m
 |str z=>
  let{g,rfl}:=(show ∃t,u=qV z t from E);have e:(reprText z).length<=2000:=e;show wpAny_pyReprObj_str (fin _ b _ _ (l.tok _) e m) (by rw[eP];lia)
 |_=>show eU e
def ahh {rest:CY}{t:St->Hp->(Hp->Prop)->Prop}(h:PJ X (c::d::rest) t)(l:rest.length<=100):PE X (.JoinedStr (c::d::rest) pos) (λb H Q=>t b H λe=>∀z:Str,Q (.str z) e):=by
 intro f s b H Q I q;show wpAny_JoinedStr ?_;have e0:Str.empty.length=0:=rfl;have:=h f s b H uM _ I (by rw[e0];change 0+3000*(rest.length+1+1)<=_;lia) q;show Fq (λout m g=>by let{z,H',i,j}:=g;show{z,.str out,H',i.tok _,{_,rfl},j out}) _ _ _ this
end
section
variable {P:aQ}{w:bC}{K:aE}{mg:Str->AK}{base:MW}{N:AZ}{wF:Str}{scope:lS}{f:MV}{cd:aL}{A:bU}{outer:List Env}{s0:aG}{H0:Hp}{E:XK}{C:MV}{ex:MX}{te:TE}{pos:Pos}
def aca (c:we K C)(j:PE (rj (CXx P w) P w K mg base N wF scope f cd A outer s0 H0 E) ex te) :
  PS (rj (CXx P w) P w K mg base N wF scope f cd A outer s0 H0 E) (.Raise (KE ex) MS pos) (λ_ a H=>te a H λx b=>∃e d,x=.ref e/\b e=KE (jj e C d)/\H0 e=MS/\E (.ref C) d (del b e)):=by
 intro l s a H D I h;let{nm,m,n,bs,bm,sn,sub,ab,col,dd,k0,k1,k2,k3,k5,lk,T}:=c.obj;show Th (C:=C) (nm:=nm) (q:=m) (N:=n) (bs:=bs) (bm:=bm) (hdct:=MT) (sn:=sn) (sub:=sub) (ab:=ab) (col:=col) (dd:=dd) (k0:=k0) (k1:=k1) (k2:=k2) (k3:=k3) (k5:=k5) (newId:="ValueError.__new__") T.hB (I.ok.hd rfl) (thn (j l s a H _ I h) λu G p=>?_);let{x,b,g,r,e,d,ex,i,h0,y}:=p;subst ex;obtain rfl:u=aZ e:=r;let{z,q}:=o7 g.hok i;show{e,z,_,rfl,g.kIn _ _ lk,q,ajn g i h0 y}
end
end L2
namespace Fly
open PySem
open Sem (wp)
section
variable {prog:aQ}{w:bC}{A:bU}{E:aL->aG->Prop}{h:MW}{g:Array mE}{d:Drawn}{t:Nat}{os:vZ}
variable {nm q:Str}{C N x:MV}{bs bm CL:AW}{hdct:Bool}{sn:AZ}{sub:AW}{ab:Bool}{col:Option Bool}{dd:Option MV}{k0 k1 k2 k3 k5:AK}{B newId:String}{o:Obj}
def ahi (c:bm.contains (.type "object")=MT)(e:h.get? C=KE (eR nm q C N bs bm hdct sn sub ab col dd k0 k1 k2 k3 k5 newId))(a:h.get? x=KE o)(b:o.cls=.ref C)(j:R (.ok (.ret (.ref C))) #v[h,g,d,t,os]) :
  kQ (aT prog w) A (.call (.builtin "getset_descriptor.__get__") {[.builtin "object.__class__",.ref x,.ref C],[]}) R #v[h,g,d,t,os]:=by
 have f:(⟨h,g,d,t,os⟩:aG).TypeIs (.builtin "object.__class__") "getset_descriptor":=F.typeOf_object_class;have i:(aZ C::bm).contains (.type (".".intercalate ("object.__class__".cutAt '.').dropLast))=MT:=(by rw[F.owner_object_class,eB,c,jZ]);show kM F.slot_gs_get.plain F.entry_gs_get (F.slot_gs_get.check _ _ _ _ _ _ _ _ f (F.args_gs_get _ _ _) ?_)
 repeat (any_goals (first
   |assumption
   | (with_reducible show cU a ?_;rw[b])
   | (with_reducible show gR e ?_;rw[i])
   |wp_step))
 show{rC _ ⋯,sU F.entry_object_class ?_}
 repeat (any_goals (first
   |assumption
   | (with_reducible show cU a ?_;rw[b])
   |wp_step))
def Yk (e:bm.contains (.type "object")=MT)(f:h.get? C=KE (eR nm q C N bs bm hdct sn sub ab col dd k0 k1 k2 k3 k5 newId))(i:qh (aT prog w) h (gH (.ref C) "__class__") (KE (.builtin "object.__class__")))
  (a:h.get? x=KE o) (c:o.cls=.ref C) (l:Q (.done (.ret (.ref C))) #v[h,g,d,t,os]):aJ (aT prog w) A (fW.«object.__getattribute__» {[.ref x,.str "__class__" m],[]}) Q E #v[h,g,d,t,os]:=by
 have n:(⟨h,g,d,t,os⟩:aG).TypeIs (.builtin "object.__class__") "getset_descriptor":=F.typeOf_object_class;have p:=F.typeOf_object_class;have r:=F.slot_gs_get.lookup;have s:=F.slot_gs_set.lookup;have j:∀b u,h.get? b=KE u->h.get? b=KE u:=λ_ _ z=>z
 repeat (any_goals (first
   |assumption
   | (with_reducible show cU a ?_;rw[c])
   | (with_reducible show i _ _ _ _ j ?_)
   |wp_step))
 show ahi e f a c ?_
 repeat (any_goals (first | assumption | wp_step))
def acb (FB:ExcAttrBase B CL)(j:bm.contains (.type "BaseException")=MT)(l:bm.contains (.type "object")=MT)
  (f:h.get? C=KE (eR nm q C N bs bm hdct sn sub ab col dd k0 k1 k2 k3 k5 newId)) (m:qh (aT prog w) h (gH (.ref C) "__class__") (KE (.builtin "object.__class__")))
  (n:qh (aT prog w) h (gH (.ref C) "__getattribute__") (KE (.builtin "BaseException.__getattribute__"))) (p:qh (aT prog w) h (gH (.ref C) "__getattr__") MS)
  (c:h.get? x=KE o) (e:o.cls=.ref C) (r:Q (KE (.ref C)) {h,g,d,t+1,os}):aJ (aT prog w) A (vL (.ref x) "__class__") Q E #v[h,g,d,t,os]:=by
 have D:=FB.ga.bind (.ref x);have G:(MU&&uV (fQ "BaseException.__getattribute__"))=MU:=rfl;have s:(fQ "BaseException.__getattribute__"==fQ "object.__getattribute__")=MU:=⋯;have H:(uV (aZ C)&&fQ "BaseException.__getattribute__"==fQ "object.__getattribute__")=MU:=(by rw[s];rfl);have i:∀b u,h.get? b=KE u->h.get? b=KE u:=λ_ _ z=>z;have y:∀{a Q E t'},Q (.ref C) ⟨h,g,d,t',os⟩->aJ (aT prog w) A (getAttrBy (.ref x) (.str "__class__" a) MU) Q E ⟨h,g,d,t',os⟩:=by
  intro a Q E t' r
  repeat (any_goals (first
    |assumption
    | (with_reducible show cU c ?_;rw[e])
    | (with_reducible show n _ _ _ _ i ?_)
    | (with_reducible show p _ _ _ _ i ?_)
    |wp_step))
  show kM FB.ga.plain F.entry_bexc_ga ?_;change aJ _ _ (gJ "BaseException.__getattribute__" {[.ref x,.str "__class__" a],[]}) _ _ _;show Ws f j c e ?_;change aJ _ _ (fW.«object.__getattribute__» {[.ref x,.str "__class__" a],[]}) _ _ _;show Yk l f m c e ?_
  repeat (any_goals (first
    |assumption
    |wp_step))
 unfold vL getAttrBy?
 repeat (any_goals (first | assumption | with_reducible apply y | wp_step))
end
end Fly
namespace L2
open PySem PySem.Spec PyProof.Rows Fly
section
variable {X:Cx}{j':CW}{σ:St}{H H':Hp}{s s':aG}{e C:MV}{dx:Option MV}{B h2:MW}
def Inv.caught (I:Inv X j' σ H s)(os:s'.os=s.os)(bare:nO s'.gens)(r:XAt B X.stack e (.ref C) dx (KE .none) s'.heap)(i:XAt B X.stack e (.ref C) dx (KE .none) h2)(up:s'.heap.UpToSlots h2)
  (hok:HOk X.p X.w H' B) (x:H' e=MS) (A:s.heap.get? e=MS) (un:Un (frs X.stack) [] H H' s.heap s'.heap)
  (old:∀b o,s.heap.get? b=KE o->b ∉ frs X.stack->∃d,B.get? b=KE d/\(H b=MS->d=o)):Inv X j' σ (upd H' e (r8 e C dx)) {s' with heap:=h2,toks:=t'}:=by
 have ne:∀b o,s.heap.get? b=KE o->b≠e:=λb o z w=>(by rw[w,A]at z;cases z);have g:∀b o,H' b=KE o->b≠e:=λb o z=>bp z x;have fr:∀b o,b∈frs X.stack->s'.heap.get? b=KE o->∃j,h2.get? b=KE {o with slots:=j}:=λb o a q=>by
  let{_,d,f,D}:=r.frames.mem a;rw[q]at f;cases f;show up b o q D
 let{T,vs,E,G,J,L,_}:=i.obj;show I.call' (s':={s' with heap:=h2,toks:=t'}) (ch:=[]) os {λb o q n a _=>?_,λb o q n a _=>?_,λb o q n _=>?_,λb o q _=>?_,λb xs q=>?_,λb o u q=>?_,λb ps q=>?_} (λb o z=>?_) bare λb a=>NC a no0;{let{d,f,N}:=old b o q a;rw[N n]at f;show i.stays b o f};{let{j,l}:=un.slot b o q n a no0;let{O,p}:=fr b _ a l;show#v[O,p]};{rw[au (ne b o q)];show un.free b o q n no0};{by_cases a:b∈frs X.stack;{let{Q,l}:=un.there b o q no0;let{j,p}:=fr b Q a l;show{_,p}};{let{d,f,_}:=old b o q a;show{d,i.stays b d f}}}
 {have z:=un.tups b xs q;rw[au (g b _ z)];show z};{have z:=un.frzs b o u q;rw[au (g b _ z)];show z};{let{m,z}:=un.tbls b ps q;show{m,by rw[au (g b _ z)];show z}};{by_cases a:b=e;{subst a;rw[ay]at z;cases z;show afr E G J L};{rw[au a]at z;show(hok b o z).stay (λc u _ y=>i.stays c u y) (λc y=>by rw[au (g c _ y)];show y) λc xs y=>by rw[au (g c _ y)];show y}}
def Inv.unset (I:Inv X j' σ H s)(hN:X.N.Nodup)(hi:X.N[i]?=KE n)(hn:s.heap.Ns X.e.locals m)
  (D:∀(j:Nat)(y:Str) (v:V),X.N[j]?=KE y->σ[j]?=KE (KE v)->Vis X.e.scope y->∃u,RelV v u/\Look X.e s.heap m y u)
  (E:h'.Ns X.e.locals (λx=>if x=n then u else m x)) (a:fK X.e.locals s.heap h'):Inv X j' (σ.set i MS) H {s with heap:=h',toks:=t'}:=by
 have cne:=I.cne;have ab:∀b o,X.s₀.heap.get? b=KE o->b≠X.e.locals:=λb o e=>bN (bW (bA e) I.ok.above);show{I.ok,I.os,I.bare,{λb o e n r g=>(a.2 b (ab b o e)).trans (I.base.keep b o e n r g),λb o e n r g=>?_,I.base.free,λb o e g=>?_,I.base.tups,I.base.frzs,I.base.tbls},{_,E,λj y v f l G=>?_},λy c e=>?_,I.free,I.freeC,λp J=>?_,λb o e=>?_,by simpa using I.len};{let{L,f}:=I.base.slot b o e n r g;show{L,(a.2 b (ab b o e)).trans f}};{let{O,f}:=I.base.there b o e g;show{O,(a.2 b (ab b o e)).trans f}};{by_cases A:j=i;{subst A;have hz:j < σ.length:=(by rw[I.len];show(bZ.mp hi).1);rw[dA hz]at l;cases l};{rw[cZ (eT A)]at l;let{Q,T,q}:=D j y v f l G;show{Q,T,?_};rcases q with⟨k,z⟩ | ⟨k,c,z,w⟩;{show .inl {k,?_};have:y≠n:=λe=>A (Cs hN f (e ▸ hi));simp[this,z]};{show .inr {k,c,z,w.sameBut a (cne y c z)}}}}
 {let{v,z}:=I.cell y c e;show{v,z.sameBut a (cne y c e)}};{let{e,n,ne,U,d}:=I.pin p J;show{(a.2 p.1 ne).trans e,n,ne,U,d}};{show(I.hok b o e).stay (λc v hc q=>(a.2 c ?_).trans q) (λ_ q=>q) λ_ _ q=>q;intro Y;subst Y;rcases hc with w | hc;{rw[<-w,I.free]at e;cases e};{rw[I.free]at hc;cases hc}}
end
section
variable {X:Cx}{x c n y:Str}{f SW:MV}{fd:gG}{k i j:Nat}{ps:AZ}{sp:Sp}{a:MX}{es:CY}{t:TA}{p pos pe pc py pn pa ph tp:Pos}
def ahj (hxe:∀e s,X.xe e s->False)(F:fq X.p X.w X.K X.mg X.base (CXx X.p X.w) k f fd ps sp)(hr:Room k X.A)(hg:Gl X x)(hm:X.mg x=KE (.ref f))(hk:dH X.K (.ref f)=MT)(hb:Binds X.K fd ps [])
  (ha:PA X (a::es) t) (hgc:Gl X c) (hmc:X.mg c=KE (.ref SW)) (DJ:X.stack=X.e::X.outer) (DF:X.e.frame=KE X.e.locals)
  (hN:X.N.Nodup) (Y:X.N[i]?=KE n) (IC:X.e.scope.names.lookup n=KE .local) (hy:X.N[j]?=KE y) (LX:X.e.scope.names.lookup y=KE .local)
  (yM:↑((x==("__debug__":Str))=MU)) (hdc:↑((c==("__debug__":Str))=MU)) (GU:↑((n==("__debug__":Str))=MU)) (hcn:↑((n==("__classdict__":Str))=MU))
  (he:↥(aO (a::es) X.e=(MU,eval a X.e)::aO es X.e)) (yE:↥((eE pos (aO es X.e)).any (·.1)=MU))
  (DC:↥(jO (.Call (.Name x p) (a::es) [] pos) MS pe.line X.e=pure MU)) (zY:↥(jO (.Name n pn) (KE (.Name y py)) pa.line X.e=pure MU)) :
  PS X (.Try [.Expr (.Call (.Name x p) (a::es) [] pos) pe] [.ExceptHandler (KE (.Name c pc)) (KE n) [.Assign [.Name y py] (.Name n pn) pa] ph] [] [] tp)
   (λD b H=>t b H λvs H1=>sp vs H1 (λ_ d=>D.nx b d) (λcls dxo d=>∃C E,cls=.ref C/\dxo=E/\tS X.K (.ref C) (.ref SW)=KE MT/\∀e,d e=MS->D.nx (((b.set i (KE (.ref e))).set j (KE (.ref e))).set i MS) (upd d e (r8 e C E)))):=by
 intro L s b H D I h;show wpAny_Try_except ?_;show rR (wpAny_Expr_any (Q:=_) (dW (Q:=λ_ l=>∃d,Inv X L b d l/\D.nx b d) ?_ (λv l wD=>by let{d,I2,q}:=wD;show lT (lT #v[b,d,I2,q])) λ_ _ z=>z) I.quiet DC);show iE (mj I hg hm ?_ yM);show jX (h₀:=X.base) I.ok.mod.kin hk (dW (ha pos L s b H _ I h) (λus l wD=>?_) λe l z=>(hxe e l z).elim) he yE;let{vs,H1,G,r,q}:=wD;show{G.kIn,?_};change aJ _ _ (call (.ref f) us) _ _ _;have hl:(us++[]).length=ps.length:=(by rw[bP,<-r.length];show F.len _ _ _ _ q);have bd:=hb l us G.kIn hl;rw[bP]at bd;show pR (mM (F.run X.A X.stack l H1 {us,[]} us vs _ _ hr G.env0 bd r q) λrr s' O=>?_);cases rr with
 |ok fl=>
  cases fl with
  |ret u=>
   let{v,d,I2,rv,q2}:=G.after O;show#v[d,I2,q2]
  |next=>show eU O
  |brk=>show eU O
  |cont=>show eU O
 |error ev=>
  let{e,C,E,H',B,rfl,os,bare,xa,hok,LY,AI,un,old,C2,dx2,ec,ed,hx,q}:=O;cases ec;cases ed;have LZ:=xa;rw[DJ]at LZ;show Fly.note (by rw[<-DJ];show I.ok.frames) DF LZ (.inr rfl) λh2 x2 MA=>?_;show Fly.land x2 λh3 x3 MB=>?_;rw[<-DJ]at x3;show Wu ?_;have AM:Cx.Ok {X with A:=X.A.mark (KE (.ref e)),calm:=MU,xe:=λ_ _=>False}:={I.ok with hd:=(λz=>Bool.noConfusion z),frames:=I.ok.frames};have mk:∀{T:MW}{t4:Nat},XAt B X.stack e (.ref C) E (KE .none) T->s'.heap.UpToSlots T->Inv {X with A:=X.A.mark (KE (.ref e)),calm:=MU,xe:=λ_ _=>False} L b (upd H' e (r8 e C E)) {s' with heap:=T,toks:=t4}:=λ{T t4} x4 JZ=>by
   have J:=G.caught (t':=t4) os bare xa x4 JZ hok LY AI un old;show#v[AM,J.os,J.bare,J.base,J.loc,J.cell,J.free,J.freeC,J.pin,J.hok,J.len]
  have I4:=mk (t4:=s'.toks) x3 (MA.trans MB);show mj (X:={X with A:=X.A.mark (KE (.ref e)),calm:=MU,xe:=λ_ _=>False}) I4 hgc hmc {?_,?_} hdc
  ·let{oe,vs,z1,z2,_}:=x3.obj;have LT:PySem.W.Looks (aT X.p X.w) h3 (tH (.ref e)) (.ref C):=by
    rw[<-z2];show(sL z1).andThen .now
   show PySem.W.exm_one I4.kIn LT hx
  ·show Fly.land x3 λT x4 JZ=>?_;have I5:=mk (t4:=s'.toks) x4 ((MA.trans MB).trans JZ);show lh (X:={X with A:=X.A.mark (KE (.ref e)),calm:=MU,xe:=λ_ _=>False}) (v:=.ref e) I5 hN Y (.inl IC) rfl (λs6 I6=>?_) (.inr IC);have DI:i<b.length:=by
    have:=G.len;rw[this];show(bZ.mp Y).1
   show dW ((rg (Ee (X:={X with A:=X.A.mark (KE (.ref e)),calm:=MU,xe:=λ_ _=>False}) hN hy (.inl LX) (t5 (X:={X with A:=X.A.mark (KE (.ref e)),calm:=MU,xe:=λ_ _=>False}) Y (.inl IC) GU hcn) zY (.inr LX))) L s6 _ _ {nx:=λU MC=>U=(b.set i (KE (.ref e))).set j (KE (.ref e))/\MC=upd H' e (r8 e C E),rt:=λ_ _=>False} I6 {.ref e,by rw[dA DI],rfl,rfl}) (λfl s7 hf=>?_) λ_ _ z=>z;cases fl with
   |ret u=>let{_,_,_,_,_,z}:=hf;show z.elim
   |brk=>let{_,_,_,z}:=hf;show z.elim
   |cont=>let{_,_,_,z}:=hf;show z.elim
   |next=>
    let{U,MC,g,e1,e2}:=hf;subst e1 e2;let{m,nm,hl7}:=g.loc;have hkd:(X.e.scope.kind==ScopeKind.«class»||(X.e.scope.kind==ScopeKind.«module»&&X.e.locals != X.e.globals))=MU:=(by rw[I.ok.kind];rfl);show Fly.gone IC nm hkd λh8 u8 ns8 JR=>{_,_,?_,q e LY};have J:Inv X L _ _ s7:=#v[I.ok,g.os,g.bare,g.base,g.loc,g.cell,g.free,g.freeC,g.pin,g.hok,g.len];show J.unset hN Y nm hl7 ns8 JR
end
def Yl {K:aE}{e C:MV}(c:we K C)(DT:bH K (.ref C) "__class__"=KE (KE (.builtin "object.__class__"))) :
  PySem.W.KitX K (.ref e) (.ref C) (λh=>∃oe vs,h.get? e=KE oe/\oe.cls=.ref C/\oe.data=.fields vs) where
 ty:=λM h X ⟨oe,vs,z1,z2,_⟩=>by
  rw[<-z2];show(sL z1).andThen .now
 it:=λM h X _=>by
  let{nm,q,N,bs,bm,sn,sub,ab,col,dd,k0,k1,k2,k3,k5,lk,T}:=c.obj;intro A' Q' E' s' k q;unfold isType loadHead;show aA (wpAny_loadPart (k _ _ (X _ _ lk)) (WQ q))
 ne:=λh tp dd its n sl X htp=>by
  let{nm,q,N,bs,bm,sn,sub,ab,col,BY,k0,k1,k2,k3,k5,lk,T}:=c.obj;show Bool.eq_false_iff.mpr λz=>?_;have w:C=tp:=Value.ref.inj (beq_iff_eq.mp z);subst w;have z:=NG (Option.map Obj.cls) ((X _ _ lk).symm.trans htp);have z':KE (gU "type")=KE (gU "tuple"):=z;show NC z' #v[]
 ca:=λ{prog w A E Q s} X ⟨oe,vs,z1,z2,_⟩ hq=>by
  let{nm,q,N,bs,bm,sn,sub,ab,col,dd,k0,k1,k2,k3,k5,lk,T}:=c.obj;let{hh,g,d,t,os}:=s;show acb PySem.F.attrBase_ValueError T.hB T.hO (X _ _ lk) (fE X DT) (fE X c.ga) (fE X c.gt) z1 z2 hq
def IsX (H:Hp)(e C:MV):Prop:=(∃dct,H e=KE (jj e C dct))\/∃a,H e=KE (r8 e C a)
theorem IsX.get (x:HOk P w H h)(i:IsX H e C):∃a vs,h.get? e=KE a/\a.cls=.ref C/\a.data=.fields vs:=by
 rcases i with⟨dct,i⟩ | ⟨f,i⟩;{let{g,z}:=o7 x i;show{_,_,z,rfl,rfl}};{let{a,vs,b,c,_,d}:=Li x i;show#v[a,vs,b,c,d]}
def XAs.isX (x:XAs H e C fs):IsX H e C:=by
 obtain⟨a,i | i,_⟩:=x;{show .inl {_,i}};{show .inr {_,i}}
section
variable {X:Cx}
def clsV:V->AK
 | .ref a=>KE (.ref a)
 | .ty n=>KE (.type n)
 |_=>MS
def M9 (r:RelV v u)(e:clsV v=KE c):u=c:=by
 cases v with
 |ref a=>cases e;show r
 |ty n=>cases e;show r
 |_=>cases e
def rIsx (K:aE):EX->Hp->VK->Prop:=λxs H Q=>∃e C y c b,xs=[.ref e,y]/\IsX H e C/\we K C/\bH K (.ref C) "__class__"=KE (KE (.builtin "object.__class__"))/\clsV y=KE c/\dN K (.ref C) c=KE b/\Q (.bl b) H
def Na:ia X (.builtin "isinstance") (rIsx X.K):=by
 intro n s p H xs us Q I r d;let{e,C,y,c,b,ex,f,cl,g,a,hk,q}:=d;subst ex;let{i,u,rfl,j,l}:=wo r;obtain rfl:i=aZ e:=j;obtain rfl:=M9 l a;show eV (Yl cl g) I.kIn (f.get I.hok) hk ?_ λm=>{.bl b,H,I.tok m,rfl,q};intro z;cases y<;>cases a<;>cases z
def adw:EX->AW->Prop:=Paired λv c=>clsV v=KE c
theorem Jk:∀{xs us cs},Vals xs us->adw xs cs->us=cs
 | [],_,_,.nil,.nil=>rfl
 |_::_,_,_,.cons r a,.cons e b=>by rw[M9 r e,Jk a b]
def rIsxt (K:aE):EX->Hp->VK->Prop:=λxs H Q=>∃e C a ys cs b,xs=[.ref e,.ref a]/\IsX H e C/\we K C/\bH K (.ref C) "__class__"=KE (KE (.builtin "object.__class__"))/\H a=KE (.tup ys)/\adw ys cs/\tT K (.ref C) cs=KE b/\Q (.bl b) H
def Ym:ia X (.builtin "isinstance") (rIsxt X.K):=by
 intro J s L H xs us Q I r c;let{e,C,a,ys,cs,b,ex,d,cl,f,g,i,hk,q}:=c;subst ex;let{j,l,rfl,m,p}:=wo r;obtain rfl:j=aZ e:=m;obtain rfl:l=aZ a:=p;let{_,its,u,o,x,y,n,A}:=(show ObjOk X.p X.w H s.heap a (.tup ys)from I.hok a _ g);obtain rfl:=Jk u i;let{D,N,E,O}:=o;obtain rfl:D=.type "tuple":=y;obtain rfl:E=.seq its.toArray n:=A;show PySem.W.kia_tup (Yl cl f) I.kIn (d.get I.hok) x hk (λz=>nomatch z) λG=>{.bl b,H,I.tok G,rfl,q}
end
end L2
namespace VL
open PySem L2 PySem.Deep PySem.SeqAt
open PyProof.Rows (envOfC)
structure VB (X:Cx)(O:Wd)(st:MY)(g:GS):Prop where
 out:PS X st (lfS X.B O g)
structure VBs (X:Cx)(O:Wd)(st:List MY)(g:GS):Prop where
 out:PSs X st (lfS X.B O g)
section
variable {X:Cx}{O:Wd}
def VS.o (h:VS X st g):VB X O st g:=#v[h.out O]
def VSs.o (h:VSs X st g):VBs X O st g:=#v[h.out O]
def va {rest:List MY}(a:VB X O st s)(b:VBs X O rest t):VBs X O (st::rest) (ak s t):=#v[PSs.sub (jt a.out b.out) λ_ _ _ h=>C5 h]
def Fs (a:VB X O st s):VBs X O [st] s:=#v[rg a.out]
def vo_if (w:VT X c f)(x:VBs X O a s)(y:VBs X O b t):VB X O (.If c a b pos) (sIf f s t):=⟨PS.sub (Sg w.out x.out y.out) λD G H z=>mv z λW m E A l C h n r bk ct=>
  ⟨W,m,_,A,C,h,λk j p q l1 u=>by
    cases k with
    |true=>show{p,j,E,rfl,l.trans l1.toLe,u,q,λe W2 d g l2 i=>n e W2 d g l2 (Same.tr l1.same i),r,λe W2 d g l2 i=>bk e W2 d g l2 (Same.tr l1.same i),λe W2 d g l2 i=>ct e W2 d g l2 (Same.tr l1.same i)}
    |false=>show{p,j,E,rfl,l.trans l1.toLe,u,q,λe W2 d g l2 i=>n e W2 d g l2 (Same.tr l1.same i),r,λe W2 d g l2 i=>bk e W2 d g l2 (Same.tr l1.same i),λe W2 d g l2 i=>ct e W2 d g l2 (Same.tr l1.same i)}⟩⟩
def ale (hp:sP (aT X.p X.w) X.A X.e X.xe)(hc:X.calm=MT)(hi:VI X T iter f)(hg:VG X T t)(hb:VBs X O body g)
  (hs:autoParam (∀x,iW iter X.e x=pure x) XW._auto_1):VB X O (.For T iter body [] pos) (c8 L f t g):=⟨PS.sub (Vm hp hc hi.out hg.out hb.out hs) λD σ H hG=>mv hG λW m E hW l wB h n r _ _=>by
show{W,m,_,hW,wB,h,λds m1 q J h1 l1 wA sq=>?_};show{λi k j H'=>i+k=ds.length/\∃d y,d.H=H'/\Le O d/\Same q.F d.F/\Rel X.B d y j/\dh L t g E (ds.drop i) y,{ds.length,(),q,m1,rfl,l.trans l1.toLe,λ_ _ z=>z,wA,h1},?_};intro i k j H' wC;let{ek,d,y,rfl,U,s',G,h'}:=wC;let{st,go}:=sq d.F d.H s' G.ok.sub i;by_cases c:i<ds.length
· have hd:ds[i]?=KE ds[i]:=aB c;rw[hU c]at h';let{g1,g2}:=go _ hd;show .inr ⟨g1,λs C=>∃a p,a.H=C/\Le O a/\Same q.F a.F/\Rel X.B a p s/\dh L t g E (ds.drop (i+1)) p,λs C wD=>by let{a,p,z1,z2,z3,z4,z5}:=wD;show{k-1,(),(),a,p,z1,z2,z3,z4,z5},λx C hy=>?_⟩;let{a,e3,l3,xR,r3}:=vm (W2:=d) G (g2 x C hy);subst e3;have l4:Le O a:=U.trans l3.toLe;have Y:Same q.F a.F:=Same.tr s' l3.same;have nx:∀u e b,dh L t g E (ds.drop (i+1)) (VL.fgt L u)->Le O e->Same a.F e.F->Rel X.B e u b->∃a p,a.H=e.H/\Le O a/\Same q.F a.F/\Rel X.B a p b/\dh L t g E (ds.drop (i+1)) p:=
    λu e b I l5 N Q=>{e,_,rfl,l5,Same.tr Y N,Q.fgt,I}
  show Al xR r3 h' λm4 σ4 h4 AS ET _=>{a,m4,_,rfl,l4,AS,h4,nx,r,λu e b I l5 N Q=>n u e b I l5 (Same.tr l1.same (Same.tr Y N)) Q,nx}
· rw[jE ()]at h';show .inl {st (),n y d j h' U (Same.tr l1.same s') G}⟩
end
abbrev GX:=D2->(Ev->Prop)->Prop->Prop
def spX (b:B)(C:MV)(fs:List (Str×V))(n:Nat)(g:GX):Sp:=λvs H Q E=>vs.length=n/\∃W ds R c,W.H=H/\Wok b W []/\Rps b W.F vs ds/\g ds R c/\(∀d a x,R d->Le W a->(∀j,a.C j=MS)->Wok b a []->Rev b W a x d->Q x a.H)/\
 (c->∀a H' e,Le W a->Wok b a []->Same a.H H'->H' e=KE (.xd fs)->E (.ref C) (KE e) H')
def Err (b:B)(O:Wd)(C:MV)(fs:List (Str×V))(E:XK)(d:Prop):Prop:=d->∀a H' c,Le O a->Wok b a []->Same a.H H'->H' c=KE (.xd fs)->E (.ref C) (KE c) H'
def Px (g:Prop->GS)(n c p:Nat)(b:GX):Prop:=∀ds R a,ds.length=p->b ds R a->g a {nx:=λm=>R (.val (.v .non)),rt:=Am R} {locs n (vsW ds),bB c MS}
def ahk (K:aE)(C:MV):Sp:=λvs H Q _=>∃e y z,vs=[.ref e,y,z]/\we K C/\NoAttr K C "number"/\NoAttr K C "most"/\Az y/\Az z/\H e=KE (jj e C MS)/\
 ∀a,H a=MS->a≠e->Q .non (upd (upd (upd H a (.xd [("number",y)])) e (jj e C (KE a))) a (.xd [("number",y),("most",z)]))
abbrev fs2 (y z:Int):List (Str×V):=[("number",.int y),("most",.int z)]
structure Xc (P:aQ)(w:bC)(K:aE)(mg:Str->AK)(base:MW)(x:Str)(C:MV):Prop where
 cls:we K C
 at_:mg x=KE (.ref C)
 n1:NoAttr K C "number"
 n2:NoAttr K C "most"
 ini:∃fI J',bH K (.ref C) "__init__"=KE (KE (.ref fI))/\(∃oI,K.lookup fI=KE oI/\oI.cls=.type "function")/\fq P w K mg base CX0 1 fI J' ZJ (ahk K C)/\Binds K J' ZJ []
def Yn (a:Prop)(y z:Int)(ga:GA):GS:=λ_ m=>ga m λb _=>vj b λds=>ds=[.v (.int y),.v (.int z)]/\Az (.int y)/\Az (.int z)/\a
def Uj (n:Nat)(g:GX)(a:Prop)(ga:GA):GS:=λE m=>ga m λb c=>vj b λds=>ds.length=n/\g ds (E9 λd=>E.rt d c) a
section
variable {P:aQ}{w:bC}{K:aE}{mg:Str->AK}{base:MW}{N:AZ}{wF:Str}{scope:lS}{f:MV}{cd:aL}{A:bU}{outer:List Env}{s0:aG}{H0:Hp}{E:XK}{O:Wd}
abbrev cxE (P:aQ)(w:bC)(K:aE)(mg:Str->AK)(base:MW)(N:AZ)(wF:Str)(scope:lS)(f:MV)(cd:aL)(A:bU)(outer:List Env)(s0:aG)(H0:Hp)(E:XK):Cx:=rj (CXx P w) P w K mg base N wF scope f cd A outer s0 H0 E
def ace (c:Xc P w K mg base x C)(I:Room k (cxE P w K mg base N wF scope f cd A outer s0 H0 E).A)(hO:O.H=H0)(hC:∀j,O.C j=MS)(J:Err #v[P,w,K] O C (fs2 y z) E L)
  (Q:VA (cxE P w K mg base N wF scope f cd A outer s0 H0 E) (a::g) ga) (hk:↑(2<=k)) (T:↥(Gl (cxE P w K mg base N wF scope f cd A outer s0 H0 E) x)) (U:↑((x==("__debug__":Str))=MU))
  (Y:↥(aO (a::g) (cxE P w K mg base N wF scope f cd A outer s0 H0 E).e=(MU,eval a (cxE P w K mg base N wF scope f cd A outer s0 H0 E).e)::aO g (cxE P w K mg base N wF scope f cd A outer s0 H0 E).e)) (yE:↥((eE pos (aO g (cxE P w K mg base N wF scope f cd A outer s0 H0 E).e)).any (·.1)=MU)) :
  VB (cxE P w K mg base N wF scope f cd A outer s0 H0 E) O (.Raise (KE (.Call (.Name x p) (a::g) [] pos)) MS CQ) (Yn L y z ga):=by
 let{fI,J',hi,lf,GI,bI}:=c.ini;show#v[PS.sub (aca c.cls (abz (X:=cxE P w K mg base N wF scope f cd A outer s0 H0 E) c.cls hi lf GI (I.mono hk) T c.at_ bI Q.out U Y yE)) λD σ H hG=>mv hG λW m E' hW l wB h _ _ _ _=>?_];show{W,m,_,hW,wB,h,λxB m1 n xs h1 l1 wA r1=>?_};let{ds,d,hd,ry,rz,hx}:=mw r1 h1;subst hd;cases d with
 |cons q1 d=>
 cases d with
 |cons q2 d=>
 cases d;cases(Rp.vI q1).1;cases(Rp.vI q2).1;show{by change 2<=100;decide,λe s=>{e,.int y,.int z,rfl,c.cls,c.n1,c.n2,ry,rz,ay,λi u ne=>{rfl,e,KE i,rfl,by rw[au (eT ne),ay],?_,?_}}};{rw[<-hO];show(l.trans l1.toLe).dm e s};{have CP:n.H i=MS:=(by rw[au ne]at u;show u);show J hx {n.F,n.H,λ_=>MS} _ i ((l.trans l1.toLe).cut λj a e=>by cases e) wA.ok.cut (λb o q=>?_) (by rw[qi ne,ay]);have r:b≠e:=bp q s;have G:b≠i:=bp q CP;rw[qi r,au G,au r,au G,au r];show q}
def ahl (F:fq P w K mg base (CXx P w) Y fa fd ps (spX #v[P,w,K] C fs n g))(hm:mg x=KE (.ref fa))(u:dH K (.ref fa)=MT)(hb:Binds K fd ps [])
  (hr:Room k (cxE P w K mg base N wF scope f cd A outer s0 H0 E).A) (hE:Err #v[P,w,K] O C fs E Rx)
  (ha:VA (cxE P w K mg base N wF scope f cd A outer s0 H0 E) (a::i) ga) (hk:↑(Y<=k)) (hg:↥(Gl (cxE P w K mg base N wF scope f cd A outer s0 H0 E) x)) (yM:↑((x==("__debug__":Str))=MU))
  (he:↥(aO (a::i) (cxE P w K mg base N wF scope f cd A outer s0 H0 E).e=(MU,eval a (cxE P w K mg base N wF scope f cd A outer s0 H0 E).e)::aO i (cxE P w K mg base N wF scope f cd A outer s0 H0 E).e)) (yE:↥((eE pos (aO i (cxE P w K mg base N wF scope f cd A outer s0 H0 E).e)).any (·.1)=MU)) :
  VB (cxE P w K mg base N wF scope f cd A outer s0 H0 E) O (.Return (KE (.Call (.Name x p) (a::i) [] pos)) CQ) (Uj n g Rx ga):=by
 show#v[PS.sub (zu (Gg (X:=cxE P w K mg base N wF scope f cd A outer s0 H0 E) F (hr.mono hk) hg hm u hb .nil passX ha.out yM he yE)) λD J H hG=>mv hG λW m E' hW l wB h _ r _ _=>?_];show{W,m,_,hW,wB,h,λxB L q xs h1 l1 b r1=>?_};let{ds,Q,hl,h2}:=mw r1 h1;show{by rw[bP,Q.length];show hl,{q.F,q.H,λ_=>MS},ds,_,_,rfl,b.ok.cut,by rw[bP];show Q,h2,λev c y G l3 T s U=>?_,λhx c H' dx l3 s sm hd=>?_}
 ·let{l4,I}:=pz b.ok l3 s;cases ev with
  |cel j=>show G.elim
  |val d=>show r _ L #v[c.F,c.H,q.C] J y G (l.trans (l1.trans l4).toLe) (b.lift l4 (λ_=>rfl) I) (((lu b.ok U (λj z=>nomatch z) T).old l1.toLe).old l)
  |new d=>show r _ L #v[c.F,c.H,q.C] J y G (l.trans (l1.trans l4).toLe) (b.lift l4 (λ_=>rfl) I) (((lu b.ok U (λj z=>nomatch z) T).old l1.toLe).old l)
 ·let{l4,I}:=pz b.ok l3 s;show hE hx {c.F,c.H,λ_=>MS} H' dx ((l.trans (l1.trans l4).toLe).cut λj a e=>by cases e) s.cut sm hd
def RdxX (P:aQ)(w:bC)(K:aE)(mg:Str->AK)(base:MW)(N:AZ)(x:Str)(st:MY)(f:MV)(k:Nat)(C:MV)(fs:List (Str×V))(g:Prop->GS):Prop:=∀a A outer s H E O b,Room k (A.deeper (nI x (bb st) ‹s› f a))->O.H=H->(∀j,O.C j=MS)->Err #v[P,w,K] O C fs E b->
 VBs (cxE P w K mg base N x (bb st) f a A outer s H E) O (ff st) (g b)
def Fun.okX (F:Fun K x wF st f fd)(S:cz N ps (bb st))(len:∀vs H Q E,sp vs H Q E->vs.length=ps.length)
  (b:∀a A outer s H vs Q E,Room k (A.deeper (nI wF (bb st) ‹s› f a))->sp vs H Q E->∃t,PSs (cxE P w K mg base N wF (bb st) f a A outer s H E) (ff st) t/\t {nx:=λ_ H'=>Q .non H',rt:=Q} (L2.start N vs) H):fq P w K mg base (CXx P w) (k+1) f fd ps sp:=by
 let{g,i,kV,j,l,m,a,ct,n,rfl,lk,c}:=F.ex;show ade lk c S len λA outer s H vs Q E d e=>b a A outer s H vs Q E d e
def fn_x (F:Fun K x wF st f fd)(S:cz N ps (bb st))
  (Y:RdxX P w K mg base N wF st f k C fs g)
  (hg:Px g N.length nc ps.length gf):fq P w K mg base (CXx P w) (k+1) f fd ps (spX #v[P,w,K] C fs ps.length gf):=by
 show Fun.okX F S (λvs H Q E h=>h.1) λwL A outer s H vs Q E hr h=>?_;let{hl,W,ds,R,U,rfl,ok,D,HB,q,qx}:=h;have hN:∀j,W.C j=MS:=λj=>by
  cases e:W.C j with
  |none=>rfl
  |some a=>let{d,hd}:=ok.live j a e;simp at hd
 have EV:∀{j d},(bB nc (MS:Option Tr))[j]?=KE (KE d)->False:=λ{j d} e=>(by rw[dP]at e;split at e<;>cases e);have fin:∀p m b c x,Am R p m->Le W b->Rel ⟨P,w,K⟩ b m c->Rev ⟨P,w,K⟩ W b x p->Q x b.H:=λp m b c x h l z r=>by
  have G:=z.ok.cut;have I:Le W ⟨b.F,b.H,λ_=>MS⟩:=l.cut λj a e=>(by cases e);let{f1,f2,f3}:=G6 l (λj=>hN (j+1)) z r;cases p with
  |val d=>show q _ {b.F,b.H,λ_=>MS} x h I (λ_=>rfl) G (f1 d rfl)
  |new d=>
   let{a,rfl,J,L,T,_}:=f2 d rfl;show q _ {b.F,b.H,λ_=>MS} _ h I (λ_=>rfl) G {a,rfl,J,L,λj e=>(by cases e),T}
  |cel j=>
   cases j with
   |zero=>show h.elim
   |succ j=>
    change (match m.cel[j+1]? with | some (KE d)=>R (.new d) | _=>False)at h
    rcases e:m.cel[j+1]? with _ | _ | d;{rw[e]at h;show h.elim};{rw[e]at h;show h.elim};{rw[e]at h;let{a,rfl,J,L,T,_}:=f3 j d rfl e;show q _ {b.F,b.H,λ_=>MS} _ h I (λ_=>rfl) G {a,rfl,J,L,λj e=>(by cases e),T}}
 show{_,(Y wL A outer s W.H E W U hr rfl hN qx).out,W,_,_,rfl,Le.refl W,{{ok.sub,λj d h=>(EV h).elim,λj a e=>(by rw[hN]at e;cases e),λj k a e=>(by rw[hN]at e;cases e)},λi u hu=>?_,?_},hg ds R U (by rw[<-D.length];show hl) HB,λm b c h l _ z=>fin (.val (.v .non)) m b c .non h l z (Rp.v rfl),fin,λ_ _ _ h=>h.elim,λ_ _ _ h=>h.elim};{have n:=G5 hu;rw[aW]at n;rcases e:ds[i]? with _ | d;{rw[e]at n;cases n};{rw[e]at n;cases n;let{y,hy,ry}:=D.get e;show{y,Dc hy,ry}}};{change(locs N.length (vsW ds)).length=_;rw[An];unfold locs;rw[aH,dC,aC,D.length]}
structure Fx (P:aQ)(w:bC)(K:aE)(mg:Str->AK)(base:MW)(k:Nat)(x:Str)(ps:AZ)(C:MV)(fs:List (Str×V))(n:Nat)(g:GX):Prop where
 ex:∃f fd,fq P w K mg base (CXx P w) k f fd ps (spX #v[P,w,K] C fs n g)/\mg x=KE (.ref f)/\dH K (.ref f)=MT/\Binds K fd ps []
def Fx.of (F:Fd K mg x st ps f fd)(a:Px g N.length nc ps.length b)(c:N.Nodup->RdxX P w K mg base N x st f k C fs g)(S:autoParam (cz N ps (bb st)) JJ._auto_1):Fx P w K mg base (k+1) x ps C fs ps.length b:=
 {f,fd,fn_x F.fn S (c S.nd) a,F.at_,F.fn.kp,F.bd}
def ahm (F:Fx P w K mg base c x ps C fs n g)
  (d:Room k (cxE P w K mg base N wF scope f cd A outer s0 H0 E).A) (e:Err #v[P,w,K] O C fs E i)
  (j:VA (cxE P w K mg base N wF scope f cd A outer s0 H0 E) (a::b) ga) (hk:↑(c<=k)) (l:↥(Gl (cxE P w K mg base N wF scope f cd A outer s0 H0 E) x)) (q:↑((x==("__debug__":Str))=MU))
  (r:↥(aO (a::b) (cxE P w K mg base N wF scope f cd A outer s0 H0 E).e=(MU,eval a (cxE P w K mg base N wF scope f cd A outer s0 H0 E).e)::aO b (cxE P w K mg base N wF scope f cd A outer s0 H0 E).e)) (s:↥((eE pos (aO b (cxE P w K mg base N wF scope f cd A outer s0 H0 E).e)).any (·.1)=MU)) :
  VB (cxE P w K mg base N wF scope f cd A outer s0 H0 E) O (.Return (KE (.Call (.Name x p) (a::b) [] pos)) u) (Uj n g i ga):=by
 let{fa,fd,F,m,kp,bd}:=F;show ahl F m kp bd d e j hk l q r s
def Fx.calm (F:Fx P w K mg base k x ps C fs n g):Fo P w K mg base k x ps (spP #v[P,w,K] n λds R=>g ds R False):=by
 let{f,fd,F,a,b,c}:=F;show{f,fd,{λvs H Q E h=>F.len vs H Q E0 ?_,λA outer s H args us vs Q E u y D G h=>?_},a,b,c};{let{d,W,ds,R,i,j,l,m,p}:=h;show{d,W,ds,R,False,i,j,l,m,p,λz=>z.elim}}
 ·let{d,W,ds,R,i,j,l,m,p}:=h;show mM (F.run A outer s H args us vs Q E0 u y D G {d,W,ds,R,False,i,j,l,m,p,λz=>z.elim}) λr s' q=>?_;cases r with
  |ok I=>cases I<;>show q
  |error e=>
   let{_,_,_,_,_,_,_,_,_,_,_,_,_,_,z}:=q;show z.elim
end
end VL
namespace PB.N71
open PySem L2 VL Bits S1 PySem.Deep
def Uk (ls:LJ)(W:Nat->Nat->Rl)(B:List Bgn):(kg ls W B).length<=B.length*ls.length:=by
 unfold kg
 induction B with
 |nil=>simp
 |cons p B a=>
  rw[dJ,aH,aC,aS,pW];have:(ji ls W p.2.2 (ls.idxOf p.2.1)).length<=ls.length:=by
   unfold ji;rw[aC];show aV (iA _ _) (by rw[iK];show aI _)
  lia
def Few (ls:LJ)(k:Nat)(W:Nat->Nat->Rl)(a:LQ)(n:Nat)(b:List (List ck))(m:Nat):Prop:=(j3 ls k W a n b (m+1)).length+(if m=n then 0 else (Bm ls k W a n b (m+1)).length)<=400
def O8 (C:MV)(a:Prop):GS:=(ak (ax 3 (ar 2 (sv C) (gaV (aa 0) (gA1 (aa 2))))) (ak (ic 4 0 (gLst gaN)) (ak (ax 5 (gLst (gA1 (gTup (gaV (gTup (gA1 (aa 1))) (gA1 (gTup (gA1 (gI 0))))))))) (ak (c8 [6] (giD (gaV (aa 2) (gaV (xj (gI 1)) (gA1 (xj (gI 1)))))) (.one 6) (ak (gc (gMc "list" 4 pq (gaE (ar 2 (Hq C) (gaV (aa 0) (gA1 (aa 5)))) gaN))) (ak (ax 5 (gIf (ku (aa 6)) (ar 3 (Aw C) (gaV (aa 0) (gaV (aa 5) (gA1 (gX (aa 3) (gOp (dw λi j=>.int (i-j)) (aa 6) (gI 1))))))) (gLst gaN))) (sIf (gT (gOp (dw λi j=>.bl (decide (j<i))) (gOp c5 (gCB ja (gaE (aa 4) gaN)) (gCB ja (gaE (aa 5) gaN))) (gC ki))) (Yn a 401 400 (gaV (gOp c5 (gC ki) (gI 1)) (gA1 (gC ki)))) cy)))) (bc (aa 4))))))
def g_runs_from (C:MV):GX:=λds R c=>∃ls k W m a n,ds=[m,tI a,iT ((n:Nat):Int)]/\w8 C ls k W m/\ls.Nodup/\ls.length<=300/\k<=300/\Ax ls k/\n<=50/\a∈ls/\
 ∀b:List (List ck),b.length=n->(∀m K,b[m]?=KE K->∀p,p∈K↔VdR ls k p/\gv ls k W m p)->((∃m,m<=n/\¬Few ls k W a n b m)->c)/\((∀m,m<=n->Few ls k W a n b m)->R (.new (.lst ((j3 ls k W a n b (n+1)).map trT))))
def f_runs_from:Px (O8 C) 7 2 3 (g_runs_from C):=by
 intro ds R Rx hl h;let{ls,k,W,_,a,n,rfl,l,nd,r,s,hi,hn,G,q}:=h;let{x,rfl,hx}:=id l;show{rfl,ls,k,W,_,n,rfl,l,nd,r,s,hi,(),λb H J=>?_};let{z,q}:=q b H J;show{bg rfl,bg rfl,bg rfl,bg rfl,bg rfl,?_};show{n+1,by change(n:Int)=((n+1:Nat):Int)-1;lia,rfl,rfl,(),?_};change dh _ _ _ _ (Bo (n+1)) _;unfold Bo;show jk (I:=λi m=>m={[KE (.v (.obj C ZZ [ltT ls,x])),KE (.v (tI a)),KE (.v (iT ((n:Nat):Int))),KE (.v (.lst (b.map jq))),KE (.c 1),KE (.v (.lst ((if i=n+1 then []else Bm ls k W a n b i).map bgT))),MS],[MS,KE (.lst ((j3 ls k W a n b i).map trT))]}/\∀j,j<i->Few ls k W a n b j) {rfl,λj L=>()} ?_ ?_
 ·intro i y m N u w hN;let{rfl,g}:=w;have A:=bf u;rw[bM]at A;rw[cY A]at u;cases u;have O:¬i=n+1:=();rw[M' O];obtain⟨Q,b2⟩:(Bm ls k W a n b i).length<=400/\(j3 ls k W a n b i).length<=400:=by
   cases i with
   |zero=>show{by change 1<=400;lia,eQ _}
   |succ j=>
    have:=g j ();unfold Few at this;rw[M' ()]at this;lia
  have D:∀p∈Bm ls k W a n b i,BgOk ls k p:=λp T=>by
   let{U,Y,h3}:=adv G i p T;show{U,Y,()}
  have et:j3 ls k W a n b (i+1)=j3 ls k W a n b i++kg ls W (Bm ls k W a n b i):=by
   unfold j3;rw[lW];simp
  have el:(kg ls W (Bm ls k W a n b i)).length<=400*300:=aV (Uk ls W _) (oN Q r);show{rfl,rfl,ls,k,W,_,Bm ls k W a n b i,rfl,l,r,s,D,(),?_};show{by rw[aC,aC];lia,?_};have em:(j3 ls k W a n b i).map trT++(kg ls W (Bm ls k W a n b i)).map trT=(j3 ls k W a n b (i+1)).map trT:=(by rw[et,bT]);have go:Few ls k W a n b i->∀j,j<i+1->Few ls k W a n b j:=λh j L=>by
   by_cases e:j=i;{rw[e];show h};{show g j ()}
  by_cases c:i=n
  ·show ifN (show(((n+1:Nat):Int)-1-(i:Int) != 0)=MU by rw[c,show((n+1:Nat):Int)-1-(n:Int)=0 by lia];rfl) ?_;show{bg rfl,?_};change if decide ((400:Int)<(((j3 ls k W a n b i).map trT++(kg ls W (Bm ls k W a n b i)).map trT).length:Int)+((([]:D2)).length:Int))=MT then _ else _
   rw[em,aC,kB];by_cases f:Few ls k W a n b i;{have d:=f;unfold Few at d;rw[MZ c]at d;show ifN (NA ()) ?_;show ie ?_;show hN _ {?_,go f};rw[MZ (show i+1=n+1 by lia)];rfl};{have d:=f;unfold Few at d;rw[MZ c]at d;show ifY (NB ()) ?_;show{rfl,by change vM 401<1000;decide,by change vM 400<1000;decide,z {i,(),f}}}
  ·show ifY (show(((n+1:Nat):Int)-1-(i:Int) != 0)=MT by
     have:((n+1:Nat):Int)-1-(i:Int)≠0:=();simpa using this) ?_
   obtain⟨K,E⟩:∃K,b[n-i-1]?=KE K:={_,aB ()};have ix:atI (b.map jq) (((n+1:Nat):Int)-1-(i:Int)-1)=KE (jq K):=by
    rw[show((n+1:Nat):Int)-1-(i:Int)-1=((n-i-1:Nat):Int)by lia];show bt (by rw[aW,E];rfl)
   show bj ix ?_;have eb:Bm ls k W a n b (i+1)=xw ls k W (Bm ls k W a n b i) K:=by
    change xw ls k W (Bm ls k W a n b i) (b.getD (n-i-1) [])=_;rw[bO,E];rfl
   show{rfl,ls,k,W,_,Bm ls k W a n b i,K,rfl,l,r,s,D,(),?_};change if decide ((400:Int)<(((j3 ls k W a n b i).map trT++(kg ls W (Bm ls k W a n b i)).map trT).length:Int)+(((xw ls k W (Bm ls k W a n b i) K).map bgT).length:Int))=MT then _ else _
   rw[em,aC,aC,<-eb];by_cases f:Few ls k W a n b i;{have d:=f;unfold Few at d;rw[M' c]at d;show ifN (NA ()) ?_;show ie ?_;show hN _ {?_,go f};rw[M' (show ¬i+1=n+1 by lia)];rfl};{have d:=f;unfold Few at d;rw[M' c]at d;show ifY (NB ()) ?_;show{rfl,by change vM 401<1000;decide,by change vM 400<1000;decide,z {i,(),f}}}
 ·intro m w;let{rfl,g}:=w;rw[bM]at g ⊢;show q λm hm=>g m ()
end PB.N71
namespace PySem
namespace TupE
open SetTable TupSet TupD Deep PyProof.Rows PySem.W
section
variable {prog:aQ}{w:bC}{A:bU}{E:aL->aG->Prop}{κ:SortKind}{it:Array Keyed}
theorem Yo (a:∀i,i<n->p.getD i 0=i)(b:∀i,i+1<n->∀C:Bool->aG->Prop,C MU s->tU prog w A κ it (i+1) i C s):∀f m,1<=m->m+f=n->(kas_asc p f m).kasWp (tU prog w A κ it) (λr s'=>r=n/\s'=s) s
 |0,m,c,d=>{(),rfl}
 |f+1,m,c,d=>by
  change tU prog w A κ it (p.getD m 0) (p.getD (m-1) 0) _ s;rw[a m (),a (m-1) ()];obtain⟨k,rfl⟩:∃k,m=k+1:={m-1,()};show b k () _ ?_;show Yo a b f (k+2) () ()
theorem Jl:∀f n r,r<=1->minRun' f n r<=n+r
 |0,n,r,h=>aI _
 |f+1,n,r,h=>by
  rw[minRun'_succ]
  split;{show aI _};{have:=Jl f (n / 2) (max r (n % 2)) ();lia}
def acf (p:2<=n)(c:∀i,i+1<n->∀C:Bool->aG->Prop,C MU s->tU prog w A κ it (i+1) i C s)
  (d:∀a,arrOf a=(dM (bG n)).map (kas_item it)->failedOf a=MS->Q Unit.unit a s) :
  kasC (aT prog w) A E sortRuns' Q (vA κ it (dM (bG n))) s:=by
 obtain⟨r,rfl⟩:∃r,n=r+2:={n-2,()};have b:(dM (bG (r+2))).size=r+2:=∅;have h:(kas_count (r+2) (dM (bG (r+2)))).kasWp (tU prog w A κ it) (λq s'=>q=(r+2,dM (bG (r+2)))/\s'=s) s:=by
  unfold kas_count;rw[KasT.kasWp_bind];show kas_wp_mono (Yo (n:=r+2) (λi hi=>by simp[Array.getD_eq_getD_getElem?,hi]) c (r+2-1) 1 (aI _) ()) λm s' f=>?_;let{rfl,rfl}:=f;rw[MZ ∅];show#v[rfl,rfl]
 rw[sortRuns'_eq];show pM (kasC_get ?_);dsimp only;have hsz:(arrOf (vA κ it (dM (bG (r+2))))).size=r+2:=by
  change((dM (bG (r+2))).map (kas_item it)).size=_;rw[Array.size_map,b]
 have g:=Jl (r+2) (r+2) 0 ();simp only[hsz];show pM (kasC_range ?_);change kasC _ _ _ (forIn (0::1::vJ 2 r) _ _) _ _ _;show kasC_cons ?_;dsimp only;rw[M' ()];simp only[uU,gB];show pM (kas_count_ () (by rw[b];show aI _) (λm u s' j x y l=>?_) h);let{e,rfl}:=l;cases e;dsimp only;rw[M' ()];show pM (kasC_get ?_);rw[show(pendingOf (vA κ it (dM (bG (r+2))))).back?=MS from rfl];dsimp only;show pM (kasC_modify (vB ?_));change kasC _ _ _ (forIn (1::vJ 2 r) _ _) _ _ _;show kasC_cons ?_;dsimp only;rw[MZ (aI _)];show vB ?_;dsimp only;show pM (kasC_range ?_);change kasC _ _ _ (forIn (0::1::vJ 2 r) _ _) _ _ _;show kasC_cons ?_;show pM (kasC_get ?_);rw[MZ (show(pendingOf (setPending (vA κ it (dM (bG (r+2)))) ((pendingOf (vA κ it (dM (bG (r+2))))).push (0,r+2,0)))).size<=1 from aI 1)];show vB ?_;dsimp only;show vB (d _ rfl rfl)
end
section
variable {prog:aQ}{w:bC}{A:bU}{E:aL->aG->Prop}{s:aG}
abbrev trD (l:LJ):DW:=l.map Sum.inr
theorem adx (f:A.units+2<dB)(d:fin=MU):∀{l m vs us i},l.length=m.length->ItemsR prog w s.heap (trD l) vs->ItemsR prog w s.heap (trD m) us->Q (lexD (trD l) (trD m)) s->KatLex prog w A MU fin Q (vs.zip us) i s
 | [],[],[],[],i,_,_,_,h=>kat_nil (by rw[d];show h)
 | [],[],_::_,_,_,_,r,_,_=>r.elim
 | [],[],_,_::_,_,_,_,r,_=>r.elim
 |a::l,b::m,[],_,_,_,r,_,_=>r.elim
 |a::l,b::m,_,[],_,_,_,r,_=>r.elim
 |a::l,b::m,v::vs,u::us,i,e,r,q,h=>by
  show kat_cons (P1 () r.1 q.1 ?_);by_cases c:(Sum.inr a:I2)=Sum.inr b
  ·rw[NB c];show kat_yes (adx f d (⇑e) r.2 q.2 ?_);have:lexD (trD (a::l)) (trD (b::m))=lexD (trD l) (trD m):=by
    change(if (Sum.inr a:I2)=Sum.inr b then _ else _)=_
    rw[MZ c]
   rw[this]at h;show h
  ·rw[NA c];show kat_no ?_;let{J,rfl,k1}:=r.1;let{L,rfl,k2}:=q.1;have h':Q (HT.lexLt a b) s:=by
    rw[lexLt_eq];have:lexD (trD (a::l)) (trD (b::m))=TupSet.lexLt a b:=by
     change(if (Sum.inr a:I2)=Sum.inr b then _ else _)=_
     rw[M' c];rfl
    rw[this]at h;show h
   let{g,j,n1,n,p,x,y}:=k1;let{z,C,n2,D,G,H,I}:=k2;show kat_one _ _ (HT.lt_tupInts (items:=j) (items2:=C) #v[g,n,p,n1,x] #v[z,D,G,n2,H] (Ho y) (Ho I) () (by show h'))
theorem Rt:∀{vs:AW}{ls:List LJ},KeysL prog w h vs (ls.map trD)->(∀l∈ls,l≠[])->∃fs,KatTups h vs fs/\fs.length=vs.length/\∀v∈fs,∃b o,v=aZ b/\h.get? b=KE o/\o.cls=.type "tuple"
 | [],[],_,_=>{[],trivial,rfl,by simp}
 | [],_::_,h,_=>h.elim
 |_::_,[],h,_=>h.elim
 |v::vs,l::ls,k,d=>by
  let{{a,rfl,o,items,n,e,g,hd,hi},i}:=k;let{fs,j,m,p}:=Rt (ls:=ls) i λy q=>d y (aP _ q);obtain⟨x,c,rfl⟩:∃x c,l=x::c:=by
   cases l with
   |nil=>show NC rfl (d _ aR)
   |cons x c=>show#v[x,c,rfl]
  let⟨its⟩:=items;dsimp only at hi
  match its,hi with
  | [],hi=>show hi.elim
  |f::r,hi=>
   show{f::fs,KatTups.cons e g hd rfl j,by simp[m],λv hv=>?_};rcases aX.mp hv with rfl | hv;{let{b,rfl,u,_,_,z,C,_}:=hi.1;show#v[b,u,rfl,z,C]};{show p v hv}
def acg (vs:AW):((dM (bG vs.length)).toList.map λi=>vs.getD i fO)=vs:=by
 apply mJ;intro i;rw[aW];by_cases h:i<vs.length;{rw[show(dM (bG vs.length)).toList[i]?=KE i from cY h];simp[bO,aB h]};{rw[dI (⇑h),dI ()];rfl}
theorem A0:∀{ks vs},ItemsR prog w h ks vs->vs.length=ks.length
 | [],[],_=>rfl
 | [],_::_,r=>r.elim
 |_::_,[],r=>r.elim
 |_::ks,_::vs,r=>by rw[aS,aS,A0 r.2]
def ach {vs:AW}{ls:List LJ}(q:s.heap.get? a=KE (iU "list" vs.toArray n))(hK:KeysL prog w s.heap vs (ls.map trD))(hu:A.units+2<dB)(D:∀l∈ls,l.length=k+1)(KA:∀i x y,ls[i]?=KE x->ls[i+1]?=KE y->lexD (trD y) (trD x)=MU)(hz:vs.length<=100000)
  (h:∀h' c,(∀b o,b≠a->s.heap.get? b=KE o->h'.get? b=KE o)->h'.get? a=KE (iU "list" vs.toArray c)->P (.done (.ret .none)) {s with heap:=h'}) :
  aJ (aT prog w) A (fW.«list.sort» {[.ref a],[]}) P E s:=by
 have xE:vs.length=ls.length:=(by rw[hK.length,aC]);have AI:∀l∈ls,l≠[]:=λl hm e=>(by have:=D l hm;rw[e]at this;cases this);have s1:=jR s.heap a (fY λ_=>(#[]:BW));obtain⟨G,MF⟩:∃G,(s.heap.update a (fY λ_=>(#[]:BW))).get? a=KE (iU "list" #[] G):={_,get?_update_seq q λ_=>#[]};have j:(((s.heap.update a (fY λ_=>(#[]:BW))).push (iU "tuple" vs.toArray 0)).push (iU "list" #[] 0)).get? a=KE (iU "list" #[] G):=
  aF _ (aF _ MF)
 have kp:∀b o,b≠a->s.heap.get? b=KE o->(((s.heap.update a (fY λ_=>(#[]:BW))).push (iU "tuple" vs.toArray 0)).push (iU "list" #[] 0)).get? b=KE o:=λb o u e=>
  aF _ (aF _ (by rw[s1.2 b u];show e))
 generalize hH:((s.heap.update a (fY λ_=>(#[]:BW))).push (iU "tuple" vs.toArray 0)).push (iU "list" #[] 0)=H at j kp;have KB:KeysL prog w H vs (ls.map trD):=hK.imp λx c k=>Uc k q kp;obtain⟨f,I,hP⟩:∃f,(H.update a (fY λ_=>dM vs)).get? a=KE (iU "list" (dM vs) f)/\P (.done (.ret .none)) {s with heap:=H.update a (fY λ_=>dM vs)}:=by
  have s2:=jR H a (fY λ_=>dM vs);obtain⟨f,I⟩:∃f,(H.update a (fY λ_=>dM vs)).get? a=KE (iU "list" (dM vs) f):={_,get?_update_seq j λ_=>dM vs};show{f,I,h _ f (λb o u e=>by rw[s2.2 b u];show kp b o u e) I}
 rw[list_sort_plain];show aA (listItems_at q rfl ?_);show aA (uH q rfl ?_ (by rw[aK,eP];lia) (eQ _));show aA (vK MF rfl ?_);show aA (tQ ?_ (by change vs.length<=_;rw[eP];lia));show aA (wpAny_newList ?_ (eQ _));show gK ?_;change aJ (aT prog w) A _ P E {s with heap:=((s.heap.update a (fY λ_=>(#[]:BW))).push (iU "tuple" vs.toArray 0)).push (iU "list" #[] 0)};rw[hH];dsimp only;by_cases h2:2<=vs.length
 ·have m:¬vs.toArray.size<2:=(by rw[aK];lia);rw[M' m,M' m];let{fs,J,hf2,L}:=Rt KB AI;show aA (kat_kind (s:={s with heap:=H}) (T:=.type "tuple") J () (λv hv=>by let{b,o,rfl,N,O}:=L v hv;rw[<-O];show(sL N).andThen .now) #v[] ?_);have hc:∀i,i+1<vs.length->∀C:Bool->aG->Prop,C MU {s with heap:=H}->tU prog w A (tuples' (gU "tuple" != gU "tuple")) (vs.toArray.zip vs.toArray) (i+1) i C {s with heap:=H}:=λi hi C hC=>by
   rw[<-kat_ask_eq rfl];let{c,ec,o1,MD,n1,N,_,d1,U}:=KB.at (i:=i+1) (by rw[aC];lia);let{d,ed,o2,ME,n2,O,_,d2,Y}:=KB.at (i:=i) (by rw[aC];lia);have q1:ls[i+1]?=KE ls[i+1]:=aB ();have q2:ls[i]?=KE ls[i]:=aB ();have z1:(ls.map trD).getD (i+1) []=trD ls[i+1]:=(by rw[bO,aW,q1];rfl);have z2:(ls.map trD).getD i []=trD ls[i]:=(by rw[bO,aW,q2];rfl);rw[z1]at U;rw[z2]at Y;have l1:=D _ (aU q1);have l2:=D _ (aU q2);unfold kas_ask;rw[ec,ed,show(gU "tuple" != gU "tuple")=MU from by decide];have a:=KA i _ _ q2 q1;show kat_lt (s:={s with heap:=H}) N d1 O d2 (adx (s:={s with heap:=H}) hu (NA ?_) () U Y (by rw[a];show hC));have y1:=A0 U;have y2:=A0 Y;rw[aC]at y1 y2;rw[<-gQ,<-gQ];lia
  have est:uC (tuples' (gU "tuple" != gU "tuple")) (vs.toArray.zip vs.toArray) #[] 7 MS=vA (tuples' (gU "tuple" != gU "tuple")) (vs.toArray.zip vs.toArray) (dM (bG vs.length)):=by
   have e:=kas_range (vs.toArray.zip vs.toArray);rw[show(vs.toArray.zip vs.toArray).size=vs.length by simp]at e;change uC _ (vs.toArray.zip vs.toArray) #[] 7 MS=uC _ ((dM (bG vs.length)).map (kas_item (vs.toArray.zip vs.toArray))) #[] 7 MS;rw[e]
  show aA (dW (Q:=λ(r:Unit×SortSt) s'=>s'={s with heap:=H}/\failedOf r.2=MS/\(arrOf r.2).map (·.2)=dM vs) ?_ ?_ λ_ _ e=>e);{rw[est];show acf (Q:=λ_ z s'=>s'={s with heap:=H}/\failedOf z=MS/\(arrOf z).map (·.2)=dM vs) h2 hc λz a1 a2=>{rfl,a2,by rw[kat_snds rfl a1,acg]}};{intro wC s' FU;let{⟨⟩,z}:=wC;let{rfl,g,p}:=FU;dsimp only;rw[p];show aA (vK j rfl ?_);show aA (uH (s:={s with heap:=H}) j rfl ?_ (eQ _) (by rw[aK,eP];lia));rw[g];simp only[bne_self_eq_false,fU,if_false];show WQ hP}
 ·have m:vs.toArray.size<2:=(by rw[aK];lia);rw[MZ m,MZ m];show aA (WQ ?_);show aA (WQ ?_);dsimp only;have hz:Array.map (λx=>x.snd) (arrOf (uC general' (vs.toArray.zip vs.toArray) #[] 7 MS))=dM vs:=by
   change Array.map (λx=>x.snd) (vs.toArray.zip vs.toArray)=_;apply Array.toList_inj.mp;rw[Array.toList_map,Array.toList_zip];show List.map_snd_zip (aI _)
  rw[hz];show aA (vK j rfl ?_);show aA (uH (s:={s with heap:=H}) j rfl ?_ (eQ _) (by rw[aK,eP];lia));simp only[bne_self_eq_false,fU,if_false];show WQ hP
def call_sortedA {l:MV}{vs:AW}{k:Nat}{ls:List LJ}{Q:aL->aG->Prop}(u:s.heap.IsList l vs.toArray)(z:KeysL prog w s.heap vs (ls.map trD))(I:A.units+8<dB)(C:∀l∈ls,l.length=k+1)(D:∀i x y,ls[i]?=KE x->ls[i+1]?=KE y->lexD (trD y) (trD x)=MU)(hz:vs.length<=100000)
  (h:∀d h' G c,s.heap.get? d=MS->(∀b o,s.heap.get? b=KE o->h'.get? b=KE o)->h'.get? d=KE (iU "list" vs.toArray c)->Q (.ref d) {s with heap:=h',toks:=G}) :
  aJ (aT prog w) A (call (.builtin "sorted") [.ref l]) Q E s:=by
 show Calls.call_function_entry kind_sorted plain_sorted entry_sorted (args_sorted1 _) ?_;unfold fW.«sorted»;show aA (m:=checkCount "sorted" 1 1 _) (WQ ?_);show aA (collect_list u ?_ (by rw[eP];lia));show aA (wpAny_newList ?_ (by rw[eP];lia));generalize g:((s.heap.push (iU "list" #[] 0)).update ‹s› (fY (·++vs.toArray)))=f;have hsz:f.objs.size=‹s›+1:=(by rw[<-g,Heap.size_update,size_push']);have j:∀b o,s.heap.get? b=KE o->f.get? b=KE o:=λb o q=>by
  have n:b<‹s›:=bA q;rw[<-g,qL _ _ _ _ (bN n),Heap.get?_push_ne _ _ _ (bN n)];show q
 change aJ _ _ _ _ _ {s with heap:=f.push (iU "list" vs.toArray 0)};have p:(f.push (iU "list" vs.toArray 0)).get? f.objs.size=KE (iU "list" vs.toArray 0):=bK _ rfl;have kp:∀b o,s.heap.get? b=KE o->(f.push (iU "list" vs.toArray 0)).get? b=KE o:=λb o e=>aF _ (j b o e);have r:s.heap.get? f.objs.size=MS:=by
  cases e:s.heap.get? f.objs.size with
  |none=>rfl
  |some J=>show NC (bA (j _ _ e)) (lP _)
 show aA (gK (fN slot_list_sort {_,p,rfl} entry_list_sort ?body (args_list_sort _)))
 case body=>
  show ach (s:={s with heap:=f.push (iU "list" vs.toArray 0)}) p (z.imp λx a k=>key_mono kp k) (by change A.units+1+1+2<dB;lia) C D hz λh' c hk hd=>?_;show{_,rfl,WQ {_,rfl,h _ h' s.toks c r (λb o e=>hk b o (λH=>?_) (kp b o e)) hd}};rw[H,r]at e;show nomatch e
end
end TupE
end PySem
namespace L2
open PySem PySem.Spec PyProof.Rows PySem.Deep
section
variable {X:Cx}{x:Str}{e:MX}{te:TE}{p pos:Pos}
def Ul (ls:List LJ):Prop:=∀i x y,ls[i]?=KE x->ls[i+1]?=KE y->TupD.lexD (TupE.trD y) (TupE.trD x)=MU
def tSrtA (K:aE)(te:TE):TE:=λb H Q=>te b H λv a=>∃l ys ls k,v=.ref l/\SqL K a l ys/\xb K a ys (ls.map TupE.trD)/\ls.length<=100000/\(∀l∈ls,l.length=k+1)/\Ul ls/\
 ∀d,a d=MS->Q (.ref d) (upd a d (.lst ys))
def aci (E:X.A.units+8<dB)(G:Gl X x)(J:X.mg x=MS)(L:fR x=KE (.builtin "sorted"))(N:PE X e te)
  (O:↑(x≠"__name__")) (T:↑((x==("__debug__":Str))=MU))
  (r:↥(aO [e] X.e=(MU,eval e X.e)::aO [] X.e)) (U:↥((eE pos (aO [] X.e)).any (·.1)=MU)) :
  PE X (.Call (.Name x p) [e] [] pos) (tSrtA X.K te):=by
 intro Y s σ H Q I h;show iE (ny I G J L ?_ O T);show PyProof.Rows.callWith_builtin1 ?_ r U;rw[r];change aJ _ _ (spliced ((MU,eval e X.e)::eE pos (aO [] X.e))) _ _ s;show Calls.spliced_cons (thn (N Y s σ H _ I h) λu y wD=>?_);let{v,g,f,r1,i}:=wD;let{l,ys,ls,k,rfl,hl,z,h3,hk,ha,i}:=i;cases r1;show Calls.spliced_nil ?_;let{its,j,pl,hz}:=f.list hl;have m:∀b o,(y9 X.K g y.heap).get? b=KE o->y.heap.get? b=KE o:=λb o e=>(abt e).1;have xE:its.length=ls.length:=by
  have C:=Paired.length z;rw[aC]at C;rw[<-j.length,C]
 show TupE.call_sortedA pl.isList ((abu f z j).imp λx a k=>TupD.key_mono m k) (by show E) hk ha () λd D n c hd FG q=>?_;have GU:g d=MS:=f.hok.none_at hd;show{.ref d,upd g d (.lst ys),?_,rfl,i d GU};show f.laidN (h':=D) (t':=n) FG hd (show ObjOk X.p X.w _ D d (.lst ys)from#v[hz,its,c,j,q])
end
end L2
namespace VL
open PySem L2 PySem.Deep
section
variable {X:Cx}
abbrev trA (t:LJ):Tr:=.tup (t.map tI)
def ady (d:Tr)(R:Ev->Prop):Prop:=match d with
 | .lst l=>∃(ls:List LJ)(k:Nat),l=ls.map trA/\ls.length<=100000/\(∀l∈ls,l.length=k+1)/\Ul ls/\R (.new (.lst l))
 |_=>False
def Um (f:GE):GE:=λm Q=>f m λa b=>lk b a λd=>ady d λa=>Q a b
def alg (ls:List LJ):ls.map trA=(ls.map TupE.trD).map kyT:=by
 rw[dG];show lG λt _=>?_;change Tr.tup _=Tr.tup _;rw[dG];rfl
def Ru (hu:X.A.units+64<dB)(n:Gl X x)(r:X.mg x=MS)(s:fR x=KE (.builtin "sorted"))(u:VE X e f)
  (w:↑(x≠"__name__")) (y:↑((x==("__debug__":Str))=MU))
  (C:↥(aO [e] X.e=(MU,eval e X.e)::aO [] X.e)) (D:↥((eE pos (aO [] X.e)).any (·.1)=MU)):VE X (.Call (.Name x p) [e] [] pos) (Um f):=⟨PE.sub (aci () n r s u.out w y C D) λσ H Q E=>iw E λW m R G I h q=>⟨W,m,_,G,I,h,λc l W1 x J l1 b L=>by
  let{d,N,g}:=gn b.ok L J;unfold ady at g
  split at g
  · let{ls,k,rfl,O,T,U,i}:=g;let{a,ys,rfl,k1,k2}:=N;rw[alg]at k2 i;show{a,ys,ls,k,rfl,SqL.of k1,Dq b.ok.sub k2,O,T,U,λd hd=>?_};show abv (R:=λc=>R c l) b.ok (λc Y z i j rz=>q c l Y z i (l1.trans j.lx) (b.lift j.lx j.cs j.ok) (rz.old l1.toLe)) i d ys hd (Dq b.ok.sub k2)
  · show g.elim⟩⟩
end
end VL
namespace PB.N71
open PySem L2 VL Bits S1 PySem.Deep
def Up (L:LJ):Prop:=L.Pairwise λx y=>TupSet.lexLt x y=MT
abbrev LtT (x y:LJ):Prop:=TupD.lexD (TupE.trD x) (TupE.trD y)=MT
theorem lt_same:∀p {x y},TupSet.lexLt x y=MT->LtT (p++[x]) (p++[y])
 | [],x,y,h=>by
  change(if (Sum.inr x:I2)=Sum.inr y then _ else TupD.ltI (Sum.inr x) (Sum.inr y))=MT
  rw[M' (λe=>by cases e;rw[TupSet.lex_irrefl]at h;cases h)];show h
 |a::p,x,y,h=>by
  change(if (Sum.inr a:I2)=Sum.inr a then TupD.lexD (TupE.trD (p++[x])) (TupE.trD (p++[y]))else _)=MT
  rw[MZ rfl];show lt_same p h
def ascD {L:List LJ}(h:L.Pairwise LtT):Ul L:=λi x y a b=>by
 have:=List.pairwise_iff_getElem.mp h i (i+1) (bf a) (bf b) ();rw[aB (bf a)]at a;rw[aB (bf b)]at b;rw[bX a,bX b]at this;show TupD.lex_asymm this
theorem Rv {e:Type}:∀{L M:List e},L.Nodup->(∀x∈L,x∈M)->L.length<=M.length
 | [],_,_,_=>eQ _
 |x::L,M,nd,h=>by
  let{a,b,rfl}:=List.append_of_mem (h x aR);have d:=fS.mp nd;have:=Rv (L:=L) (M:=a++b) d.2 λy c=>by
   have:=h y (aP _ c);rcases dF.mp this with z | z;{show gF _ z};{rcases aX.mp z with z | z;{rw[z]at c;show NC c d.1};{show cG _ z}}
  rw[aH]at this;rw[aS,aH,aS];lia
end PB.N71
namespace PB
open PySem L2 VL Bits S1 PySem.Deep
section
variable {ls:LJ}{k:Nat}{W:Nat->Nat->Rl}{a:LQ}{n:Nat}
def MkB (ls:LJ)(k:Nat)(W:Nat->Nat->Rl)(a:LQ)(b:LJ):Prop:=Run W ls.length k ((b.dropLast.tail).map ls.idxOf) 0 (ls.idxOf a) (ls.idxOf (b.getLast?.getD []))
def acj (x:LJ×LQ)(e:LQ):MkB ls k W a (x.1++[x.2]++[e])↔Run W ls.length k (xx ls x) 0 (ls.idxOf a) (ls.idxOf e):=by
 unfold MkB xx;rw[kP,jK];rfl
def Uo (p:b->Bool)(l:List b):l.filter p=(l.zipIdx.filter λq=>p q.1).map (·.1):=by
 have h:(l.zipIdx.map uB).filter p=(l.zipIdx.filter (p∘uB)).map uB:=qC;rw[List.zipIdx_map_fst]at h;show h
open Classical in
def due_m (nd:ls.Nodup)(m:Nat):(gu ls a (m+1)).filter (λb=>decide (MkB ls k W a b))=(wb ls a m).flatMap λx=>(Fm ls k W a x).map λe=>x.1++[x.2]++[e]:=by
 change((gu ls a m).flatMap λb=>ls.map λl=>b++[l]).filter _=_;rw[<-Fl,nF,List.filter_flatMap];show j4 λx j=>?_;rw[qC];congr 1;rw[Uo];unfold Fm;congr 1;show iX λq f=>?_;have c:=iS.mp f;have d:q.1∈ls:=aU c;have g:ls.idxOf q.1=q.2:=by
  have i:ls[ls.idxOf q.1]?=KE q.1:=(by rw[aB (cM.mpr d),gE]);show(mK (cM.mpr d) nd).mp (i.trans c.symm)
 rw[eJ,g9];change decide (MkB ls k W a (x.1++[x.2]++[q.1]))=MT↔_;rw[g9,acj,g]
open Classical in
noncomputable def kz (ls:LJ)(k:Nat)(W:Nat->Nat->Rl)(a:LQ)(m:Nat):List (LJ):=(bG m).flatMap λj=>(gu ls a (j+1)).filter λb=>decide (MkB ls k W a b)
def zi (nd:ls.Nodup)(c:b.length=n)(d:∀m K,b[m]?=KE K->∀p,p∈K↔VdR ls k p/\gv ls k W m p)(m:Nat)(f:m<=n+1):j3 ls k W a n b m=kz ls k W a m:=by
 unfold j3 kz;show j4 λj e=>?_;have:=bY.mp e;rw[akz nd c d j (),due_m nd j]
end
end PB
namespace PB.N71
open PySem L2 VL Bits S1 PySem.Deep
def adz (h:Up L):L.Nodup:=h.imp λh e=>by rw[e,TupSet.lex_irrefl]at h;cases h
def aea (h:Up L):TupSet.SortedT L:=h.imp λh=>TupSet.lex_asymm h
def up_eq {A B:LJ}(hA:Up A)(hB:Up B)(h:∀x,x∈A↔x∈B):A=B:=TupSet.sorted_unique (TupG.nodup_perm (adz hA) (adz hB) h) (aea hA) (aea hB)
def LL_up (a:LW):Up (LL a):=(dt _).ord.imp λh=>by rw[<-TupD.lexLt_eq];show h
def up_filter {ls O:LJ}(a:Up ls)(hO:Up O)(h:∀x∈O,x∈ls):(ls.filter λx=>decide (x∈O))=O:=up_eq (a.filter _) hO λx=>by
 rw[List.mem_filter];show{λz=>of_decide_eq_true z.2,λz=>{h x z,NB z}}
theorem fm_if (p:a->Bool)(g:a->List d):∀l:List a,(l.flatMap λb=>if p b=MT then g b else [])=(l.filter p).flatMap g
 | []=>rfl
 |b::l=>by
  rw[dJ,sD,fm_if p g l];by_cases c:p b=MT;{rw[MZ c,MZ c,dJ]};{rw[M' c,M' c,bR]}
open Classical in
section
variable {ws:LW}{rs:List Say}{ts:LJ}
open Classical in
def Bw (a:l∈LL ws):(LL ws)[ixL ws l]?=KE l:=by
 have:=cM.mpr a;change(LL ws)[(LL ws).idxOf l]?=KE l;rw[aB this,gE]
end
section
variable {ws:LW}{rs:List Say}{ts:LJ}{a:LQ}
def ix_inj (b:l∈LL ws)(c:m∈LL ws)(h:ixL ws l=ixL ws m):l=m:=bX ((Bw b).symm.trans ((NG (λi=>(LL ws)[i]?) h).trans (Bw c)))
def last_snoc (x:b)(l:List b)(y:b):(x::(l++[y])).getLast?=KE y:=by
 rw[<-kY,jK]
def drop_snoc (x:b)(l:List b)(y:b):(x::(l++[y])).dropLast=x::l:=by
 rw[<-kY,kP]
open Classical in
open Classical in
end
section
variable {ls:LJ}{k:Nat}{W:Nat->Nat->Rl}{a:LQ}{n:Nat}
theorem Rw (nd:ls.Nodup):∀m,(gu ls a m).Nodup
 |0=>List.nodup_cons.mpr #v[dS,List.nodup_nil]
 |m+1=>by
  change((gu ls a m).flatMap λb=>ls.map λl=>b++[l]).Nodup;show List.pairwise_flatMap.mpr {λb _=>List.Pairwise.map _ (λx y h e=>h ?_) nd,(Rw nd m).imp λ{b c} h x d y f e=>h ?_};{show List.head_eq_of_cons_eq (List.append_cancel_left e)};{let{l,_,rfl}:=bE.mp d;let{g,_,rfl}:=bE.mp f;show(List.append_inj' e rfl).1}
def ack {b:LJ}:∀(y:LJ) {m:Nat},b∈gu ls a m->(∀l∈y,l∈ls)->b++y∈gu ls a (m+y.length):=λy=>by
 induction y generalizing b with
 |nil=>intro m h _;rw[bP];show h
 |cons l y d=>
  intro m h c;have:=d (b:=b++[l]) (m:=m+1) (eM.mpr {b,h,bE.mpr {l,c l aR,rfl}}) λx e=>c x (aP _ e);rw[dX]at this;rw[aS,show m+(y.length+1)=m+1+y.length by lia];show this
theorem Dz:∀(b ns:AQ)(r i e N:Nat),Run W N k (b++ns) r i e↔∃c,Ht W N k b r i c/\Run W N k ns c (i8 i b) e
 | [],ns,r,i,e,N=>{λh=>#v[r,rfl,h],λ⟨c,f,g⟩=>by cases f;show g}
 |m::b,ns,r,i,e,N=>by
  constructor;{intro j;let{c,f,g,l,p,u}:=j;let{d,q,s}:=(Dz b ns c m e N).mp u;show{d,#v[c,f,g,l,p,q],s}};{intro j;let{d,{c,f,g,l,p,q},s}:=j;show{c,f,g,l,p,(Dz b ns c m e N).mpr #v[d,q,s]}}
theorem D3 (nd:ls.Nodup):∀(q:Nat)(p:ck),gv ls k W q p->∃(y:LJ)(e:LQ),(∀l∈y,l∈ls)/\e∈ls/\y.length<=q/\Run W ls.length k (y.map ls.idxOf) p.1 (ls.idxOf p.2) (ls.idxOf e)
 |0,p,h=>by
  let{j,A,hw}:=h;have i:ls.idxOf ls[j]=j:=List.Nodup.idxOf_getElem nd j A;show{[],ls[j],{λl hl=>NC hl dS,iH A,aI _,by rw[i];show hw}}
 |q+1,p,h=>by
  rcases h with h | ⟨g,b,h⟩;{let{y,e,m,s,D,u}:=D3 nd q p h;show{y,e,m,s,(),u}}
  ·let{y,e,m,s,D,u}:=D3 nd q _ h;unfold goL at b;let{f,E,b}:=eM.mp b;let{c,w,rfl}:=bE.mp b;let{j,C,G,_}:=u9 E;rw[G]at w;unfold du at w;let{x,H}:=dE.mp w;let{I,h0,rfl}:=bE.mp x;have J:=bY.mp h0;let{r,L,hw}:=g9.mp H;cases aN.mp L;have d:=aU C;have i:ls.idxOf f.1=j:=by
    have z:ls[ls.idxOf f.1]?=KE f.1:=(by rw[aB (cM.mpr d),gE]);show(mK (cM.mpr d) nd).mp (z.trans C.symm)
   show{f.1::y,e,λl hl=>?_,s,by rw[aS];lia,I+1,(),(),cM.mpr d,by dsimp only;rw[i];show hw,u};rcases aX.mp hl with rfl | hl;{show d};{show m l hl}
theorem Yp {c g:Type}{f:c->Option g}{p:c->Bool}:∀{l:List c},(∀x∈l,(f x).isSome=p x)->(l.filterMap f).length=(l.filter p).length
 | [],_=>rfl
 |x::l,h=>by
  have d:=Yp λy i=>h y (aP _ i);have b:=h x aR;rw[sD];cases e:f x with
  |none=>
   rw[e]at b;rw[lE e,d,<-b];rfl
  |some y=>
   rw[e]at b;rw[jL e,aS,d,<-b];rfl
open Classical in
def few_due (nd:ls.Nodup){f:List (List ck)}(i:f.length=n)(q:∀m K,f[m]?=KE K->∀p,p∈K↔VdR ls k p/\gv ls k W m p)(m:Nat)(N:m<n) :
  (j3 ls k W a n f (m+1)).length+(Bm ls k W a n f (m+1)).length<=(j3 ls k W a n f (n+1)).length:=by
 rw[zi nd i q (m+1) (),zi nd i q (n+1) (),Uh nd i q (m+1) ()];obtain⟨d,rfl⟩:∃d,n=m+1+d:={n-(m+1),()};have C:kz ls k W a (m+1+d+1)=kz ls k W a (m+1)++((bG (d+1)).map (m+1+·)).flatMap (λj=>(gu ls a (j+1)).filter λb=>decide (MkB ls k W a b)):=by
  unfold kz;rw[show m+1+d+1=(m+1)+(d+1)by lia,List.range_add,jB]
 rw[C,aH];show Nat.add_le_add_left ?_ _;rw[Yp (p:=λx=>decide (rsF ls k W a (m+1+d) (m+1) x≠[])) λx _=>by
   unfold FF;by_cases c:rsF ls k W a (m+1+d) (m+1) x=[]
   · rw[MZ c,NA (λz=>z c)];rfl
   · rw[M' c,NB c];rfl]
 rw[<-aC (λx:LJ×LQ=>x.1++[x.2]),<-aC (as:=vC _ _) (λb:LJ=>b.take (m+2))];show Rv ?_ λb D=>?_
 ·have:List.Sublist (((wb ls a (m+1)).filter λx=>decide (rsF ls k W a (m+1+d) (m+1) x≠[])).map λx=>x.1++[x.2]) (gu ls a (m+1)):=by
   rw[<-Fl];show List.filter_sublist.map _
  show(Rw nd _).sublist this
 ·let{x,g,rfl}:=bE.mp D;let{g,r}:=dE.mp g;have r:=of_decide_eq_true r;let{c,s}:=List.exists_mem_of_ne_nil _ r;unfold rsF at s;rw[M' ()]at s;let{E,u}:=g9.mp (dE.mp s).2;rw[show m+1+d-(m+1)=d by lia]at u;let{y,e,G,H,O,I}:=D3 nd d _ u;have w:x.1++[x.2]∈gu ls a (m+1):=by
   rw[<-Fl];show bE.mpr #v[x,g,rfl]
  let{z,A,J,_}:=Dr w;show bE.mpr {(x.1++[x.2])++(y++[e]),eM.mpr {m+1+y.length,bE.mpr {y.length,bY.mpr (),rfl},dE.mpr {?_,?_}},?_}
  ·have:=ack (y++[e]) w λl hl=>by
    rcases dF.mp hl with hl | hl;{show G l hl};{rw[aN.mp hl];show H}
   rw[aH]at this;show this
  {show g9.mpr ?_;unfold MkB;rw[<-dX,kP,jK];have L:(x.1++[x.2]++y).tail=(x.1++[x.2]).tail++y:=(by rw[A];rfl);rw[L,bT];change Run W ls.length k (xx ls x++y.map ls.idxOf) 0 (ls.idxOf a) (ls.idxOf e);rw[Dz];show{c,E,?_};rw[Dy g];show I};{have:(x.1++[x.2]).length=m+2:=(by rw[A,aS,J]);rw[<-this,List.take_left]}
end
end PB.N71
namespace PB.N24
open PySem L2 VL Bits S1 PySem.Deep
abbrev g_runs_from (C:MV):GX:=N71.g_runs_from C
def acm (C:MV)(a:Prop):GS:=(Uj 3 (g_runs_from C) a (gaV (adp C 3 (su C) (gaV (aa 0) (gA1 (aa 1)))) (gaV (aa 2) (gA1 (aa 3)))))
def j5 (C:MV):GX:=λds R c=>∃(b:LW)(s:Say) (a:LQ) (n:Nat),ds=[spT b,s.t,tI a,iT ((n:Nat):Int)]/\SpOk b/\s.size<=1000/\s.good b/\s.rm<6/\n<=50/\a∈LL b/\
 (400<(kz (LL b) s.rm (s.W b) a (n+1)).length->c)/\((kz (LL b) s.rm (s.W b) a (n+1)).length<=400->R (.new (.lst ((kz (LL b) s.rm (s.W b) a (n+1)).map trT))))
def acn:Px (acm C) 4 1 4 (j5 C):=by
 intro ds R y A h;let{b,s,a,n,rfl,ok,i,j,l,p,r,u,q}:=h;have le:=Kr ok;show{rfl,b,s,rfl,rfl,ok,i,j,(),λx w=>?_};have nd:(LL b).Nodup:=g8 _;show{trivial,rfl,LL b,s.rm,s.W b,x,a,n,rfl,w,nd,(),(),ahg ok l,p,r,λD d e=>{λ⟨m,E,f⟩=>?_,λf=>?_}};{show u ?_;rw[<-zi nd d e (n+1) (aI _)];show Nat.lt_of_not_le λz=>f ?_;unfold N71.Few;by_cases c:m=n;{rw[MZ c,c];lia};{rw[M' c];have:=N71.few_due (ls:=LL b) (a:=a) nd d e m ();lia}};{have g:=f n (aI _);unfold N71.Few at g;rw[MZ rfl]at g;rw[zi nd d e (n+1) (aI _)]at g ⊢;show q ()}
abbrev Nd (ws:LW):Prop:=(ws.map (·.1)).Nodup
def A1 (f:Str):Nat->Say
 |0=>.put f 0
 |k+1=>.either (A1 f k) (.put f ((k+1:Nat):Int))
def pd (l:LW):Say:=l.foldl (λs w=>.both s (A1 w.1 (w.2-1))) .every
def A2 (l:LW)(w:Str×Nat):pd (l++[w])=.both (pd l) (A1 w.1 (w.2-1)):=by
 unfold pd;rw[mI];rfl
def ma (a:LW):Say:=.both (pd a) .note
def isS (b:LW)(a:LQ):Nat->Say
 |0=>.every
 |k+1=>.both (.is (b.getD k ("",0)).1 (a.getD k 0)) (isS b a k)
def qv (b:LW)(kind:Nat)(a:LQ):Say:=if kind=0 then pd b else if kind=1 then .nought else if kind=2 then isS b a b.length else .every
def Nb (a:LW):Nat->Say
 |0=>ma a
 |m+1=>.both (Nb a m) (ma a)
def Nc (a:LW)(L:Say):Nat->Say
 |0=>.both (ma a) L
 |m+1=>.both (ma a) (Nc a L m)
def pf (a:LW):Nat->Say
 |0=>ma a
 |k+1=>if k % 2=0 then .either (pf a k) (ma a)else .either (ma a) (pf a k)
def xy (c:LW)(b kind:Nat)(a:LQ)(d:Nat):Say:=
 if 1<b then (if d % 2=0 then .both (Nb c (b-1)) (qv c kind a)else Nc c (qv c kind a) (b-1))
 else .both (if b=0 then .again (pf c d)else pf c d) (qv c kind a)
def Ry {a:Type}{l:List a}(nd:l.Nodup){i j:Nat}{x:a}(h:l[i]?=KE x)(k:l[j]?=KE x):i=j:=(mK (bf h) nd).mp (h.trans k.symm)
section
variable {ws:LW}
def ni (nd:Nd ws){j:Nat}{w:Str×Nat}(h:ws[j]?=KE w):look ws w.1=KE (j,w.2):=by
 let{p,a}:=gi (w:=w) 0 nd (aU h);let{k,e0,b,_}:=Bu a;rw[gB]at e0;subst e0;obtain rfl:p=j:=Ry nd (x:=w.1) (by rw[aW,b];rfl) (by rw[aW,h];rfl);show a
theorem Nf {f:Str}{p c:Nat}(h:look ws f=KE (p,c)):∀(k i:Nat)(ns:AQ) (e:Nat),(A1 f k).S ws i ns e↔ns=[]/\∃v:Nat,v<=k/\xo (LL ws) p v i e
 |0,i,ns,e=>by
  change(ns=[]/\(match look ws f with | some (p,_)=>xo (LL ws) p 0 i e | none=>False))↔_
  rw[h];show⟨λz=>{z.1,0,aI _,z.2},λb=>by let{z,v,a,q}:=b;show{z,by cases Nat.le_zero.mp a;show q}⟩
 |k+1,i,ns,e=>by
  change((A1 f k).S ws i ns e\/(ns=[]/\(match look ws f with | some (p,_)=>xo (LL ws) p ((k+1:Nat):Int) i e | none=>False)))↔_
  rw[h,Nf h k];constructor;{rintro(⟨z,v,a,q⟩ | ⟨z,q⟩);{show{z,v,(),q}};{show{z,k+1,aI _,q}}};{intro d;let{z,v,a,q}:=d;by_cases c:v=k+1;{subst c;show .inr #v[z,q]};{show .inl {z,v,(),q}}}
theorem Ng (ok:SpOk ws)(nd:Nd ws):∀j,j<=ws.length->∀(i:Nat)(ns:AQ) (e:Nat),i<(LL ws).length->((pd (ws.take j)).S ws i ns e↔ns=[]/\∃a b,(LL ws)[i]?=KE a/\(LL ws)[e]?=KE b/\a.drop j=b.drop j)
 |0,_,i,ns,e,hi=>by
  change(ns=[]/\e=i)↔_;constructor;{intro d;let{z,rfl}:=d;show{z,_,_,aB hi,aB hi,rfl}};{intro d;let{z,a,b,f,g,e}:=d;rw[tP,tP]at e;subst e;show{z,Ry (g8 _) g f}}
 |j+1,G,i,ns,e,hi=>by
  have hw:ws[j]?=KE ws[j]:=aB ();generalize ws[j]=w at hw;have H:=ok.cnt w (aU hw);have lk:=ni nd hw;have len:∀{l:LQ},l∈LL ws->l.length=ws.length:=λn=>(by rw[(dt _).wide _ n,aC]);rw[cH,hw,show(KE w).toList=[w]from rfl,A2];change catL (LL ws).length _ _ i ns e↔_;constructor
  ·intro d;let{x,y,k,rfl,hk,u,A}:=d;let{rfl,a,m,f,p,hd}:=(Ng ok nd j () i x k hi).mp u;let{rfl,v,I,l,n,C}:=(Nf lk _ k y e).mp A;rw[p]at n;cases n;show{rfl,a,_,f,C,?_};rw[List.drop_set_of_lt ()];have:=NG (List.drop 1) hd
   rwa [List.drop_drop,List.drop_drop]at this
  ·intro d;let{rfl,a,b,f,g,hd}:=d;have J:=len (aU f);have L:=len (aU g);have fa:=((letters_mem ..).mp (aU f)).2 j a[j] (aB ());have r:=((letters_mem ..).mp (aU g)).2 j b[j] (aB ());rw[aW,hw]at fa r;let{c,q,D,E}:=fa;cases q;let{c,q,N,s}:=r;cases q;have p:b.set j a[j]∈LL ws:=xq (aU g) (by rw[aW,hw];rfl) D E;let{k,hk}:=kE.mp p;show{[],[],k,rfl,bf hk,(Ng ok nd j () i [] k hi).mpr {rfl,a,_,f,hk,?_},(Nf lk _ k [] e).mpr {rfl,b[j].toNat,?_,_,hk,?_}};{rw[hU (show j<a.length by lia),hU (show j<(b.set j a[j]).length by rw[gZ];lia),List.getElem_set_self,List.drop_set_of_lt (),hd]};{have s:b[j]<(w.2:Int):=s;lia};{rw[List.set_set,show((b[j].toNat:Nat):Int)=b[j]by lia,List.set_getElem_self];show g}
def Ku (ok:SpOk ws)(nd:Nd ws)(hi:i<(LL ws).length)(ns:AQ)(e:Nat):(pd ws).S ws i ns e↔ns=[]/\e<(LL ws).length:=by
 have h:=Ng ok nd ws.length (aI _) i ns e hi;rw[cW]at h;rw[h];have len:∀{l},l∈LL ws->l.length=ws.length:=λd=>(by rw[(dt _).wide _ d,aC]);constructor;{intro c;let{z,a,b,j,f,_}:=c;show{z,bf f}};{intro c;let{z,g}:=c;show{z,_,_,aB hi,aB g,?_};rw[jE (by rw[len (iH _)];show aI _),jE (by rw[len (iH _)];show aI _)]}
def ux (ok:SpOk ws)(nd:Nd ws)(hi:i<(LL ws).length)(ns:AQ)(e:Nat):(ma ws).S ws i ns e↔ns=[e]/\e<(LL ws).length:=by
 constructor;{intro a;let{x,y,k,rfl,hk,c,d,rfl}:=a;let{rfl,_}:=(Ku ok nd hi x e).mp c;rw[d];show#v[rfl,hk]};{intro a;let{rfl,b}:=a;show{[],[e],e,rfl,b,(Ku ok nd hi [] e).mpr #v[rfl,b],rfl,rfl}}
def D4 (hi:i<n)(h:∀b∈ns,b<n):i8 i ns<n:=by
 induction ns generalizing i with
 |nil=>show hi
 |cons m ns a=>show a (h m aR) λb c=>h b (aP _ c)
theorem Kv (ok:SpOk ws)(nd:Nd ws):∀(m:Nat) {i:Nat}(hi:i<(LL ws).length) (ns:AQ) (e:Nat),(Nb ws m).S ws i ns e↔ns.length=m+1/\(∀b∈ns,b<(LL ws).length)/\e=i8 i ns
 |0,i,hi,ns,e=>by
  show(ux ok nd hi ns e).trans ?_;constructor;{intro a;let{rfl,d}:=a;show{rfl,λb hb=>by rw[aN.mp hb];show d,rfl}};{intro a;let{l,h,rfl}:=a;let{b,rfl}:=jW.mp l;show{rfl,h b (aN.mpr rfl)}}
 |m+1,i,hi,ns,e=>by
  constructor;{intro a;let{x,y,k,rfl,hk,g,j}:=a;let{l,h,_}:=(Kv ok nd m hi x k).mp g;let{rfl,d}:=(ux ok nd hk y e).mp j;show{by rw[aH,l];rfl,λb hb=>?_,(uw x i e).symm};rcases dF.mp hb with hb | hb;{show h b hb};{rw[aN.mp hb];show d}};{intro a;let{l,h,rfl}:=a;obtain⟨x,b,rfl⟩:∃x b,ns=x++[b]:={ns.dropLast,ns.getLast (λz=>by rw[z]at l;cases l),(jT _).symm};rw[aH]at l;have f:∀c∈x,c<(LL ws).length:=λc n=>h c (gF _ n);have hb:=h b (cG _ (aN.mpr rfl));rw[uw];show{x,[b],i8 i x,rfl,D4 hi f,(Kv ok nd m hi x _).mpr {by simpa using l,f,rfl},(ux ok nd (D4 hi f) [b] b).mpr #v[rfl,hb]}}
def zr (ws:LW)(L:Say)(T:Nat->Nat->Prop):Prop:=∀i,i<(LL ws).length->∀ns e,L.S ws i ns e↔ns=[]/\T i e
theorem Uq (ok:SpOk ws)(nd:Nd ws)(f:zr ws L T):∀(m:Nat) {i:Nat}(hi:i<(LL ws).length) (ns:AQ) (e:Nat),(Nc ws L m).S ws i ns e↔ns.length=m+1/\(∀b∈ns,b<(LL ws).length)/\T (i8 i ns) e
 |0,i,hi,ns,e=>by
  constructor;{intro a;let{x,y,k,rfl,hk,g,j}:=a;let{rfl,_}:=(ux ok nd hi x k).mp g;let{rfl,d}:=(f k hk y e).mp j;show{rfl,λb hb=>by rw[aN.mp hb];show hk,d}};{intro a;let{l,h,d}:=a;let{b,rfl}:=jW.mp l;have hb:=h b (aN.mpr rfl);show{[b],[],b,rfl,hb,(ux ok nd hi [b] b).mpr #v[rfl,hb],(f b hb [] e).mpr #v[rfl,d]}}
 |m+1,i,hi,ns,e=>by
  constructor;{intro a;let{x,y,k,rfl,hk,g,j}:=a;let{rfl,_}:=(ux ok nd hi x k).mp g;let{l,h,d}:=(Uq ok nd f m hk y e).mp j;show{by rw[aH,l];show jY ..,λb hb=>?_,d};rcases dF.mp hb with hb | hb;{rw[aN.mp hb];show hk};{show h b hb}}
  ·intro a;let{l,h,d}:=a;cases ns with
   |nil=>cases l
   |cons b y=>
    have hb:=h b aR;show{[b],y,b,rfl,hb,(ux ok nd hi [b] b).mpr #v[rfl,hb],(Uq ok nd f m hb y e).mpr {by simpa using l,λc n=>h c (aP _ n),d}}
theorem Ur:∀k i ns e,(pf ws k).S ws i ns e↔(ma ws).S ws i ns e
 |0,_,_,_=>kS
 |k+1,i,ns,e=>by
  unfold pf
  split;{change((pf ws k).S ws i ns e\/(ma ws).S ws i ns e)↔_;rw[Ur k,or_self]};{change((ma ws).S ws i ns e\/(pf ws k).S ws i ns e)↔_;rw[Ur k,or_self]}
def Yq (ok:SpOk ws)(nd:Nd ws)(hA:∀i,i<(LL ws).length->∀ns e,A i ns e↔ns=[e]/\e<(LL ws).length)(hi:i<(LL ws).length)(ns:AQ)(e:Nat):g6 (LL ws).length A i ns e↔(∀b∈ns,b<(LL ws).length)/\e=i8 i ns:=by
 constructor
 ·intro h
  induction h with
  |refl=>show{(λb d=>nomatch d),rfl}
  |@step i k e a b r hk t f=>
   let{rfl,_}:=(hA i hi a k).mp r;let{g,j}:=f hk;show{λc hc=>?_,j};rcases dF.mp hc with hc | hc;{rw[aN.mp hc];show hk};{show g c hc}
 ·rintro⟨h,rfl⟩
  induction ns generalizing i with
  |nil=>show .refl
  |cons b ns f=>
   have d:=h b aR;show g6.step (a:=[b]) ((hA i hi [b] b).mpr #v[rfl,d]) d (f d λc hc=>h c (aP _ hc))
def j6 (ws:LW)(kind:Nat)(a:LQ)(i e:Nat):Prop:=if kind=0 then e<(LL ws).length else if kind=1 then False else if kind=2 then e=i/\(LL ws)[i]?=KE a else e=i
theorem is_S (nd:Nd ws)(q:a.length=ws.length):∀k,k<=ws.length->∀i,i<(LL ws).length->∀ns e,(isS ws a k).S ws i ns e↔ns=[]/\e=i/\∃l,(LL ws)[i]?=KE l/\∀j,j<k->l[j]?=a[j]?
 |0,_,i,hi,ns,e=>{λ⟨b,d⟩=>{b,d,_,aB hi,λj r=>()},λ⟨b,d,_⟩=>#v[b,d]}
 |k+1,hk,i,hi,ns,e=>by
  have hw:ws[k]?=KE ws[k]:=aB ();have lk:=ni nd hw;have w:ws.getD k ("",0)=ws[k]:=(by rw[bO,hw];rfl);have s:a[k]?=KE (a.getD k 0):=(by rw[bO,aB (show k<a.length by lia)];rfl);have key:∀x m,(Say.is (ws.getD k ("",0)).1 (a.getD k 0)).S ws i x m↔x=[]/\isR (LL ws) k (a.getD k 0) i m:=λx m=>by
   change(x=[]/\(match look ws (ws.getD k ("",0)).1 with | some (p,_)=>isR (LL ws) p (a.getD k 0) i m | none=>False))↔_
   rw[w,lk]
  constructor;{intro n;let{x,y,m,rfl,z,b,d}:=n;let{rfl,rfl,l,f,A}:=(key x m).mp b;let{rfl,rfl,C,u,g}:=(is_S nd q k () m z y e).mp d;rw[f]at u;cases u;show{rfl,rfl,l,f,λj r=>?_};by_cases c:j=k;{rw[c,A,s]};{show g j ()}};{intro n;let{rfl,rfl,l,f,g}:=n;show{[],[],e,rfl,hi,(key [] e).mpr {rfl,rfl,l,f,by rw[g k (),s]},(is_S nd q k () e hi [] e).mpr {rfl,rfl,l,f,λj r=>g j ()}}}
def alh (ok:SpOk ws)(nd:Nd ws)(kind:Nat)(d:a∈LL ws):zr ws (qv ws kind a) (j6 ws kind a):=λi hi ns e=>by
 have f:a.length=ws.length:=(by rw[(dt _).wide _ d,aC]);unfold qv j6;by_cases k0:kind=0;{rw[MZ k0,MZ k0];show Ku ok nd hi ns e}
 rw[M' k0,M' k0];by_cases k1:kind=1;{rw[MZ k1,MZ k1];show{λz=>z.elim,λz=>z.2.elim}}
 rw[M' k1,M' k1];by_cases k2:kind=2;{rw[MZ k2,MZ k2,is_S nd f ws.length (aI _) i hi ns e];show and_congr_right λ_=>and_congr_right λ_=>{λg=>?_,λh=>{a,h,λj _=>rfl}};let{l,b,h}:=g;have m:l.length=ws.length:=(by rw[(dt _).wide _ (aU b),aC]);rw[b];show NG KE (mJ λj=>?_);by_cases c:j<ws.length;{show h j c};{rw[dI (),dI ()]}};{rw[M' k2,M' k2];show kS}
def say_S (ok:SpOk ws)(nd:Nd ws)(f kind:Nat)(w:a∈LL ws)(j:Nat)(hi:i<(LL ws).length)(ns:AQ)(e:Nat) :
  (xy ws f kind a j).S ws i ns e↔(f=0\/ns.length=f)/\(∀b∈ns,b<(LL ws).length)/\j6 ws kind a (i8 i ns) e:=by
 have m:=alh ok nd kind w;have n:∀(A:Say)(P:AQ->Prop),(∀(x:AQ)(k:Nat),A.S ws i x k↔P x/\(∀b∈x,b<(LL ws).length)/\k=i8 i x)->((Say.both A (qv ws kind a)).S ws i ns e↔P ns/\(∀b∈ns,b<(LL ws).length)/\j6 ws kind a (i8 i ns) e):=λA P hA=>by
  constructor;{intro g;let{x,y,k,rfl,hk,p,q}:=g;let{r,l,rfl}:=(hA x k).mp p;let{rfl,s}:=(m _ hk y e).mp q;rw[bP];show#v[r,l,s]};{intro g;let{r,l,s}:=g;have hk:=D4 hi l;show{ns,[],i8 i ns,(bP _).symm,hk,(hA ns _).mpr #v[r,l,rfl],(m _ hk [] e).mpr #v[rfl,s]}}
 unfold xy;by_cases c:1<f;{rw[MZ c];have em:f-1+1=f:=();have e0:∀x:AQ,(f=0\/x.length=f)↔x.length=f:=λx=>{λh=>h.resolve_left (),.inr};rw[e0];by_cases d:j % 2=0;{rw[MZ d];show n _ (λx=>x.length=f) λx k=>by rw[Kv ok nd (f-1) hi x k,em]};{rw[M' d,Uq ok nd m (f-1) hi ns e,em]}};{rw[M' c];have u:∀i,i<(LL ws).length->∀ns e,(pf ws j).S ws i ns e↔ns=[e]/\e<(LL ws).length:=λi hi ns e=>(Ur j i ns e).trans (ux ok nd hi ns e);by_cases d:f=0;{rw[MZ d];show n _ (λx=>f=0\/x.length=f) λx k=>{λh=>{.inl d,(Yq ok nd u hi x k).mp h},λh=>(Yq ok nd u hi x k).mpr h.2}};{rw[M' d];show n _ (λx=>f=0\/x.length=f) λx k=>(u i hi x k).trans ?_;obtain rfl:f=1:=();constructor;{intro g;let{rfl,hk}:=g;show{.inr rfl,λb z=>by rw[aN.mp z];show hk,rfl}};{intro g;let{p,q,rfl}:=g;let{b,rfl}:=jW.mp (p.resolve_left d);show{rfl,q b (aN.mpr rfl)}}}}
end
def i9 (ls:LJ):Nat->List LJ
 |0=>[[]]
 |j+1=>(i9 ls j).flatMap λr=>ls.map λl=>r++[l]
theorem sy (ls:LJ)(a:LQ):∀j,gu ls a j=(i9 ls j).map (a::·)
 |0=>rfl
 |j+1=>by
  change(gu ls a j).flatMap (λb=>ls.map λl=>b++[l])=((i9 ls j).flatMap λr=>ls.map λl=>r++[l]).map (a::·);rw[sy ls a j,nF,List.map_flatMap];show j4 λr _=>?_;rw[dG];rfl
theorem wg (ls:LJ):∀j,(i9 ls j).length=ls.length ^ j
 |j=>by
  have h:=NG sZ (sy ls [] j);rw[M5,aC]at h;show h.symm
def wj (h:r∈i9 ls j):r.length=j/\∀l∈r,l∈ls:=by
 have:([]:LQ)::r∈gu ls [] j:=(by rw[sy];show bE.mpr #v[r,h,rfl]);obtain⟨ns,e,l,a⟩:_:=Dr this;cases e;show#v[l,a]
def j7 (a:LQ)(r:LJ):LQ:=r.getLast?.getD a
def Ft (a:LQ)(r:LJ)(l:LQ):j7 a (r++[l])=l:=by unfold j7;rw[jK];rfl
def Yr {ls:LJ}{a:LQ}(b:a∈ls){r:LJ}(h:∀l∈r,l∈ls):j7 a r∈ls:=by
 unfold j7;cases e:r.getLast? with
 |none=>show b
 |some x=>show h x (List.mem_of_getLast? e)
theorem Rz:∀r a,i8 (ixL b a) (r.map (ixL b))=ixL b (j7 a r)
 | [],_=>rfl
 |x::r,a=>by
  change i8 (ixL b x) (r.map (ixL b))=_;rw[Rz r x];unfold j7;cases r with
  |nil=>rfl
  |cons y r=>rw[List.getLast?_cons_cons,List.getLast?_cons];rfl
def gh (ls:LJ)(kind:Nat)(a x:LQ):LJ:=if kind=0 then ls else if kind=1 then []else if kind=2 then (if x=a then [x]else [])else [x]
def dj (ls:LJ)(a:LQ)(kind:Nat)(b:LQ)(j:Nat):List (LJ):=(i9 ls j).flatMap λr=>(gh ls kind b (j7 a r)).map λe=>a::(r++[e])
def ij (a n:Nat):AQ:=(bG (n+1)).filter λj=>decide (a=0\/j=a)
section
variable {ws:LW}
def Us {s:Say}(b:a∈LL ws){r:LJ}:MkB (LL ws) s.rm (s.W ws) a (a::(r++[l]))↔s.S ws (ixL ws a) (r.map (ixL ws)) (ixL ws l):=by
 unfold MkB;rw[N71.last_snoc,N71.drop_snoc];show Say.run ws s (ixL ws a) (cM.mpr b) _ _
open Classical in
def Ys {s:Say}{a:LQ}(c:a∈LL ws)(j:Nat){D:LJ->LJ}(h:∀r∈i9 (LL ws) j,((LL ws).filter λl=>decide (s.S ws (ixL ws a) (r.map (ixL ws)) (ixL ws l)))=D r) :
  ((gu (LL ws) a (j+1)).filter λb=>decide (MkB (LL ws) s.rm (s.W ws) a b))=(i9 (LL ws) j).flatMap λr=>(D r).map λe=>a::(r++[e]):=by
 change((gu (LL ws) a j).flatMap λb=>(LL ws).map λl=>b++[l]).filter _=_;rw[sy,nF,List.filter_flatMap];show j4 λr d=>?_;rw[qC,<-h r d];change sF (λl=>a::(r++[l])) _=_;show NG (sF _) (iX λl f=>?_);change decide (MkB (LL ws) s.rm (s.W ws) a (a::(r++[l])))=_;rw[eJ,WX,WX,Us c]
def zj (h:l∈LL ws):ixL ws l<(LL ws).length:=cM.mpr h
def Nh (a:x∈LL ws):((LL ws).filter λl=>decide (l=x))=[x]:=by
 have:=N71.up_filter (ls:=LL ws) (O:=[x]) (N71.LL_up ws) (lO _ _) (λy b=>by rw[aN.mp b];show a);show Eq.trans (iX λl _=>?_) this;rw[eJ,WX,WX,aN]
def mf (ws:LW)(s:Say)(a kind:Nat)(c:LQ):Prop:=∀i,i<(LL ws).length->∀ns e,s.S ws i ns e↔(a=0\/ns.length=a)/\(∀b∈ns,b<(LL ws).length)/\j6 ws kind c (i8 i ns) e
open Classical in
def due_j {s:Say}(w:mf ws s f kind i)(n:a∈LL ws)(g:i∈LL ws)(j:Nat) :
  ((gu (LL ws) a (j+1)).filter λb=>decide (MkB (LL ws) s.rm (s.W ws) a b))=if decide (f=0\/j=f)=MT then dj (LL ws) a kind i j else []:=by
 by_cases c:f=0\/j=f
 ·rw[MZ (NB c)];show Ys n j (D:=λr=>gh (LL ws) kind i (j7 a r)) λr u=>?_;obtain⟨m,rm⟩:_:=wj u;have p:=Yr n rm;have key:∀l,s.S ws (ixL ws a) (r.map (ixL ws)) (ixL ws l)↔j6 ws kind i (ixL ws (j7 a r)) (ixL ws l):=λl=>by
   rw[w _ (zj n),Rz];show{λh=>h.2.2,λh=>{by rw[aC,m];show c,λb q=>?_,h}};obtain⟨y,C,rfl⟩:_:=bE.mp q;show zj (rm y C)
  unfold gh;by_cases k0:kind=0;{rw[MZ k0];show List.filter_eq_self.mpr λl g=>NB ((key l).mpr ?_);unfold j6;rw[MZ k0];show zj g}
  rw[M' k0];by_cases k1:kind=1;{rw[MZ k1];show jV.mpr λl g z=>?_;have:=(key l).mp (of_decide_eq_true z);unfold j6 at this;rw[M' k0,MZ k1]at this;show this}
  rw[M' k1];by_cases k2:kind=2
  ·rw[MZ k2];have A:∀l,j6 ws kind i (ixL ws (j7 a r)) (ixL ws l)↔ixL ws l=ixL ws (j7 a r)/\j7 a r=i:=λl=>by
    unfold j6;rw[M' k0,M' k1,MZ k2,Bw p];show and_congr_right λ_=>{λz=>bX z,λz=>NG KE z}
   by_cases d:j7 a r=i;{rw[MZ d,<-Nh p];show iX λl g=>?_;rw[eJ,WX,WX,key,A];show{λz=>N71.ix_inj g p z.1,λz=>{by rw[z],d}}};{rw[M' d];show jV.mpr λl g z=>d ((A l).mp ((key l).mp (of_decide_eq_true z))).2}
  ·rw[M' k2,<-Nh p];show iX λl g=>?_;rw[eJ,WX,WX,key];unfold j6;rw[M' k0,M' k1,M' k2];show{λz=>N71.ix_inj g p z,λz=>by rw[z]}
 ·rw[M' (by rw[WX];show c)];show jV.mpr λb q z=>c ?_;rw[sy]at q;obtain⟨r,u,rfl⟩:_:=bE.mp q;obtain⟨m,rm⟩:_:=wj u;obtain⟨x,l,rfl⟩:∃x l,r=x++[l]:={r.dropLast,r.getLast (λz=>by rw[z]at m;cases m),(jT _).symm};have:=((w _ (zj n) _ _).mp ((Us n).mp (of_decide_eq_true z))).1;rw[aC]at this;rw[aH]at m;show this.imp id λe=>by rw[<-e];simpa using m.symm
def By (d:mf ws s b kind c)(e:a∈LL ws)(f:c∈LL ws)(n:Nat):kz (LL ws) s.rm (s.W ws) a (n+1)=(ij b n).flatMap (dj (LL ws) a kind c):=by
 unfold kz ij;rw[<-N71.fm_if];show j4 λj _=>due_j d e f j
end
section
variable {ls:LJ}
theorem tf {a b:Type}{f:a->List b}{k:Nat}:∀{l:List a},(∀x∈l,(f x).length=k)->(l.flatMap f).length=l.length*k
 | [],_=>by simp
 |x::l,h=>by
  rw[dJ,aH,h x aR,tf λy c=>h y (aP _ c),aS,pW,jY]
def qw (L j kind:Nat):Nat:=if kind=1 then 0 else if kind=0 then L ^ (j+1)else if kind=2 then L ^ (j-1)else L ^ j
def acp (nd:ls.Nodup){a:LQ}(b:a∈ls):(ls.flatMap λx=>if x=a then [x]else []).length=1:=by
 induction ls with
 |nil=>cases b
 |cons y ls d=>
  rw[fS]at nd;rw[dJ,aH];by_cases c:y=a
  ·rw[MZ c];have:(ls.flatMap λx=>if x=a then [x]else [])=[]:=oR.mpr λx e=>M' λz=>nd.1 (by rw[c,<-z];show e)
   rw[this];rfl
  ·rw[M' c,d nd.2 ((aX.mp b).resolve_left λz=>c z.symm)];rfl
def zm (nd:ls.Nodup){a b:LQ}(c:b∈ls)(kind:Nat)(j:Nat):(dj ls a kind b (j+1)).length=qw ls.length (j+1) kind:=by
 unfold dj qw;by_cases k1:kind=1;{rw[MZ k1,tf (k:=0) λr _=>by rw[aC];unfold gh;rw[M' (),MZ k1];rfl];rfl}
 rw[M' k1];by_cases k0:kind=0;{rw[MZ k0,tf (k:=ls.length) λr _=>by rw[aC];unfold gh;rw[MZ k0],wg,lA ls.length (j+1)]}
 rw[M' k0];by_cases k2:kind=2;{rw[MZ k2];change(((i9 ls j).flatMap λr=>ls.map λl=>r++[l]).flatMap _).length=_;rw[List.flatMap_assoc,tf (k:=1) λr _=>?_,wg,vH];{rfl};{rw[nF];show Eq.trans (NG sZ (j4 (g:=λl=>(if l=b then [l]else []).map λe=>a::(r++[l]++[e])) λl _=>?_)) ?_;{rw[Ft];unfold gh;rw[M' k0,M' k1,MZ k2]};{rw[nR,<-acp nd c,nR];show NG List.sum (lG λl _=>?_);rw[aC]}}};{rw[M' k2,tf (k:=1) λr _=>by rw[aC];unfold gh;rw[M' k0,M' k1,M' k2];rfl,wg,vH]}
def Yt (a b:LQ)(kind:Nat):(dj ls a kind b 0).length=(gh ls kind b a).length:=by
 change(vC _ [[]]).length=_;rw[gO,aC];rfl
end
open Classical in
def R0 {c:LW}{s:Say}{a:LQ}(f:a∈LL c)(j:(LL c).length=20)(m:∀i b e,i<(LL c).length->b<(LL c).length->e<(LL c).length->s.S c i [b] e){l:LQ}(g:l∈LL c)(h0:s.S c (ixL c a) [] (ixL c l)){n:Nat}(w:1<=n):400<(kz (LL c) s.rm (s.W c) a (n+1)).length:=by
 obtain⟨d,rfl⟩:∃d,n=d+1:={n-1,()};unfold kz;rw[show d+1+1=2+d by omega,List.range_add,jB,aH];have p:bG 2=[0,1]:=rfl;rw[p,dJ,gO,aH];have y:1<=((gu (LL c) a (0+1)).filter λb=>decide (MkB (LL c) s.rm (s.W c) a b)).length:=by
  show List.length_pos_of_mem (a:=a::([]++[l])) (dE.mpr {?_,NB ((Us f).mpr h0)});rw[sy];show bE.mpr {[l],eM.mpr {[],aN.mpr rfl,bE.mpr #v[l,g,rfl]},rfl}
 have z:((gu (LL c) a (1+1)).filter λb=>decide (MkB (LL c) s.rm (s.W c) a b)).length=400:=by
  rw[Ys f 1 (D:=λ_=>LL c) λr q=>?_];{rw[tf (k:=20) λr _=>by rw[aC];show j,wg,j]};{obtain⟨u,rm⟩:_:=wj q;obtain⟨x,rfl⟩:_:=jW.mp u;show List.filter_eq_self.mpr λl g=>NB (m _ _ _ (zj f) (zj (rm x (aN.mpr rfl))) (zj g))}
 omega
def Jz:GS:=(ak (ic 2 1 (ar 1 qr (gA1 (aa 0)))) (ak (ax 3 (iz 2 0 dz (gaE (aa 2) (gA1 (gI 26))))) (ak (ax 4 (gS "abcdefghijklmnopqrstuvwxyz")) (ak (ax 5 (gX (gLst (gaV (gI 8) (gaV (gI 8) (gaV (gI 6) (gaV (gI 8) (gaV (gI 12) (gaV (gI 8) (gaV (gI 4) (gA1 (gI 24)))))))))) (iz 2 0 dz (gaE (aa 2) (gA1 (gI 8)))))) (ak (ax 6 (gCB (two λi j=>if j > i then j else i) (gaE (aa 1) (gaE (gOp c5 (gI 1) (iz 2 0 dz (gaE (aa 2) (gA1 (gI 3))))) gaN)))) (ak (ax 7 (gSl (gS "abcdefg") goN (goS (iz 2 0 dz (gaE (aa 2) (gA1 (gI 8))))))) (ak (ic 8 0 (gLst gaN)) (ak (c8 [9,10] (giR (gA1 (aa 6))) (.one 9) (ak (ax 10 (gCB (two λi j=>if j<i then j else i) (gaE (gX (gLst (gaV (gI 2) (gaV (gI 3) (gaV (gI 4) (gaV (gI 1) (gaV (gI 6) (gA1 (gI 5)))))))) (iz 2 0 dz (gaE (aa 2) (gA1 (gI 6))))) (gaE (aa 5) gaN)))) (ak (ax 5 (gOp (ib Ky λi j=>.int (i / j)) (aa 5) (aa 10))) (gc (xk 8 (gTup (gaV (gOp c5 (gX (aa 4) (gOp (ib (λ_ j=>0<j) λi j=>.int (i % j)) (gOp c5 (aa 3) (gOp ud (gI 9) (aa 9))) (gI 26))) (aa 7)) (gA1 (aa 10))))))))) (bc (gCB Ai (gaE (aa 8) gaN)))))))))))
def J0:Pm (Jz) 11 3 2 (uo):=by
 intro ds R hl h;let{n,l,rfl,l1,l3,q}:=h;show{rfl,n,rfl,λa b f g=>?_};show{rfl,_,_,_,rfl,rfl,f,g,#v[],#v[],λy a b U Y f g=>?_};show{bg rfl,?_};show{rfl,_,_,_,rfl,rfl,f,g,#v[],#v[],λv a b r s f g=>?_};let{lf,H,e}:=adt (ns:=[8,8,6,8,12,8,4,24]) r s;show bj e ?_;have j:1<=lf/\lf<=24:=by
  simp only[aX,dS,or_false]at H;lia
 clear e H r s;show{rfl,_,_,_,rfl,rfl,f,g,#v[],#v[],λv a b r s f g=>?_};obtain⟨p,J,mn1,HG,mnl⟩:∃p:Nat,(if 1+v > l then 1+v else l)=(p:Int)/\1<=p/\p<=3/\l<=(p:Int):=by
  show{(if 1+v > l then 1+v else l).toNat,?_,?_,?_,?_}<;>split<;>lia
 clear r s;show{rfl,_,_,_,rfl,rfl,f,g,#v[],#v[],λu a b u0 u1 f g=>?_};show{bg rfl,bg rfl,?_};have tll:=akr u0 u1;show{by change(-1000000:Int)<=if 1+v > l then 1+v else l;lia,by change(if 1+v > l then 1+v else l)<=1000000;lia,?_}
 change dh _ _ _ _ (fk 0 (if 1+v > l then 1+v else l).toNat) _
 rw[J,bQ,e8];have fin:∀d,SpOk d->prd (d.map (·.2))<=24->l<=(d.length:Int)->Wds d->R (.val (spT d)):=λd h1 h2 h3 h4=>q d h1 h4 h2 h3;clear q;show jk (I:=λi m=>∃lf d a b,m={[KE (.v (iT n)),KE (.v (iT l)),KE (.c 2),KE (.v (iT y)),KE (.v (.v (.str "abcdefghijklmnopqrstuvwxyz"))),KE (.v (iT lf)),KE (.v (iT p)),KE (.v (.v (.str (lU ("abcdefg":Str) MS (KE u))))),KE (.c 1),MS,MS],[MS,KE (.lst (d.map pT)),KE (My a b)]}/\d.length=i/\(∀w∈d,1<=w.2/\w.2<=6)/\Tail y (lU ("abcdefg":Str) MS (KE u)) d/\(prd (d.map (·.2)):Int)*lf<=24/\1<=lf/\lf<=24/\0<=a/\0<=b) {lf,[],a,b,?_,rfl,(λw hw=>nomatch hw),abo,?_,j.1,j.2,f,g} ?_ ?_;{rw[<-J];rfl};{change(1:Int)*lf<=24;lia}
 ·clear a b f g lf j;intro i k m N hk A hN;let{lf,d,a,b,rfl,z,C,D,E,j,L,f,g}:=A;have hi:=bf hk;rw[bM]at hi;rw[cY hi]at hk;cases hk;show{bg rfl,?_};show{rfl,_,_,_,rfl,rfl,f,g,#v[],#v[],λv a b r s f g=>?_};let{x,hx,e}:=adt (ns:=[2,3,4,1,6,5]) r s;show bj e ?_;have x1:1<=x/\x<=6:=by
   simp only[aX,dS,or_false]at hx;lia
  obtain⟨c,ec,O,c6,cl⟩:∃c:Nat,(if lf<x then lf else x)=(c:Int)/\1<=c/\c<=6/\(c:Int)<=lf:=by
   show{(if lf<x then lf else x).toNat,?_,?_,?_,?_}<;>split<;>lia
  have Q:=ly (y+9*(i:Int)) (m:=26) #v[];let{ch,T}:=akq Q.1 Q.2;show{{by change 0<(if lf<x then lf else x);lia,by change(if lf<x then lf else x)<1073741824;lia},?_}
  show{rfl,.inl {#v[],#v[]},by change(0:Int)<26;decide,?_};show{by decide +kernel,?_};show bj T ?_;show{by change 1+_<=_;lia,bg rfl,?_};show{by change(d.map pT).length<1000000;rw[aC];lia,?_};show hN _ {lf / c,d++[(#v[#[ch]]++lU ("abcdefg":Str) MS (KE u),c)],a,b,?_,by rw[aH,z];rfl,λw hw=>?_,X9 D z T,?_,?_,?_,f,g}
  ·change({[KE (.v (iT n)),KE (.v (iT l)),KE (.c 2),KE (.v (iT y)),KE (.v (.v (.str "abcdefghijklmnopqrstuvwxyz"))),KE (.v (iT (lf / (if lf<x then lf else x)))),KE (.v (iT p)),KE (.v (.v (.str (lU ("abcdefg":Str) MS (KE u))))),KE (.c 1),MS,MS],[MS,KE (.lst (d.map pT++[.tup [.v (.str (#v[#[ch]]++lU ("abcdefg":Str) MS (KE u))),iT (if lf<x then lf else x)]])),KE (My a b)]}:M)=_
   rw[bT,ec];rfl
  ·rcases dF.mp hw with hw | hw;{show C w hw};{cases aN.mp hw;show#v[O,c6]}
  {rw[bT];show abq E O ()};{show(Int.le_ediv_iff_mul_le ()).mpr ()};{show uZ (Int.ediv_le_self _ ()) L}
 ·clear a b f g lf j;intro m A;let{lf,d,a,b,rfl,z,C,D,E,j,L,f,g}:=A;rw[bM]at z;have G:SpOk d:={(),(),C};have wds:Wds d:=D.ok () U Y;have pr:prd (d.map (·.2))<=24:=by
   have h:=uZ (Int.mul_le_mul_of_nonneg_left j (nV (prd (d.map (·.2))))) E;lia
  show fin d G pr () wds
def O9 (d:a.good c)(e:b.good c):(Say.either a b).good c:=λx hx=>by
 rcases aX.mp hx with rfl | hx;{trivial};{show(dF.mp hx).elim (d x) (e x)}
def Yu (d:a.good c)(e:b.good c):(Say.both a b).good c:=λx hx=>by
 rcases aX.mp hx with rfl | hx;{trivial};{show(dF.mp hx).elim (d x) (e x)}
def Ut (b:a.good c):(Say.again a).good c:=λx hx=>by
 rcases aX.mp hx with rfl | hx;{trivial};{show b x hx}
structure Fit (ws:LW)(s:Say)(z r:Nat):Prop where
 sz:s.size<=z
 rm:s.rm=r
 good:s.good ws
section
variable {ws:LW}
def Fit.up (h:Fit ws s z r)(e:z<=z'):Fit ws s z' r:={aV h.sz e,h.rm,h.good}
theorem Fit.either (h:Fit ws a z r)(k:Fit ws b y q):Fit ws (.either a b) (z+y+1) (r+q):=⟨by change a.size+b.size+1<=_;have:=h.sz;have:=k.sz;lia,by change a.rm+b.rm=_;rw[h.rm,k.rm],O9 h.good k.good⟩
theorem Fit.both (h:Fit ws a z r)(k:Fit ws b y q):Fit ws (.both a b) (z+y+1) (r+q):=⟨by change a.size+b.size+1<=_;have:=h.sz;have:=k.sz;lia,by change a.rm+b.rm=_;rw[h.rm,k.rm],Yu h.good k.good⟩
theorem Fit.again (h:Fit ws a z r):Fit ws (.again a) (z+1) r:=⟨by change a.size+1<=_;have:=h.sz;lia,h.rm,Ut h.good⟩
theorem Fit.every:Fit ws .every 1 0:={aI _,rfl,λx a=>by rw[aN.mp a];trivial}
theorem Fit.nought:Fit ws .nought 1 0:={aI _,rfl,λx a=>by rw[aN.mp a];trivial}
theorem Fit.note:Fit ws .note 1 1:={aI _,rfl,λx a=>by rw[aN.mp a];trivial}
theorem Fit.put (h:look ws f=KE (p,c))(a:0<=v)(b:v<(c:Int)):Fit ws (.put f v) 1 0:={aI _,rfl,λx d=>by rw[aN.mp d];show#v[p,c,h,a,b]}
theorem Fit.is (h:look ws f=KE (p,c))(a:0<=v)(b:v<(c:Int)):Fit ws (.is f v) 1 0:={aI _,rfl,λx d=>by rw[aN.mp d];show#v[p,c,h,a,b]}
theorem Ni (h:look ws f=KE (p,c)):∀k,k<c->Fit ws (A1 f k) (2*k+1) 0
 |0,hk=>Fit.put h #v[] ()
 |k+1,hk=>((Ni h k ()).either (Fit.put h () ())).up ()
theorem Nj (ok:SpOk ws)(nd:Nd ws):∀j,j<=ws.length->Fit ws (pd (ws.take j)) (12*j+1) 0
 |0,_=>Fit.every
 |j+1,a=>by
  have hw:ws[j]?=KE ws[j]:=aB ();generalize ws[j]=w at hw;have b:=ok.cnt w (aU hw);rw[cH,hw,show(KE w).toList=[w]from rfl,A2];show((Nj ok nd j ()).both (Ni (ni nd hw) (w.2-1) ())).up ()
def Bz (ok:SpOk ws)(nd:Nd ws):Fit ws (pd ws) 37 0:=by
 have h:=Nj ok nd ws.length (aI _);rw[cW]at h;have:=ok.hi;show h.up ()
def qc (ok:SpOk ws)(nd:Nd ws):Fit ws (ma ws) 39 1:=(Bz ok nd).both Fit.note
theorem Yv (nd:Nd ws)(b:a∈LL ws):∀k,k<=ws.length->Fit ws (isS ws a k) (2*k+1) 0
 |0,_=>Fit.every
 |k+1,hk=>by
  have hw:ws[k]?=KE ws[k]:=aB ();have e:ws.getD k ("",0)=ws[k]:=(by rw[bO,hw];rfl);have j:a.length=ws.length:=(by rw[(dt _).wide _ b,aC]);have f:a[k]?=KE (a.getD k 0):=(by rw[bO,aB (show k<a.length by lia)];rfl);let{c,d,g,i}:=((letters_mem ..).mp b).2 k _ f;rw[aW,hw]at d;cases d;unfold isS;rw[e];show((Fit.is (ni nd hw) g i).both (Yv nd b k ())).up ()
def acq (ok:SpOk ws)(nd:Nd ws)(kind:Nat)(b:a∈LL ws):Fit ws (qv ws kind a) 37 0:=by
 unfold qv;have:=ok.hi
 split;{show Bz ok nd};{split;{show Fit.nought.up #v[]};{split;{show(Yv nd b ws.length (aI _)).up ()};{show Fit.every.up #v[]}}}
theorem R1 (ok:SpOk ws)(nd:Nd ws):∀m,Fit ws (Nb ws m) (40*m+39) (m+1)
 |0=>qc ok nd
 |m+1=>((R1 ok nd m).both (qc ok nd)).up ()
theorem R3 (ok:SpOk ws)(nd:Nd ws)(a:Fit ws L 37 0):∀m,Fit ws (Nc ws L m) (40*m+77) (m+1)
 |0=>(qc ok nd).both a
 |m+1=>by
  have h:=((qc ok nd).both (R3 ok nd a m)).up (z':=40*(m+1)+77) ();rw[jY 1]at h;show h
theorem B0 (ok:SpOk ws)(nd:Nd ws):∀k,Fit ws (pf ws k) (40*k+39) (k+1)
 |0=>qc ok nd
 |k+1=>by
  unfold pf
  split;{show((B0 ok nd k).either (qc ok nd)).up ()};{have h:=((qc ok nd).either (B0 ok nd k)).up (z':=40*(k+1)+39) ();rw[jY 1]at h;show h}
def R4 (ok:SpOk ws)(nd:Nd ws)(b kind:Nat)(e:a∈LL ws)(c:Nat)(f:b<=3)(hw:c<=2):∃r,r<=3/\Fit ws (xy ws b kind a c) 160 r:=by
 have d:=acq ok nd kind e;unfold xy
 split;{split;{show{_,(),((R1 ok nd (b-1)).both d).up ()}};{show{_,(),(R3 ok nd d (b-1)).up ()}}};{split;{show{_,(),(((B0 ok nd c).again).both d).up ()}};{show{_,(),((B0 ok nd c).both d).up ()}}}
end
def Uu:GS:=(ak (ax 1 (gTup (gA1 (gS "all")))) (ak (c8 [2,3,4,5] (giT (aa 0)) (.tup [2,3]) (ak (ax 4 (gTup (gaV (gS "put") (gaV (aa 2) (gA1 (gI 0)))))) (ak (c8 [5] (giR2 (gaV (gI 1) (gA1 (aa 3)))) (.one 5) (ax 4 (gTup (gaV (gS "either") (gaV (aa 4) (gA1 (gTup (gaV (gS "put") (gaV (aa 2) (gA1 (aa 5))))))))))) (ax 1 (gTup (gaV (gS "then") (gaV (aa 1) (gA1 (aa 4))))))))) (bc (aa 1))))
def j8:GP:=λds R=>∃a:LW,ds=[spT a]/\SpOk a/\R (.val (pd a).t)
def Uv:Pm (Uu) 6 1 1 (j8):=by
 intro ds R f h;let{a,rfl,ok,q}:=h;show{bg rfl,?_};show de (I:=λi=>{[KE (.v (spT a)),KE (.v (pd (a.take i)).t),MS,MS,MS,MS],[MS]}) rfl (λi x N c hN=>?_) ?_;{have g:=ok.cnt x (aU c);rw[cH,c,show(KE x).toList=[x]from rfl,A2]at hN;generalize pd (a.take i)=s at *;show{bg rfl,?_};show{{#v[],#v[],by change(-1000000:Int)<=(x.2:Int);lia,by change(x.2:Int)<=1000000;lia},?_};change dh _ _ _ _ (fk 1 ((x.2:Int)-1).toNat) _;unfold fk;show de (I:=λk=>{[KE (.v (spT a)),KE (.v s.t),KE (.v (.v (.str x.1))),KE (.v (iT x.2)),KE (.v (A1 x.1 k).t),MS],[MS]}) rfl (λk y d b e=>?_) ?_;{have hk:=bf b;rw[bM]at hk;rw[cY hk]at b;cases b;show{bg rfl,bg rfl,?_};show cast (NG d ?_) e;change({_,_}:M)={[KE (.v (spT a)),KE (.v s.t),KE (.v (.v (.str x.1))),KE (.v (iT x.2)),KE (.v (.tup [.v (.str "either"),(A1 x.1 k).t,.tup [.v (.str "put"),.v (.str x.1),.v (.int (1+(k:Int)))]])),MS],[MS]};rw[show(1+(k:Int))=((k+1:Nat):Int)by lia];rfl};{rw[bM,show((x.2:Int)-1).toNat=x.2-1 by lia];show{bg rfl,?_};show hN}};{rw[cW];show q}
def Pa:GS:=(ak (sIf (gT (gOp (eqG MU) (aa 1) (gI 0))) (bc (ar 1 j8 (gA1 (aa 0)))) cy) (ak (sIf (gT (gOp (eqG MU) (aa 1) (gI 1))) (bc (gTup (gA1 (gS "none")))) cy) (ak (ax 3 (gTup (gA1 (gS "all")))) (ak (c8 [4] (giR (gA1 (gCB ja (gaE (aa 0) gaN)))) (.one 4) (sIf (gT (gOp (eqG MU) (aa 1) (gI 2))) (ax 3 (gTup (gaV (gS "then") (gaV (gTup (gaV (gS "is") (gaV (gX (gX (aa 0) (aa 4)) (gI 0)) (gA1 (gX (aa 2) (aa 4)))))) (gA1 (aa 3)))))) cy)) (bc (aa 3))))))
def x9:GP:=λds R=>∃(b:LW)(kind:Nat) (a:LQ),ds=[spT b,iT kind,tI a]/\SpOk b/\a.length=b.length/\kind<4/\R (.val (qv b kind a).t)
def iN {k j:Nat}(h:k≠j):decide (V.int (k:Int)=V.int (j:Int))=MU:=NA λe=>h (by have:=V.int.inj e;lia)
def iY {k j:Nat}(h:k=j):decide (V.int (k:Int)=V.int (j:Int))=MT:=NB (by rw[h])
def Pb:Pm (Pa) 5 1 3 (x9):=by
 intro ds R m h;let{b,kind,a,rfl,ok,p,hk,q}:=h;have l3:=ok.hi;unfold qv at q;show{rfl,?_};by_cases k0:kind=0;{show sfY (iY (j:=0) k0) ?_;rw[MZ k0]at q;show#v[rfl,b,rfl,ok,q]}
 show sfN (iN (j:=0) k0) ?_;rw[M' k0]at q;show ie ?_;show{rfl,?_};by_cases k1:kind=1;{show sfY (iY (j:=1) k1) ?_;rw[MZ k1]at q;show{bg rfl,q}}
 show sfN (iN (j:=1) k1) ?_;rw[M' k1]at q;show ie ?_;show{bg rfl,?_};have e:(b.map pT).length=b.length:=aC ..;show{by change(-1000000:Int)<=((b.map pT).length:Int);lia,by change((b.map pT).length:Int)<=1000000;lia,?_};change dh _ _ _ _ (fk 0 (((b.map pT).length:Int)).toNat) _;rw[bQ,e8,e];show de (I:=λk=>{[KE (.v (spT b)),KE (.v (iT kind)),KE (.v (tI a)),KE (.v (if kind=2 then isS b a k else Say.every).t),MS],[MS]}) (by rw[show isS b a 0=Say.every from rfl,ite_self];rfl) (λk y N c hN=>?_) ?_
 ·have d:=bf c;rw[bM]at d;rw[cY d]at c;cases c;show{rfl,?_};by_cases k2:kind=2
  ·show sfY (iY (j:=2) k2) ?_;rw[MZ k2]at hN ⊢;have hw:b[k]?=KE b[k]:=aB d;have f:atI (b.map pT) (k:Int)=KE (pT b[k]):=bt (by rw[aW,hw];rfl);show bj f ?_;have g:atI (a.map λn=>Tr.v (.int n)) (k:Int)=KE (iT (a.getD k 0)):=bt (by rw[aW,bO,aB (show k<a.length by lia)];rfl);show bj g ?_;have i:b.getD k ("",0)=b[k]:=(by rw[bO,hw];rfl);have l:isS b a (k+1)=Say.both (.is b[k].1 (a.getD k 0)) (isS b a k):=by
    change Say.both (.is (b.getD k ("",0)).1 _) _=_;rw[i]
   rw[l]at hN;show{bg rfl,bg rfl,hN}
  ·show sfN (iN (j:=2) k2) ?_;show ie ?_;rw[M' k2]at hN ⊢;show hN
 ·rw[bM];by_cases k2:kind=2;{rw[MZ k2]at q ⊢;show q};{rw[M' k2]at q ⊢;show q}
def J1:GS:=(ak (ax 5 (gTup (gaV (gS "then") (gaV (ar 1 j8 (gA1 (aa 0))) (gA1 (gTup (gA1 (gS "note")))))))) (ak (ax 6 (ar 3 x9 (gaV (aa 0) (gaV (aa 2) (gA1 (aa 3)))))) (ak (sIf (gT (gOp (dw λi j=>.bl (decide (j<i))) (aa 1) (gI 1))) (ak (ax 7 (aa 5)) (ak (ax 8 (gTup (gaV (gS "then") (gaV (aa 5) (gA1 (aa 6)))))) (ak (c8 [9] (giR (gA1 (gOp (dw λi j=>.int (i-j)) (aa 1) (gI 1)))) (.one 9) (ak (ax 7 (gTup (gaV (gS "then") (gaV (aa 7) (gA1 (aa 5)))))) (ax 8 (gTup (gaV (gS "then") (gaV (aa 5) (gA1 (aa 8)))))))) (bc (gX (gLst (gaV (gTup (gaV (gS "then") (gaV (aa 7) (gA1 (aa 6))))) (gA1 (aa 8)))) (gOp (ib (λ_ j=>0<j) λi j=>.int (i % j)) (aa 4) (gI 2))))))) cy) (ak (ax 7 (aa 5)) (ak (c8 [9] (giR (gA1 (aa 4))) (.one 9) (ax 7 (gX (gLst (gaV (gTup (gaV (gS "either") (gaV (aa 7) (gA1 (aa 5))))) (gA1 (gTup (gaV (gS "either") (gaV (aa 5) (gA1 (aa 7)))))))) (gOp (ib (λ_ j=>0<j) λi j=>.int (i % j)) (aa 9) (gI 2))))) (ak (sIf (gT (gOp (eqG MU) (aa 1) (gI 0))) (ax 7 (gTup (gaV (gS "again") (gA1 (aa 7))))) cy) (bc (gTup (gaV (gS "then") (gaV (aa 7) (gA1 (aa 6))))))))))))
def oy:GP:=λds R=>∃(c:LW)(b kind:Nat) (a:LQ) (d:Nat),ds=[spT c,iT b,iT kind,tI a,iT d]/\SpOk c/\a.length=c.length/\kind<4/\b<=3/\d<=2/\R (.val (xy c b kind a d).t)
def Yw {a:Type}(x y:a)(k:Nat):atI [x,y] ((k:Int) % 2)=KE (if k % 2=0 then x else y):=by
 rw[show((k:Int) % 2)=((k % 2:Nat):Int)by lia];rcases nN k with h | h<;>rw[h]<;>show bt rfl
def J2:Pm (J1) 10 1 5 (oy):=by
 intro ds R n h;let{e,b,kind,a,f,rfl,ok,l,hk,p,hw,q}:=h;unfold xy at q;show{rfl,e,rfl,ok,?_};show{bg rfl,bg rfl,?_};show{rfl,e,kind,a,rfl,ok,l,hk,?_};generalize qv e kind a=L at *;change if decide ((1:Int)<(b:Int))=MT then _ else _
 by_cases c:1<b;{rw[MZ c]at q;show ifY (NB ()) ?_;show{bg rfl,?_};show{by change(-1000000:Int)<=(b:Int)-1;lia,by change(b:Int)-1<=1000000;lia,?_};change dh _ _ _ _ (fk 0 ((b:Int)-1).toNat) _;rw[e8,show((b:Int)-1).toNat=b-1 by lia];show de (I:=λk=>{[KE (.v (spT e)),KE (.v (iT b)),KE (.v (iT kind)),KE (.v (tI a)),KE (.v (iT f)),KE (.v (ma e).t),KE (.v L.t),KE (.v (Nb e k).t),KE (.v (Nc e L k).t),MS],[MS]}) rfl (λk y N g hN=>?_) ?_;{show{bg rfl,bg rfl,hN}};{rw[bM];show{bg rfl,bg rfl,?_};show{by change(0:Int)<2;decide,?_};show bj (Yw _ _ f) ?_;by_cases d:f % 2=0;{rw[MZ d]at q ⊢;show q};{rw[M' d]at q ⊢;show q}}}
 ·rw[M' c]at q;show ifN (NA ()) ?_;show ie ?_;show{by change(-1000000:Int)<=(f:Int);lia,by change(f:Int)<=1000000;lia,?_};change dh _ _ _ _ (fk 0 ((f:Int)).toNat) _;rw[bQ,e8];show de (I:=λk=>{[KE (.v (spT e)),KE (.v (iT b)),KE (.v (iT kind)),KE (.v (tI a)),KE (.v (iT f)),KE (.v (ma e).t),KE (.v L.t),KE (.v (pf e k).t),MS,MS],[MS]}) rfl (λk y N g hN=>?_) ?_
  ·have i:=bf g;rw[bM]at i;rw[cY i]at g;cases g;show{bg rfl,bg rfl,bg rfl,?_};show{by change(0:Int)<2;decide,?_};show bj (Yw _ _ k) ?_;have m:pf e (k+1)=if k % 2=0 then Say.either (pf e k) (ma e)else .either (ma e) (pf e k):=rfl
   rw[m]at hN;by_cases d:k % 2=0;{rw[MZ d]at hN ⊢;show hN};{rw[M' d]at hN ⊢;show hN}
  ·rw[bM];show{rfl,?_};by_cases d:b=0;{show sfY (iY (j:=0) d) ?_;rw[MZ d]at q;show{bg rfl,bg rfl,q}};{show sfN (iN (j:=0) d) ?_;show ie ?_;rw[M' d]at q;show{bg rfl,q}}
def Nk (g__law_parts:GP):GS:=(bc (gOp c5 (gI 1) (gCB Tp (gaE (cu 1 [] (giT (gSl (aa 0) (goS (gI 1)) goN)) (.one 0) (ku (gIsi "tuple" (aa 0))) (ar 1 g__law_parts (gA1 (aa 0)))) gaN))))
def A3 (n:Nat):GP:=λds R=>∃s:Say,ds=[s.t]/\s.size<=n/\n<=1000/\R (.val (iT (s.size:Int)))
def Say.its:Say->List (Say ⊕ V)
 | .is f v=>[.inr (.str f),.inr (.int v)]
 | .put f v=>[.inr (.str f),.inr (.int v)]
 |s=>s.kids.map .inl
def encI:Say ⊕ V->Tr
 | .inl s=>s.t
 | .inr v=>.v v
def outI:Say ⊕ V->Int
 | .inl s=>(s.size:Int)
 | .inr _=>0
def ahn (s:Say):s.t=.tup (.v (.str s.sort)::(Say.its s).map encI):=by cases s<;>rfl
def ali (s:Say):tyT "tuple" s.t=KE MT:=by cases s<;>rfl
def alj (s:Say):(∀v,Sum.inr v∈Say.its s->(∃f,v=.str f)\/∃n,v=.int n)/\(∀x,Sum.inl x∈Say.its s->x.size<s.size)/\(Say.its s).length<=2/\1+(((Say.its s).filter Sum.isLeft).map outI).sum=(s.size:Int):=by
 cases s with
 |is f v=>show⟨λv d=>by simp[Say.its]at d;rcases d with rfl | rfl;show .inl {_,rfl};show .inr {_,rfl},λx c=>by simp[Say.its]at c,aI _,rfl⟩
 |put f v=>show⟨λv d=>by simp[Say.its]at d;rcases d with rfl | rfl;show .inl {_,rfl};show .inr {_,rfl},λx c=>by simp[Say.its]at c,aI _,rfl⟩
 |no s=>show{λv d=>by simp[Say.its,Say.kids]at d,λx c=>by simp[Say.its,Say.kids]at c;subst c;show iC _,by change 1<=2;decide,by change 1+((s.size:Int)+0)=((s.size+1:Nat):Int);lia}
 |again s=>show{λv d=>by simp[Say.its,Say.kids]at d,λx c=>by simp[Say.its,Say.kids]at c;subst c;show iC _,by change 1<=2;decide,by change 1+((s.size:Int)+0)=((s.size+1:Nat):Int);lia}
 |either a b=>show⟨λv d=>by simp[Say.its,Say.kids]at d,λx c=>by simp[Say.its,Say.kids]at c;change x.size<a.size+b.size+1;rcases c with rfl | rfl<;>lia,aI _,by change 1+((a.size:Int)+((b.size:Int)+0))=((a.size+b.size+1:Nat):Int);lia⟩
 |both a b=>show⟨λv d=>by simp[Say.its,Say.kids]at d,λx c=>by simp[Say.its,Say.kids]at c;change x.size<a.size+b.size+1;rcases c with rfl | rfl<;>lia,aI _,by change 1+((a.size:Int)+((b.size:Int)+0))=((a.size+b.size+1:Nat):Int);lia⟩
 |_=>show{λv d=>by simp[Say.its,Say.kids]at d,λx c=>by simp[Say.its,Say.kids]at c,#v[],rfl}
def Nl (n:Nat):Pm (Nk (A3 n)) 1 1 1 (A3 (n+1)):=by
 intro ds R i h;let{s,rfl,j,l,q}:=h;let{d,b,m,e}:=alj s;rw[ahn s];change cq _ _ _ _ _ _ _ (dg (Tr.v (.str s.sort)::(Say.its s).map encI) (KE 1) MS) _ _;rw[sj];change cq _ _ _ _ _ _ _ ((Say.its s).map encI) _ _;show fw (p:=Sum.isLeft) (out:=λx=>iT (outI x)) rfl _ _ (by change 0+_<=_;lia) (λx a Y Z g c=>?_) ?_
 ·cases x with
  |inl x=>
   show bj (ali x) ?_;show⟨rfl,x,rfl,by have:=b x a;lia,(),g rfl⟩
  |inr v=>
   rcases d v a with⟨f,rfl⟩ | ⟨k,rfl⟩;{show c rfl};{show c rfl}
 ·show{((Say.its s).filter Sum.isLeft).map outI,by rw[bR,dG];rfl,?_,λk hk=>?_,?_};{rw[aC];show aV (iA _ _) ()}
  ·let{x,a,rfl}:=bE.mp hk;cases x with
   |inl x=>
    have:=b x (dE.mp a).1;change -1000000000<=(x.size:Int)/\(x.size:Int)<=1000000000;lia
   |inr v=>change -1000000000<=(0:Int)/\(0:Int)<=1000000000;decide
  ·change R (.val (.v (.int (1+_))));rw[e];show q
def g__law_parts:GP:=A3 160
def Pc:GS:=(ak (ax 2 (gLst (gA1 (gTup gaN)))) (ak (c8 [3,4,5] (giR (gA1 (aa 1))) (.one 3) (ak (ax 4 (gLst gaN)) (ak (c8 [5] (giL (aa 2)) (.one 5) (ax 4 (gOp c5 (aa 4) (cu 1 [5] (giL (aa 0)) (.one 0) dq (gOp c5 (aa 1) (gTup (gA1 (aa 0)))))))) (ax 2 (aa 4))))) (bc (aa 2))))
def ya:GP:=λds R=>∃(ls:LJ)(m:Nat),ds=[ltT ls,iT m]/\m<=10/\1<=ls.length/\ls.length<=300/\ls.length ^ m<=10000/\R (.val (.lst ((i9 ls m).map trT)))
def Pd:Pm (Pc) 6 1 2 (ya):=by
 intro ds R d h;let{ls,m,rfl,x,f,y,g,q}:=h;have c:∀i,i<=m->ls.length ^ i<=10000:=λi hi=>aV (kO f hi) g;show{bg rfl,bg rfl,?_};show{by change(-1000000:Int)<=(m:Int);lia,by change(m:Int)<=1000000;lia,?_};change dh _ _ _ _ (fk 0 ((m:Int)).toNat) _;rw[bQ,e8];show de (I:=λi=>{[KE (.v (ltT ls)),KE (.v (iT m)),KE (.v (.lst ((i9 ls i).map trT))),MS,MS,MS],[MS]}) rfl (λi k N hk hN=>?_) ?_
 ·have hi:=bf hk;rw[bM]at hi;rw[cY hi]at hk;cases hk;have n:=c i ();have l1:=c (i+1) ();rw[<-wg ls]at n l1;have p:∀b∈i9 ls i,b.length<=20:=λb a=>(by rw[(wj a).1];lia);have en:i9 ls (i+1)=(i9 ls i).flatMap λb=>ls.map λl=>b++[l]:=rfl;rw[en]at hN l1;generalize i9 ls i=bs at *;show{bg rfl,?_};show de (I:=λj=>{[KE (.v (ltT ls)),KE (.v (iT m)),KE (.v (.lst (bs.map trT))),KE (.v (iT i)),KE (.v (.lst (((bs.take j).flatMap λb=>ls.map λl=>b++[l]).map trT))),MS],[MS]}) rfl (λj b r a s=>?_) ?_
  ·have bm:=p b (aU a);show c7 (out:=λl:LQ=>trT (b++[l])) rfl _ _ (by change 0+_<=_;lia) (λl d Y u=>?_) ?_;{show{bg rfl,by change(b.map tI).length+1<=1000000;rw[aC];lia,?_};change Y (.tup (b.map tI++[tI l])) _;have e:trT (b++[l])=.tup (b.map tI++[tI l]):=(by simp[trT]);rw[<-e];show u}
   ·have e:((bs.take (j+1)).flatMap λb=>ls.map λl=>b++[l])=((bs.take j).flatMap λb=>ls.map λl=>b++[l])++ls.map λl=>b++[l]:=by
     rw[cH,a];simp
    have A:((bs.take j).flatMap λb=>ls.map λl=>b++[l]).length<=10000:=by
     show aV ?_ l1;have:bs.flatMap (λb=>ls.map λl=>b++[l])=(bs.take j).flatMap (λb=>ls.map λl=>b++[l])++(bs.drop j).flatMap (λb=>ls.map λl=>b++[l]):=(by rw[<-jB,mU]);rw[this,aH];lia
    have w:((bs.take j).flatMap λb=>ls.map λl=>b++[l]).map trT++([]++ls.map λl:LQ=>trT (b++[l]))=((bs.take (j+1)).flatMap λb=>ls.map λl=>b++[l]).map trT:=by
     rw[e,bR,bT,dG];rfl
    show{by change(((bs.take j).flatMap λb=>ls.map λl=>b++[l]).map trT).length+([]++ls.map λl:LQ=>trT (b++[l])).length<=1000000;rw[bR,aC,aC];lia,?_};show cast (NG (λz=>r ({[KE (.v (ltT ls)),KE (.v (iT m)),KE (.v (.lst (bs.map trT))),KE (.v (iT i)),KE (.v (.lst z)),MS],[MS]}:M)) w.symm) s
  ·rw[cW];show hN
 ·change R _;rw[bM];show q
def Yx {a:Type}(l:List a)(x:a):dg (l++[x]) (KE (-1)) MS=[x]:=by
 unfold dg HT.sIx;simp;rw[show(-1+((l.length:Int)+1)).toNat=l.length by lia];simp
def Pe:GS:=(ak (sIf (gT (gOp (eqG MU) (aa 2) (gI 0))) (bc (aa 0)) cy) (ak (sIf (gT (gOp (eqG MU) (aa 2) (gI 1))) (bc (gLst gaN)) cy) (ak (sIf (gT (gOp (eqG MU) (aa 2) (gI 2))) (bc (cu 1 [3] (giT (gSl (aa 1) (goS (xj (gI 1))) goN)) (.one 0) (gT (gOp (eqG MU) (aa 0) (aa 1))) (aa 0))) cy) (bc (gCB Tq (gaE (gSl (aa 1) (goS (xj (gI 1))) goN) gaN))))))
def om:GP:=λds R=>∃(ls:LJ)(r:LJ) (x:LQ) (kind:Nat) (a:LQ),ds=[ltT ls,trT (r++[x]),iT kind,tI a]/\kind<4/\(∀b,b=.val (ltT (gh ls kind a x))\/b=.new (ltT (gh ls kind a x))->R b)
def Pf:Pm (Pe) 4 1 4 (om):=by
 intro ds R f h;let{ls,r,x,kind,a,rfl,hk,q}:=h;unfold gh at q;have b:(r++[x]).map tI=r.map tI++[tI x]:=(by rw[bT];rfl);show{rfl,?_};by_cases k0:kind=0;{show sfY (iY (j:=0) k0) ?_;rw[MZ k0]at q;show q _ (.inl rfl)}
 show sfN (iN (j:=0) k0) ?_;rw[M' k0]at q;show ie ?_;show{rfl,?_};by_cases k1:kind=1;{show sfY (iY (j:=1) k1) ?_;rw[MZ k1]at q;show{bg rfl,q _ (.inr rfl)}}
 show sfN (iN (j:=1) k1) ?_;rw[M' k1]at q;show ie ?_;show{rfl,?_};by_cases k2:kind=2
 ·show sfY (iY (j:=2) k2) ?_;rw[MZ k2]at q;change cq _ _ _ _ _ _ _ (dg ((r++[x]).map tI) (KE (-1)) MS) _ _;rw[b,Yx,show[tI x]=[x].map tI from rfl];show fw (p:=λl:LQ=>decide (l=a)) (out:=tI) rfl _ _ (by change 0+1<=_;lia) (λl f Y Z g i=>?_) ?_
  ·show{Dn 39 l a,λc m=>?_};have e:c=decide (l=a):=X8 m abn;cases c with
   |true=>show g e.symm
   |false=>show i e.symm
  ·show q _ (.inr ?_);by_cases d:x=a;{rw[MZ d,oP (by show NB d)];rfl};{rw[M' d,oQ (by rw[NA d];decide)];rfl}
 ·show sfN (iN (j:=2) k2) ?_;show ie ?_;rw[M' k2]at q;change R (.new (.lst (dg ((r++[x]).map tI) (KE (-1)) MS)));rw[b,Yx];show q _ (.inr rfl)
def Hu:GS:=(ak (sIf (gT (gOp (eqG MU) (aa 2) (gI 1))) (bc (gI 0)) cy) (ak (ax 3 (gI 1)) (ak (c8 [4] (giR (gA1 (gOp c5 (aa 1) (gX (gLst (gaV (gI 1) (gaV (gI 0) (gaV (xj (gI 1)) (gA1 (gI 0)))))) (aa 2))))) (.one 4) (ax 3 (gOp ud (aa 3) (gCB ja (gaE (aa 0) gaN))))) (bc (aa 3)))))
def tj:GP:=λds R=>∃(ls:LJ)(j kind:Nat),ds=[ltT ls,iT j,iT kind]/\kind<4/\1<=j/\j<=10/\ls.length<=24/\R (.val (iT ((qw ls.length j kind:Nat):Int)))
def Hv:Pm (Hu) 5 1 3 (tj):=by
 intro ds R c h;let{ls,j,kind,rfl,hk,d,e,f,q}:=h;unfold qw at q;show{rfl,?_};by_cases k1:kind=1;{show sfY (iY (j:=1) k1) ?_;rw[MZ k1]at q;show q}
 show sfN (iN (j:=1) k1) ?_;rw[M' k1]at q;show ie ?_;obtain⟨z,a,en⟩:∃z:Int,atI ([1,0,-1,0].map iT) (kind:Int)=KE (iT z)/\(j:Int)+z=((if kind=0 then j+1 else if kind=2 then j-1 else j:Nat):Int):=by
  have:kind=0\/kind=2\/kind=3:=();rcases this with rfl | rfl | rfl;{show{1,rfl,by rw[MZ rfl];lia}};{show{-1,rfl,by rw[M' #v[],MZ rfl];lia}};{show{0,rfl,by rw[M' #v[],M' #v[]];lia}}
 have q:R (.val (iT ((ls.length ^ (if kind=0 then j+1 else if kind=2 then j-1 else j):Nat):Int))):=by
  by_cases k0:kind=0;{rw[MZ k0]at q ⊢;show q};{rw[M' k0]at q ⊢;by_cases k2:kind=2;{rw[MZ k2]at q ⊢;show q};{rw[M' k2]at q ⊢;show q}}
 have g:(if kind=0 then j+1 else if kind=2 then j-1 else j)<=11:=by split<;>(try split)<;>lia
 generalize (if kind=0 then j+1 else if kind=2 then j-1 else j)=t at *
 show{bg rfl,?_};show bj a ?_;show{by change(-1000000:Int)<=(j:Int)+z;lia,by change(j:Int)+z<=1000000;lia,?_};change dh _ _ _ _ (fk 0 ((j:Int)+z).toNat) _;rw[en,bQ,e8];show de (I:=λk=>{[KE (.v (ltT ls)),KE (.v (iT j)),KE (.v (iT kind)),KE (.v (iT ((ls.length ^ k:Nat):Int))),MS],[MS]}) rfl (λk y N i hN=>?_) ?_;{have b:(ls.map tI).length=ls.length:=aC ..;show{.inr {(),()},?_};show cast (NG N ?_) hN;change({_,_}:M)={[KE (.v (ltT ls)),KE (.v (iT j)),KE (.v (iT kind)),KE (.v (iT (((ls.length ^ k:Nat):Int)*((ls.map tI).length:Int)))),MS],[MS]};rw[b,lA,Int.natCast_mul]};{rw[bM];show q}
def R5 {ls:LJ}(a:N71.Up ls)(kind:Nat)(b x:LQ):N71.Up (gh ls kind b x):=by
 unfold gh
 split;{show a};{split;{show oU};{split;{split;{show lO _ _};{show oU}};{show lO _ _}}}
def Nm {E:LJ}(a:N71.Up E)(p:LJ):Ul (E.map λe=>p++[e]):=N71.ascD (by rw[List.pairwise_map];show a.imp λh=>N71.lt_same p h)
def Np {ls:LJ}(h:1<=ls.length)(kind:Nat)(a x:LQ):(gh ls kind a x).length<=ls.length:=by
 unfold gh
 split;{show aI _};{split;{show eQ _};{split;{split;{show h};{show eQ _}};{show h}}}
abbrev zo (ls:LJ)(a:LQ)(kind:Nat)(la:LQ)(r:LJ):List (LJ):=(gh ls kind la (j7 a r)).map λe=>a::(r++[e])
def Uw:GS:=(ak (ax 5 (gLst gaN)) (ak (sIf (gT (gOp (eqG MU) (aa 3) (gI 1))) (bc (aa 5)) cy) (ak (c8 [6,7] (giL (aa 2)) (.one 6) (sIf (gT (gOp (eqG MU) (aa 6) (gI 0))) (ax 5 (gOp c5 (aa 5) (Um (cu 1 [1] (giL (ar 4 om (gaV (aa 0) (gaV (gTup (gA1 (aa 1))) (gaV (aa 3) (gA1 (aa 4))))))) (.one 0) dq (gTup (gaV (aa 1) (gA1 (aa 0)))))))) (c8 [7] (giL (ar 2 ya (gaV (aa 0) (gA1 (aa 6))))) (.one 7) (ax 5 (gOp c5 (aa 5) (Um (cu 1 [1,7] (giL (ar 4 om (gaV (aa 0) (gaV (aa 7) (gaV (aa 3) (gA1 (aa 4))))))) (.one 0) dq (gOp c5 (gOp c5 (gTup (gA1 (aa 1))) (aa 2)) (gTup (gA1 (aa 0))))))))))) (bc (aa 5)))))
abbrev nT (xO:AQ):Tr:=.lst (xO.map λj:Nat=>iT (j:Int))
def qz:GP:=λds R=>∃(ls:LJ)(a:LQ) (b:AQ) (kind:Nat) (c:LQ),ds=[ltT ls,tI a,nT b,iT kind,tI c]/\kind<4/\N71.Up ls/\1<=ls.length/\ls.length<=300/\(∀j∈b,j<=10/\(kind=1\/ls.length ^ j<=10000))/\
 (b.flatMap (dj ls a kind c)).length<=10000/\R (.val (.lst ((b.flatMap (dj ls a kind c)).map trT)))
def Ux:Pm (Uw) 8 1 5 (qz):=by
 intro ds R f h;let{ls,a,c,kind,b,rfl,hk,L,p,Q,T,hz,q}:=h;show{bg rfl,rfl,?_};by_cases k1:kind=1
 ·show sfY (iY (j:=1) k1) ?_;have e:c.flatMap (dj ls a kind b)=[]:=oR.mpr λj _=>oR.mpr λr _=>by
   unfold gh;rw[M' (),MZ k1];rfl
  rw[e]at q;show q
 show sfN (iN (j:=1) k1) ?_;show ie ?_;show de (I:=λi=>{[KE (.v (ltT ls)),KE (.v (tI a)),KE (.v (nT c)),KE (.v (iT kind)),KE (.v (tI b)),KE (.v (.lst (((c.take i).flatMap (dj ls a kind b)).map trT))),MS,MS],[MS]}) rfl (λi j N O hN=>?_) ?_
 ·let{U,s}:=T j (aU O);have s:=s.resolve_left k1;have en:(c.take (i+1)).flatMap (dj ls a kind b)=(c.take i).flatMap (dj ls a kind b)++dj ls a kind b j:=by
   rw[cH,O];simp
  have g:((c.take i).flatMap (dj ls a kind b)).length+(dj ls a kind b j).length<=10000:=by
   show aV ?_ hz;rw[<-aH,<-en];have:c.flatMap (dj ls a kind b)=(c.take (i+1)).flatMap (dj ls a kind b)++(c.drop (i+1)).flatMap (dj ls a kind b):=(by rw[<-jB,mU]);rw[this,aH];show sM _ _
  rw[en]at hN;generalize (c.take i).flatMap (dj ls a kind b)=A at *;show{rfl,?_};by_cases m:j=0
  ·show sfY (iY (j:=0) m) ?_;subst m;have u:dj ls a kind b 0=(gh ls kind b a).map λe=>[a]++[e]:=by
    change vC _ [[]]=_;rw[gO];rfl
   rw[u]at hN g;have w:=R5 L kind b a;have el:=Np p kind b a;show{bg rfl,rfl,ls,[],a,kind,b,rfl,hk,λev y=>?_};generalize gh ls kind b a=E at *;rcases y with rfl | rfl
   all_goals
    show c7 (out:=λe:LQ=>trT ([a]++[e])) rfl _ _ (by change 0+_<=_;lia) (λe he Y C=>{bg rfl,C}) ?_;show{E.map λe=>[a]++[e],1,by rw[bR,dG];rfl,by rw[aC];lia,λl f=>?_,Nm w [a],?_};{let{e,_,rfl}:=bE.mp f;rfl}
    ·rw[aC]at g;show{by change(A.map trT).length+([]++E.map λe:LQ=>trT ([a]++[e])).length<=1000000;rw[bR,aC,aC];lia,?_};have D:A.map trT++([]++E.map λe:LQ=>trT ([a]++[e]))=(A++E.map λe=>[a]++[e]).map trT:=by
      rw[bR,bT,dG];rfl
     show cast (NG (λz=>N ({[KE (.v (ltT ls)),KE (.v (tI a)),KE (.v (nT c)),KE (.v (iT kind)),KE (.v (tI b)),KE (.v (.lst z)),MS,MS],[MS]}:M)) D.symm) hN
  ·show sfN (iN (j:=0) m) ?_;show{rfl,ls,j,rfl,U,p,Q,s,?_};have u:dj ls a kind b j=(i9 ls j).flatMap (zo ls a kind b):=rfl;have rm:∀r∈i9 ls j,r.length=j:=λr n=>(wj n).1;rw[u]at hN g;generalize i9 ls j=d at *;show de (I:=λi=>{[KE (.v (ltT ls)),KE (.v (tI a)),KE (.v (nT c)),KE (.v (iT kind)),KE (.v (tI b)),KE (.v (.lst ((A++(d.take i).flatMap (zo ls a kind b)).map trT))),KE (.v (iT j)),MS],[MS]}) ∅ (λi r N' n G=>?_) ?_
   ·have H:=rm r (aU n);have en:(d.take (i+1)).flatMap (zo ls a kind b)=(d.take i).flatMap (zo ls a kind b)++(gh ls kind b (j7 a r)).map λe=>a::(r++[e]):=by
     rw[cH,n];simp
    have J:A.length+((d.take i).flatMap (zo ls a kind b)).length<=10000:=by
     show aV (Nat.add_le_add_left ?_ _) g;have:d.flatMap (zo ls a kind b)=(d.take i).flatMap (zo ls a kind b)++(d.drop i).flatMap (zo ls a kind b):=(by rw[<-jB,mU]);rw[this,aH];show sM _ _
    rw[en,<-dX]at G;rw[<-aH]at J;generalize A++(d.take i).flatMap (zo ls a kind b)=B at *;obtain⟨r,x,rfl⟩:∃r' x,r=r'++[x]:={r.dropLast,r.getLast (λz=>by rw[z]at H;show m H.symm),(jT _).symm};rw[Ft]at G;have w:=R5 L kind b x;have el:=Np p kind b x;show{rfl,ls,r,x,kind,b,rfl,hk,λev y=>?_};generalize gh ls kind b x=E at *;generalize r++[x]=r at *;have em:∀e:LQ,trT (a::(r++[e]))=.tup (([tI a]++r.map tI)++[tI e]):=λe=>(by simp[trT]);rcases y with rfl | rfl
    all_goals
     show c7 (out:=λe:LQ=>trT (a::(r++[e]))) rfl _ _ (by change 0+_<=_;lia) (λe he Y C=>?_) ?_;{show{bg rfl,by change 1+(r.map tI).length<=1000000;rw[aC];lia,bg rfl,by change([tI a]++r.map tI).length+1<=1000000;rw[aH,aC];change 1+_+1<=_;lia,?_};change Y (.tup (([tI a]++r.map tI)++[tI e])) _;rw[<-em];show C}
     show{E.map λe=>(a::r)++[e],j+1,by rw[bR,dG];rfl,by rw[aC];lia,λl f=>?_,Nm w (a::r),?_};{let{e,_,rfl}:=bE.mp f;rw[aH,aS,H];rfl}
     ·show{by change(B.map trT).length+([]++E.map λe:LQ=>trT (a::(r++[e]))).length<=1000000;rw[bR,aC,aC];lia,?_};have D:B.map trT++([]++E.map λe:LQ=>trT (a::(r++[e])))=(B++E.map λe=>a::(r++[e])).map trT:=by
       rw[bR,bT,dG];rfl
      show cast (NG (λz=>N' ({[KE (.v (ltT ls)),KE (.v (tI a)),KE (.v (nT c)),KE (.v (iT kind)),KE (.v (tI b)),KE (.v (.lst z)),KE (.v (iT j)),MS],[MS]}:M)) D.symm) G
   ·rw[cW];show hN
 ·rw[cW];show q
def mi (a:LW):LW:=a.flatMap λw=>(bG w.2).map λv=>(w.1,v)
def agP (a:Str)(s:Say)(p:Str×Nat):Say:=if p=(a,0)then s else .either (.put p.1 (p.2:Int)) s
def agF (a:Str)(l:LW):Say:=l.foldl (agP a) (.put a 0)
def acu (a:Str)(l:LW)(p:Str×Nat):agF a (l++[p])=if p=(a,0)then agF a l else .either (.put p.1 (p.2:Int)) (agF a l):=by
 unfold agF;rw[mI];rfl
def D5:GS:=(ak (ax 1 (gTup (gaV (gS "put") (gaV (gX (gX (aa 0) (gI 0)) (gI 0)) (gA1 (gI 0)))))) (ak (c8 [2,3,4] (giT (aa 0)) (.tup [2,3]) (c8 [4] (giR (gA1 (aa 3))) (.one 4) (sIf (gT (gOp (eqG MT) (gTup (gaV (aa 2) (gA1 (aa 4)))) (gTup (gaV (gX (gX (aa 0) (gI 0)) (gI 0)) (gA1 (gI 0)))))) (ax 1 (gTup (gaV (gS "either") (gaV (gTup (gaV (gS "put") (gaV (aa 2) (gA1 (aa 4))))) (gA1 (aa 1)))))) cy))) (bc (gTup (gaV (gS "again") (gA1 (aa 1)))))))
def j9:GP:=λds R=>∃a r,ds=[spT (a::r)]/\SpOk (a::r)/\R (.val (Say.again (agF a.1 (mi (a::r)))).t)
def D6:Pm (D5) 5 1 1 (j9):=by
 intro ds R p h;let{a,r,rfl,ok,q}:=h;show ix0 ?_;show{bg rfl,?_};show de (I:=λi=>{[KE (.v (spT (a::r))),KE (.v (agF a.1 (mi ((a::r).take i))).t),MS,MS,MS],[MS]}) rfl (λi x N j hN=>?_) ?_
 ·have m:=ok.cnt x (aU j);have en:mi ((a::r).take (i+1))=mi ((a::r).take i)++(bG x.2).map λv=>(x.1,v):=by
   unfold mi;rw[cH,j];simp
  rw[en]at hN;generalize mi ((a::r).take i)=l at *;show{by change(-1000000:Int)<=(x.2:Int);lia,by change(x.2:Int)<=1000000;lia,?_};change dh _ _ _ _ (fk 0 ((x.2:Int)).toNat) _;rw[bQ,e8];show de (I:=λk=>{[KE (.v (spT (a::r))),KE (.v (agF a.1 (l++(bG k).map λv=>(x.1,v))).t),KE (.v (.v (.str x.1))),KE (.v (iT x.2)),MS],[MS]}) (by rw[List.range_zero,mR,bP];rfl) (λk y u g d=>?_) ?_
  ·have hk:=bf g;rw[bM]at hk;rw[cY hk]at g;cases g;rw[lW,bT,rD,<-dX,acu]at d;generalize agF a.1 (l++(bG k).map λv=>(x.1,v))=s at *;show{bg rfl,?_};show ix0 ?_;show{bg rfl,rfl,λc m=>?_};have n:c=decide ((x.1,k)=(a.1,0)):=X8 m ⟨λe=>by
     injection e with f b;injection b with b _;have f:x.1=a.1:=V.str.inj (Tr.v.inj f);have b:(k:Int)=0:=V.int.inj (Tr.v.inj b);rw[f,show k=0 by lia],λe=>by
     injection e with f b;rw[f,b];rfl⟩
   cases c with
   |true=>
    rw[MZ (of_decide_eq_true n.symm)]at d;show ie ?_;show d
   |false=>
    rw[M' (of_decide_eq_false n.symm)]at d;show{bg rfl,bg rfl,d}
  ·rw[bM];show hN
 ·rw[cW];show{bg rfl,q}
section
variable {ws:LW}
theorem Nq (b:Str):∀(l:LW)(s:Say) (i:Nat) (ns:AQ) (e:Nat),(l.foldl (agP b) s).S ws i ns e↔s.S ws i ns e\/∃p∈l,p≠(b,0)/\(Say.put p.1 (p.2:Int)).S ws i ns e
 | [],s,i,ns,e=>{.inl,λh=>h.elim id λ⟨p,g,_⟩=>nomatch g}
 |p::l,s,i,ns,e=>by
  rw[pV,Nq b l,agP];by_cases c:p=(b,0);{rw[MZ c];show or_congr_right ⟨λf=>by let{q,h1,a}:=f;show{q,aP _ h1,a},λf=>by let{q,h1,a,d}:=f;show{q,(aX.mp h1).resolve_left λz=>a (z.trans c),a,d}⟩};{rw[M' c];change((Say.put p.1 (p.2:Int)).S ws i ns e\/s.S ws i ns e)\/_↔_;constructor;{rintro((h | h) | ⟨q,h1,a⟩);{show .inr #v[p,aR,c,h]};{show .inl h};{show .inr {q,aP _ h1,a}}};{rintro(h | ⟨q,h1,a,d⟩);{show .inl (.inr h)};{rcases aX.mp h1 with rfl | h1;{show .inl (.inl d)};{show .inr #v[q,h1,a,d]}}}}
theorem D7 (a:Str):∀(l:LW)(s:Say) (z:Nat),Fit ws s z 0->(∀p∈l,∃k c,look ws p.1=KE (k,c)/\p.2<c)->Fit ws (l.foldl (agP a) s) (z+2*l.length) 0
 | [],s,z,h,_=>h
 |p::l,s,z,h,b=>by
  rw[pV,agP];have d:∀q∈l,∃k c,look ws q.1=KE (k,c)/\q.2<c:=λq e=>b q (aP _ e);by_cases c:p=(a,0);{rw[MZ c];show(D7 a l s z h d).up (by rw[aS];lia)};{rw[M' c];let{k,c,f,i}:=b p aR;have g:Fit ws (.put p.1 (p.2:Int)) 1 0:=Fit.put f () ();show(D7 a l _ (1+z+1) (g.either h) d).up (by rw[aS];lia)}
def Anys (ws:LW)(s:Say):Prop:=∀i,i<(LL ws).length->∀ns e,s.S ws i ns e↔ns=[]/\e<(LL ws).length
def Nr (h:Anys ws A)(j:LQ):mf ws (.both (.both A .note) A) 1 0 j:=λi hi ns e=>by
 unfold j6;rw[MZ rfl];constructor;{intro c;let{x,y,k,rfl,hk,{l,p,m,rfl,q,d,f,rfl},n}:=c;let{rfl,_}:=(h i hi l k).mp d;let{rfl,g}:=(h k hk y e).mp n;subst f;show{.inr rfl,λb a=>by rw[aN.mp a];show hk,g}};{intro c;let{d,f,g}:=c;let{b,rfl}:=jW.mp (d.resolve_left #v[]);have a:=f b (aN.mpr rfl);show{[b],[],b,rfl,a,{[],[b],b,rfl,a,(h i hi [] b).mpr #v[rfl,a],rfl,rfl},(h b a [] e).mpr #v[rfl,g]}}
def A4 {A B:Say}{m k:Nat}{a:LQ}(hA:mf ws A m k a)(hB:mf ws B m k a):mf ws (.either A B) m k a:=λi hi ns e=>by
 change(A.S ws i ns e\/B.S ws i ns e)↔_;rw[hA i hi,hB i hi,or_self]
def R6 {A B:Say}{m k:Nat}{a:LQ}(h:∀i,i<(LL ws).length->∀ns e,B.S ws i ns e↔A.S ws i ns e)(hA:mf ws A m k a):mf ws B m k a:=λi hi ns e=>(h i hi ns e).trans (hA i hi ns e)
def Jm {A d B f:Say}(hA:∀i,i<(LL ws).length->∀ns e,d.S ws i ns e↔A.S ws i ns e)(hB:∀i,i<(LL ws).length->∀ns e,f.S ws i ns e↔B.S ws i ns e):∀i,i<(LL ws).length->∀ns e,(Say.both d f).S ws i ns e↔(Say.both A B).S ws i ns e:=λi hi ns e=>
 ⟨λa=>by let{x,y,k,h0,hk,b,c}:=a;show{x,y,k,h0,hk,(hA i hi x k).mp b,(hB k hk y e).mp c},λa=>by let{x,y,k,h0,hk,b,c}:=a;show{x,y,k,h0,hk,(hA i hi x k).mpr b,(hB k hk y e).mpr c}⟩
def o6 (hA:∀i,i<(LL ws).length->∀ns e,A.S ws i ns e->e<(LL ws).length):∀i,i<(LL ws).length->∀ns e,(Say.both A .every).S ws i ns e↔A.S ws i ns e:=λi hi ns e=>by
 constructor;{intro a;let{x,y,k,rfl,hk,b,rfl,rfl}:=a;rw[bP];show b};{intro h;show{ns,[],e,(bP _).symm,hA i hi ns e h,h,rfl,rfl}}
end
abbrev wsX:LW:=[("x",4),("y",5)]
def okX:SpOk wsX:=⟨#v[],#v[],λw hw=>by
  rcases aX.mp hw with rfl | hw
  · decide
  · rw[aN.mp hw];decide⟩
def ndX:Nd wsX:=by decide +kernel
def lkX:look wsX "x"=KE (0,4):=ni ndX (j:=0) (w:=("x",4)) rfl
def lkY:look wsX "y"=KE (1,5):=ni ndX (j:=1) (w:=("y",5)) rfl
def A5:(LL wsX).length=20:=by rw[Mz];rfl
abbrev agX:Say:=.again (agF "x" (mi wsX))
def letX (h:l∈LL wsX):∃a b:Int,l=[a,b]/\0<=a/\a<4/\0<=b/\b<5:=by
 let{f,d}:=(letters_mem ..).mp h
 match l,f with
 | [a,b],_=>
  let{c,e,g,i}:=d 0 a rfl;cases e;let{c,e,j,m}:=d 1 b rfl;cases e;show#v[a,b,rfl,g,i,j,m]
def Hw {f:Str}{v:Nat}:(f,v)∈mi wsX↔(f="x"/\v<4)\/(f="y"/\v<5):=by
 unfold mi;rw[dJ,gO,dF,List.mem_map,List.mem_map];constructor;{rintro(⟨k,hk,e⟩ | ⟨k,hk,e⟩);{injection e with a b;subst a b;show .inl {rfl,bY.mp hk}};{injection e with a b;subst a b;show .inr {rfl,bY.mp hk}}};{rintro(⟨rfl,h⟩ | ⟨rfl,h⟩);{show .inl {v,bY.mpr h,rfl}};{show .inr {v,bY.mpr h,rfl}}}
def R7:Fit wsX (agF "x" (mi wsX)) 19 0:=D7 "x" (mi wsX) (.put "x" 0) 1 (Fit.put lkX #v[] #v[]) λp a=>by
 rcases Hw.mp (show(p.1,p.2)∈mi wsX from a)with⟨e,h⟩ | ⟨e,h⟩;{show{0,4,by rw[e];show lkX,h}};{show{1,5,by rw[e];show lkY,h}}
def putX (lk:look wsX f=KE (p,c))(i:Nat)(ns:AQ)(e:Nat):(Say.put f (v:Int)).S wsX i ns e↔ns=[]/\xo (LL wsX) p v i e:=by
 change(ns=[]/\(match look wsX f with | some (p,_)=>xo (LL wsX) p v i e | none=>False))↔_
 rw[lk]
def R8 {p c v:Nat}(lk:look wsX f=KE (p,c))(h:(f,v)∈mi wsX){i e:Nat}(q:xo (LL wsX) p v i e):(agF "x" (mi wsX)).S wsX i [] e:=by
 show(Nq "x" (mi wsX) (.put "x" 0) i [] e).mpr ?_;by_cases c:(f,v)=(("x":Str),0);{injection c with a b;subst a b;show .inl ((putX (v:=0) lk i [] e).mpr #v[rfl,q])};{show .inr {(f,v),h,c,(putX lk i [] e).mpr #v[rfl,q]}}
def aho {i:Nat}{ns:AQ}{e:Nat}(h:(agF "x" (mi wsX)).S wsX i ns e):ns=[]:=by
 rcases(Nq "x" (mi wsX) (.put "x" 0) i ns e).mp h with h | ⟨p,_,_,h⟩;{show h.1};{show h.1}
def alm:Anys wsX agX:=λi hi ns e=>by
 change g6 (LL wsX).length _ i ns e↔_;constructor
 ·intro h
  induction h with
  |refl=>show#v[rfl,hi]
  |@step i k e a b r hk t q=>
   cases aho r;show q hk
 ·intro s;let{rfl,n}:=s;have d:=aB hi;have g:=aB n;generalize (LL wsX)[i]=l at d;generalize (LL wsX)[e]=m at g;let{u,p,rfl,_,_,C,D}:=letX (aU d);let{f,j,rfl,w,x,E,G}:=letX (aU g);have y:[f,p]∈LL wsX:=xq (l:=[u,p]) (i:=0) (c:=4) (aU d) rfl w x;let{k,hk}:=kE.mp y;have z:=R8 (v:=f.toNat) lkX (Hw.mpr (.inl {rfl,()})) (i:=i) (e:=k) {_,d,by rw[show((f.toNat:Nat):Int)=f by lia];show hk};have A:=R8 (v:=j.toNat) lkY (Hw.mpr (.inr {rfl,()})) (i:=k) (e:=e) {_,hk,by rw[show((j.toNat:Nat):Int)=j by lia];show g};show g6.step (a:=[]) (b:=[]) z (bf hk) (g6.step (a:=[]) (b:=[]) A n .refl)
def R9:Anys wsX (pd wsX):=λi hi ns e=>Ku okX ndX hi ns e
abbrev xT:Tr:=.xc "TooGreat" (fs2 401 400)
def jc (C:MV):GP:=λds R=>j5 C ds (λ_=>R (.val (.v .non))) (R (.val xT))
def nj:GP:=λds R=>ds=[xT]/\R (.val (.v (.bl MT)))
section
variable {C:MV}{ws:LW}{s:Say}{a:LQ}{n z r:Nat}{D:List LJ}{R:Ev->Prop}{Rx:Prop}
def js (ok:SpOk ws)(F:Fit ws s z r)(hz:z<=1000)(b:r<6)(c:n<=50)(d:a∈LL ws)(e:kz (LL ws) s.rm (s.W ws) a (n+1)=D)(l:D.length<=400)(h:R (.new (.lst (D.map trT)))):j5 C [spT ws,s.t,tI a,iT ((n:Nat):Int)] R Rx:=
 {ws,s,a,n,rfl,ok,aV F.sz hz,F.good,by rw[F.rm];show b,c,d,λx=>by rw[e]at x;lia,λ_=>by rw[e];show h}
def A6 (ok:SpOk ws)(F:Fit ws s z r)(hz:z<=1000)(b:r<6)(c:n<=50)(d:a∈LL ws)(l:400<(kz (LL ws) s.rm (s.W ws) a (n+1)).length)(h:Rx):j5 C [spT ws,s.t,tI a,iT ((n:Nat):Int)] R Rx:=
 {ws,s,a,n,rfl,ok,aV F.sz hz,F.good,by rw[F.rm];show b,c,d,λ_=>h,λx=>()}
end
def Uy (c:0<=a)(d:a<4)(e:0<=b)(f:b<5):[a,b]∈LL wsX:=(letters_mem ..).mpr ⟨rfl,λi v h=>by
  match i,h with
  |0,h=>cases h;show{4,rfl,c,d}
  |1,h=>cases h;show{5,rfl,e,f}
  |i+2,h=>cases h⟩
def Nt (a:LQ)(b:c∈LL wsX):(dj (LL wsX) a 0 c 1).length=400:=by
 rw[zm (g8 _) b,A5];rfl
def moS:Nat->Say
 |0=>.both (.both (pd wsX) .note) (pd wsX)
 |k+1=>.either (moS k) (.put "x" (k:Int))
theorem Yy:∀k,k<=4->Fit wsX (moS k) (2*k+77) 1
 |0,_=>(((Bz okX ndX).both Fit.note).both (Bz okX ndX)).up ()
 |k+1,h=>((Yy k ()).either (Fit.put lkX () ())).up ()
theorem Yz:∀k i b e,i<(LL wsX).length->b<(LL wsX).length->e<(LL wsX).length->(moS k).S wsX i [b] e
 |0,i,b,e,hi,a,c=>(Nr R9 [] i hi [b] e).mpr {.inr rfl,λx d=>by rw[aN.mp d];show a,by unfold j6;rw[MZ rfl];show c}
 |k+1,i,b,e,hi,a,c=>.inl (Yz k i b e hi a c)
def tw:[0,0]∈LL wsX:=Uy #v[] #v[] #v[] #v[]
def nk:[1,2]∈LL wsX:=Uy #v[] #v[] #v[] #v[]
def aeb (h:[a,b]∈LL wsX)(h0:[0,b]∈LL wsX):(Say.put "x" 0).S wsX (ixL wsX [a,b]) [] (ixL wsX [0,b]):=(putX (v:=0) lkX _ _ _).mpr {rfl,[a,b],Bw h,Bw h0}
theorem Y0:∀k,(moS (k+1)).S wsX (ixL wsX [0,0]) [] (ixL wsX [0,0])
 |0=>.inr (aeb tw tw)
 |k+1=>.inl (Y0 k)
def B5 (C:MV):GS:=(bc (Tn (gOp (Ah MU) (aa 4) (gC (.v .non))) (gOp (eqG MU) (gCB ja (gaE (ar 4 (λds R=>j5 C ds R False) (gaV (aa 1) (gaV (aa 2) (gaV (gTup (gaV (gI 0) (gA1 (gI 0)))) (gA1 (gI 4)))))) gaN)) (gI 400))))
def B6 (C:MV):GS:=ak (sIf (gT (gOp (dw λi j=>.bl (decide (j<i))) (aa 0) (gI 0))) (bc (ar 1 nj (gA1 (aa 4)))) cy) (B5 C)
def B7 (C:MV):GS:=ak (ax 4 (ar 4 (jc C) (gaV (aa 1) (gaV (aa 2) (gaV (gTup (gaV (gI 0) (gA1 (gI 0)))) (gA1 (gI 4))))))) (B6 C)
def B8 (C:MV):GS:=ak (c8 [3] (giR (gA1 (aa 0))) (.one 3) (ax 2 (gTup (gaV (gS "either") (gaV (aa 2) (gA1 (gTup (gaV (gS "put") (gaV (gS "x") (gA1 (aa 3))))))))))) (B7 C)
def B9 (C:MV):GS:=ak (ax 2 (gTup (gaV (gS "then") (gaV (gTup (gaV (gS "then") (gaV (ar 1 j8 (gA1 (aa 1))) (gA1 (gTup (gA1 (gS "note"))))))) (gA1 (ar 1 j8 (gA1 (aa 1)))))))) (B8 C)
def D8 (C:MV):GS:=ak (ax 1 (gTup (gaV (gTup (gaV (gS "x") (gA1 (gI 4)))) (gA1 (gTup (gaV (gS "y") (gA1 (gI 5)))))))) (B9 C)
def kf:GP:=λds R=>∃k:Nat,ds=[iT k]/\k<=4/\R (.val (.v (.bl MT)))
def D9:Pm (D8 C) 5 1 1 (kf):=by
 intro ds R b h;let{k,rfl,hk,q}:=h;show{bg rfl,bg rfl,bg rfl,?_};show{rfl,wsX,rfl,okX,?_};show{bg rfl,bg rfl,?_};show{rfl,wsX,rfl,okX,?_};show{bg rfl,?_};show{by change(-1000000:Int)<=(k:Int);lia,by change(k:Int)<=1000000;lia,?_};change dh _ _ _ _ (fk 0 ((k:Int)).toNat) _;rw[bQ,e8];show de (I:=λi=>{[KE (.v (iT k)),KE (.v (spT wsX)),KE (.v (moS i).t),MS,MS],[MS]}) rfl (λi y N a hN=>?_) ?_;{have hi:=bf a;rw[bM]at hi;rw[cY hi]at a;cases a;show{bg rfl,bg rfl,hN}}
 rw[bM];have F:=Yy k hk;show{bg rfl,rfl,?_};cases k with
 |zero=>
  have b:(dj (LL wsX) [0,0] 0 [0,0] 1).length=400:=Nt _ tw;have e:kz (LL wsX) (moS 0).rm ((moS 0).W wsX) [0,0] (4+1)=dj (LL wsX) [0,0] 0 [0,0] 1:=by
   show(By (s:=moS 0) (Nr R9 [0,0]) tw tw 4).trans ?_;change[1].flatMap _=_;rw[gO]
  generalize dj (LL wsX) [0,0] 0 [0,0] 1=D at *;show js (n:=4) okX F () () () tw e () ?_;show ie ?_;show{bg rfl,rfl,?_};show js (n:=4) okX F () () () tw e () ?_;show{rfl,?_};change R (.val (.v (.bl (decide (V.int ((D.map trT).length:Int)=V.int 400)))));rw[aC,b];show q
 |succ k=>
  show A6 (n:=4) okX F () () () tw (R0 tw A5 (Yz (k+1)) tw (Y0 k) ()) ?_;change if decide ((0:Int)<((k+1:Nat):Int))=MT then _ else _
  show ifY (NB ()) ?_;show#v[rfl,rfl,q]
abbrev k6:Say:=.both (.both agX .note) agX
abbrev yb:Say:=.either k6 k6
abbrev k7:Say:=ma wsX
abbrev Ea:Say:=.either k7 (.both k7 .every)
def wk:Fit wsX k6 43 1:=((R7.again.both Fit.note).both R7.again)
def Nu:Fit wsX yb 87 2:=wk.either wk
def ym:Fit wsX k7 39 1:=qc okX ndX
def Y1:Fit wsX Ea 81 2:=ym.either (ym.both Fit.every)
def yn:mf wsX k6 1 0 [1,2]:=Nr alm [1,2]
def Fu:∀i,i<(LL wsX).length->∀ns e,Ea.S wsX i ns e↔k7.S wsX i ns e:=λi hi ns e=>by
 change(k7.S wsX i ns e\/(Say.both k7 .every).S wsX i ns e)↔_;rw[o6 (A:=k7) (λi hi ns e h=>((ux okX ndX hi ns e).mp h).2) i hi ns e,or_self]
def Uz:mf wsX (.both k7 k7) 2 3 [1,2]:=λi hi ns e=>by
 show(Kv okX ndX 1 hi ns e).trans ?_;unfold j6;rw[M' #v[],M' #v[],M' #v[]];show{λh=>{.inr h.1,h.2},λh=>{h.1.resolve_left #v[],h.2}}
def aln:∀s∈[k6,yb,.either k6 yb,.either yb k6],mf wsX s 1 0 [1,2]/\∃r,r<6/\Fit wsX s 200 r:=λs hs=>by
 have l2:mf wsX yb 1 0 [1,2]:=A4 yn yn;rcases aX.mp hs with rfl | hs;{show{yn,1,#v[],wk.up #v[]}}
 rcases aX.mp hs with rfl | hs;{show{l2,2,#v[],Nu.up #v[]}}
 rcases aX.mp hs with rfl | hs;{show{A4 yn l2,3,#v[],(wk.either Nu).up #v[]}}
 rw[aN.mp hs];show{A4 l2 yn,3,#v[],(Nu.either wk).up #v[]}
def then3:∀s∈[Say.both k7 k7,.both k7 Ea,.both Ea k7],mf wsX s 2 3 [1,2]/\∃r,r<6/\Fit wsX s 200 r:=λs hs=>by
 rcases aX.mp hs with rfl | hs;{show{Uz,2,#v[],(ym.both ym).up #v[]}}
 rcases aX.mp hs with rfl | hs;{show{R6 (Jm (λ_ _ _ _=>kS) Fu) Uz,3,#v[],(ym.both Y1).up #v[]}}
 rw[aN.mp hs];show{R6 (Jm Fu λ_ _ _ _=>kS) Uz,3,#v[],(Y1.both ym).up #v[]}
def ahp:400<(kz (LL wsX) (Say.either k6 (.either k6 (.put "x" 0))).rm ((Say.either k6 (.either k6 (.put "x" 0))).W wsX) [1,2] (1+1)).length:=
 R0 (s:=Say.either k6 (.either k6 (.put "x" 0))) nk A5 (λi b e hi a c=>aM ((yn i hi [b] e).mpr {.inr rfl,λx d=>by rw[aN.mp d];show a,by unfold j6;rw[MZ rfl];show c})) (l:=[0,2]) (Uy #v[] #v[] #v[] #v[]) (eW (eW (aeb nk (Uy #v[] #v[] #v[] #v[])))) #v[]
def acx:(dj (LL wsX) [1,2] 3 [1,2] 2).length=400:=by
 rw[zm (g8 _) nk,A5];rfl
def Nv (n:Nat)(a b:LJ):iy (n+2) (trT a) (trT b)=MT:=Mu n a b
def Hx (C:MV):GS:=(bc (Tn (gOp (eqG MU) (gCB ja (gaE (aa 2) gaN)) (gI 400)) (ar 1 nj (gA1 (ar 4 (jc C) (gaV (aa 0) (gaV (aa 8) (gaV (gTup (gaV (gI 1) (gA1 (gI 2)))) (gA1 (gI 1))))))))))
def J3 (C:MV):GS:=ak (ax 8 (gTup (gaV (gS "either") (gaV (aa 1) (gA1 (gTup (gaV (gS "either") (gaV (aa 1) (gA1 (gTup (gaV (gS "put") (gaV (gS "x") (gA1 (gI 0)))))))))))))) (Hx C)
def J4 (C:MV):GS:=ak (c8 [4] (giL (gLst (gaV (gTup (gaV (gS "then") (gaV (aa 5) (gA1 (aa 5))))) (gaV (gTup (gaV (gS "then") (gaV (aa 5) (gA1 (aa 6))))) (gA1 (gTup (gaV (gS "then") (gaV (aa 6) (gA1 (aa 5)))))))))) (.one 4) (sIf (gOr (gT (gOp (Ah MT) (ar 4 (jc C) (gaV (aa 0) (gaV (aa 4) (gaV (gTup (gaV (gI 1) (gA1 (gI 2)))) (gA1 (gI 2)))))) (gC (.v .non)))) (gT (gOp (eqG MT) (ar 4 (λds R=>j5 C ds R False) (gaV (aa 0) (gaV (aa 4) (gaV (gTup (gaV (gI 1) (gA1 (gI 2)))) (gA1 (gI 2)))))) (aa 7)))) (bc (gC (.v (.bl MU)))) cy)) (J3 C)
def J5 (C:MV):GS:=ak (ax 7 (ar 5 qz (gaV (ar 1 jo (gA1 (aa 0))) (gaV (gTup (gaV (gI 1) (gA1 (gI 2)))) (gaV (gLst (gA1 (gI 2))) (gaV (gI 3) (gA1 (gTup (gaV (gI 1) (gA1 (gI 2))))))))))) (J4 C)
def J7 (C:MV):GS:=ak (ax 6 (gTup (gaV (gS "either") (gaV (aa 5) (gA1 (gTup (gaV (gS "then") (gaV (aa 5) (gA1 (gTup (gA1 (gS "all")))))))))))) (J5 C)
def J8 (C:MV):GS:=ak (ax 5 (gTup (gaV (gS "then") (gaV (ar 1 j8 (gA1 (aa 0))) (gA1 (gTup (gA1 (gS "note")))))))) (J7 C)
def J9 (C:MV):GS:=ak (c8 [4] (giL (gLst (gaV (aa 1) (gaV (aa 3) (gaV (gTup (gaV (gS "either") (gaV (aa 1) (gA1 (aa 3))))) (gA1 (gTup (gaV (gS "either") (gaV (aa 3) (gA1 (aa 1))))))))))) (.one 4) (sIf (gOr (gT (gOp (Ah MT) (ar 4 (jc C) (gaV (aa 0) (gaV (aa 4) (gaV (gTup (gaV (gI 1) (gA1 (gI 2)))) (gA1 (gI 1)))))) (gC (.v .non)))) (gT (gOp (eqG MT) (ar 4 (λds R=>j5 C ds R False) (gaV (aa 0) (gaV (aa 4) (gaV (gTup (gaV (gI 1) (gA1 (gI 2)))) (gA1 (gI 1)))))) (aa 2)))) (bc (gC (.v (.bl MU)))) cy)) (J8 C)
def Ka (C:MV):GS:=ak (ax 3 (gTup (gaV (gS "either") (gaV (aa 1) (gA1 (aa 1)))))) (J9 C)
def Kb (C:MV):GS:=ak (ax 2 (ar 5 qz (gaV (ar 1 jo (gA1 (aa 0))) (gaV (gTup (gaV (gI 1) (gA1 (gI 2)))) (gaV (gLst (gA1 (gI 1))) (gaV (gI 0) (gA1 (gTup (gaV (gI 1) (gA1 (gI 2))))))))))) (Ka C)
def Kc (C:MV):GS:=ak (ax 1 (gTup (gaV (gS "then") (gaV (gTup (gaV (gS "then") (gaV (ar 1 j9 (gA1 (aa 0))) (gA1 (gTup (gA1 (gS "note"))))))) (gA1 (ar 1 j9 (gA1 (aa 0)))))))) (Kb C)
def Nw (C:MV):GS:=ak (ax 0 (gTup (gaV (gTup (gaV (gS "x") (gA1 (gI 4)))) (gA1 (gTup (gaV (gS "y") (gA1 (gI 5)))))))) (Kc C)
def wm:GP:=λds R=>ds=[]/\R (.val (.v (.bl MT)))
def Nx:Pm (Nw C) 9 1 0 (wm):=by
 intro ds R D h;let{rfl,q}:=h;show{bg rfl,bg rfl,bg rfl,?_};show{rfl,("x",4),[("y",5)],rfl,okX,?_};show{bg rfl,bg rfl,?_};show{rfl,("x",4),[("y",5)],rfl,okX,?_};show{bg rfl,?_};show{rfl,wsX,rfl,okX,?_};show{bg rfl,bg rfl,bg rfl,?_};have l1:(dj (LL wsX) [1,2] 0 [1,2] 1).length=400:=Nt _ nk;have l2:=acx;have w:1<=(LL wsX).length:=(by rw[A5];decide);have x:(LL wsX).length<=300:=(by rw[A5];decide);have f:[1].flatMap (dj (LL wsX) [1,2] 0 [1,2])=dj (LL wsX) [1,2] 0 [1,2] 1:=gO ..;have g:[2].flatMap (dj (LL wsX) [1,2] 3 [1,2])=dj (LL wsX) [1,2] 3 [1,2] 2:=gO ..;show{rfl,LL wsX,[1,2],[1],0,[1,2],rfl,#v[],N71.LL_up _,w,x,λj l=>by rw[aN.mp l,A5];show{#v[],.inr #v[]},by rw[f,l1];decide,?_};rw[f];have y:∀s,mf wsX s 1 0 [1,2]->kz (LL wsX) s.rm (s.W wsX) [1,2] (1+1)=dj (LL wsX) [1,2] 0 [1,2] 1:=λs a=>(By a nk nk 1).trans f;have z:∀s,mf wsX s 2 3 [1,2]->kz (LL wsX) s.rm (s.W wsX) [1,2] (2+1)=dj (LL wsX) [1,2] 3 [1,2] 2:=λs a=>(By a nk nk 2).trans g;generalize dj (LL wsX) [1,2] 0 [1,2] 1=b at *;show{bg rfl,?_};show{bg rfl,bg rfl,bg rfl,?_};change dh _ _ _ _ ([k6,yb,.either k6 yb,.either yb k6].map Say.t) _;show de (I:=λ_=>{[KE (.v (spT wsX)),KE (.v k6.t),KE (.v (.lst (b.map trT))),KE (.v yb.t),MS,MS,MS,MS,MS],[MS]}) rfl (λi s N a hN=>?_) ?_;{let{m,r,d,F}:=aln s (aU a);have e:=y s m;show{bg rfl,rfl,?_};show js (n:=1) okX F #v[] d #v[] nk e () ?_;show{bg rfl,rfl,?_};show js (n:=1) okX F #v[] d #v[] nk e () ?_;show{Bv (Nv 37) b b,λc p=>?_};cases p.mpr rfl;show ie ?_;show hN}
 show{rfl,wsX,rfl,okX,?_};show{bg rfl,bg rfl,?_};show{bg rfl,bg rfl,bg rfl,?_};show{rfl,wsX,rfl,okX,?_};show{bg rfl,bg rfl,bg rfl,?_};show{rfl,LL wsX,[1,2],[2],3,[1,2],rfl,#v[],N71.LL_up _,w,x,λj l=>by rw[aN.mp l,A5];show{#v[],.inr #v[]},by rw[g,l2];decide,?_};rw[g];generalize dj (LL wsX) [1,2] 3 [1,2] 2=u at *;show{bg rfl,bg rfl,bg rfl,bg rfl,?_};change dh _ _ _ _ ([Say.both k7 k7,.both k7 Ea,.both Ea k7].map Say.t) _;show de (I:=λ_=>{[KE (.v (spT wsX)),KE (.v k6.t),KE (.v (.lst (b.map trT))),KE (.v yb.t),MS,KE (.v k7.t),KE (.v Ea.t),KE (.v (.lst (u.map trT))),MS],[MS]}) rfl (λi s N a hN=>?_) ?_;{let{m,r,d,F}:=then3 s (aU a);have e:=z s m;show{bg rfl,rfl,?_};show js (n:=2) okX F #v[] d #v[] nk e () ?_;show{bg rfl,rfl,?_};show js (n:=2) okX F #v[] d #v[] nk e () ?_;show{Bv (Nv 37) u u,λc p=>?_};cases p.mpr rfl;show ie ?_;show hN}
 have A:((b.map trT).length:Int)=400:=(by rw[aC,l1];rfl);show{bg rfl,bg rfl,bg rfl,?_};show{rfl,?_};change if decide (V.int ((b.map trT).length:Int)=V.int 400)=MT then _ else _
 show ifY (NB (by rw[A])) ?_;show{bg rfl,rfl,?_};show A6 (n:=1) okX ((wk.either (wk.either (Fit.put lkX #v[] #v[]))).up (by decide:_<=200)) #v[] #v[] #v[] nk ahp #v[rfl,rfl,q]
theorem Jn {b:Type}{F:Nat->List b}{c:Nat->Nat}{z:Nat}(h0:(F 0).length=z)(a:∀j,(F (j+1)).length=c (j+1)):∀(l:AQ),l.Nodup->(l.flatMap F).length=((l.filter λj=>decide (0<j)).map c).sum+if 0∈l then z else 0
 | [],_=>rfl
 |j::l,nd=>by
  rw[fS]at nd;rw[dJ,aH,Jn h0 a l nd.2];cases j with
  |zero=>
   rw[oQ #v[],M' nd.1,MZ aR,h0];lia
  |succ j=>
   rw[oP (by show NB (Nat.succ_pos j)),bV,uI,a];by_cases c:0∈l;{rw[MZ c,MZ (aP _ c)];lia};{rw[M' c,M' (λz=>(aX.mp z).elim (λz=>by cases z) c)];lia}
def Eb {a n j:Nat}(h:j∈ij a n):j<=n:=by
 have:=bY.mp (dE.mp h).1;lia
def ahq (a n:Nat):(ij a n).Nodup:=List.nodup_range.filter _
def alo {L j kind:Nat}(a:L<=24)(c:j<=4):qw L j kind<=1000000000:=by
 have p:∀t,t<=5->L ^ t<=1000000000:=λt b=>by
  have d:L ^ t<=24 ^ t:=Nat.pow_le_pow_left a t;have e:24 ^ t<=24 ^ 5:=kO #v[] b;have f:24 ^ 5<=1000000000:=#v[];lia
 unfold qw
 split;{show eQ _};{split;{show p _ ()};{split;{show p _ ()};{show p _ ()}}}
def ahr (b:1<=L)(c:L<=24)(hk:kind<4)(a:qw L (j+1) kind<=400):kind=1\/L ^ (j+1)<=10000:=by
 unfold qw at a;by_cases k1:kind=1;{show .inl k1};rw[M' k1]at a;show .inr ?_;by_cases k0:kind=0;{rw[MZ k0]at a;have:=kO b (show j+1<=j+1+1 by lia);lia}
 rw[M' k0]at a;by_cases k2:kind=2;{rw[MZ k2,rB]at a;have:=oN a c;rw[lA];lia};{rw[M' k2]at a;lia}
theorem Sa {a:Type}{F:Nat->List a}:∀{l:AQ}{j:Nat},j∈l->(F j).length<=(l.flatMap F).length
 |k::l,j,h=>by
  rw[dJ,aH];rcases aX.mp h with rfl | h;{show sM _ _};{show aV (Sa h) (Nat.le_add_left _ _)}
def aec {ls:LJ}{v:Int}(h0:0<=v)(a:v<((ls.map tI).length:Int)):∃x∈ls,atI (ls.map tI) v=KE (tI x):=by
 rw[aC]at a;have hk:v.toNat<ls.length:=();have b:v=((v.toNat:Nat):Int):=();have q:atI (ls.map tI) ((v.toNat:Nat):Int)=KE (tI ls[v.toNat]):=bt (by rw[aW,aB hk];rfl);rw[<-b]at q;show{_,iH hk,q}
def Sb {a:LW}(ok:SpOk a):1<=(LL a).length:=by
 rw[Mz];have:∀l:AQ,(∀c∈l,1<=c)->1<=prd l:=λl=>by
  induction l with
  |nil=>intro _;show aI _
  |cons c l b=>
   intro h;show oN (h c aR) (b λd hd=>h d (aP _ hd))
 show this _ λc e=>?_;let{w,hw,rfl}:=bE.mp e;show(ok.cnt w hw).1
def g_law:GP:=λds R=>∃ns:LQ,ds=[.scr (ns.map iT)]/\R (.val (.v (.bl MT)))
abbrev r12t (C:MV):GS:=(ak (ax 13 (ar 4 (jc C) (gaV (aa 1) (gaV (aa 9) (gaV (aa 4) (gA1 (aa 10))))))) (sIf (gT (gOp (dw λi j=>.bl (decide (j<i))) (aa 12) (gI 400))) (sIf (Gs (ku (ar 1 nj (gA1 (aa 13))))) (bc (gC (.v (.bl MU)))) cy) (sIf (gT (gOp (Ah MT) (aa 13) (gC (.v .non)))) (bc (gC (.v (.bl MU)))) (sIf (gT (gOp (eqG MT) (ar 4 (λds R=>j5 C ds R False) (gaV (aa 1) (gaV (aa 9) (gaV (aa 4) (gA1 (aa 10)))))) (ar 5 qz (gaV (aa 2) (gaV (aa 4) (gaV (aa 11) (gaV (aa 7) (gA1 (aa 5))))))))) (bc (gC (.v (.bl MU)))) cy))))
def ahs (C:MV):GS:=(bc (gC (.v (.bl MT))))
def aht (C:MV):GS:=ak (c8 [10,11,12,13] (giR (gA1 (gI 5))) (.one 10) (ak (ax 11 (cu 1 [6] (giR (gA1 (gOp c5 (aa 10) (gI 1)))) (.one 0) (gOr (gT (gOp (eqG MU) (aa 1) (gI 0))) (gT (gOp (eqG MU) (aa 0) (aa 1)))) (aa 0))) (ak (ax 12 (gCB Tp (gaE (cu 1 [7,2] (giL (aa 11)) (.one 0) (gT (gOp (dw λi j=>.bl (decide (j<i))) (aa 0) (gI 0))) (ar 3 tj (gaV (aa 2) (gaV (aa 0) (gA1 (aa 1)))))) gaN))) (ak (sIf (gT (gOp (inG MU) (gI 0) (aa 11))) (ax 12 (gOp c5 (aa 12) (gCB ja (gaE (ar 4 om (gaV (aa 2) (gaV (gTup (gA1 (aa 4))) (gaV (aa 7) (gA1 (aa 5)))))) gaN)))) cy) (r12t C))))) (ahs C)
def Sd (C:MV):GS:=ak (ax 9 (ar 5 oy (gaV (aa 1) (gaV (aa 6) (gaV (aa 7) (gaV (aa 5) (gA1 (aa 8)))))))) (aht C)
def ahu (C:MV):GS:=ak (E8 [] (gAnd (gT (gOp (dw λi j=>.bl (decide (j<i))) (aa 8) (gI 0))) (gT (gOp (dw λi j=>.bl (decide (j<i))) (ar 1 g__law_parts (gA1 (ar 5 oy (gaV (aa 1) (gaV (aa 6) (gaV (aa 7) (gaV (aa 5) (gA1 (aa 8))))))))) (gI 120)))) (ax 8 (gOp (dw λi j=>.int (i-j)) (aa 8) (gI 1)))) (Sd C)
def alq (C:MV):GS:=ak (ax 8 (iz 2 0 dz (gaE (aa 3) (gA1 (gI 3))))) (ahu C)
def alr (C:MV):GS:=ak (ax 7 (iz 2 0 dz (gaE (aa 3) (gA1 (gI 4))))) (alq C)
def als (C:MV):GS:=ak (ax 6 (iz 2 0 dz (gaE (aa 3) (gA1 (gI 4))))) (alr C)
def alu (C:MV):GS:=ak (ax 5 (gX (aa 2) (iz 2 0 dz (gaE (aa 3) (gA1 (gCB ja (gaE (aa 2) gaN))))))) (als C)
def alv (C:MV):GS:=ak (ax 4 (gX (aa 2) (iz 2 0 dz (gaE (aa 3) (gA1 (gCB ja (gaE (aa 2) gaN))))))) (alu C)
def alw (C:MV):GS:=ak (sIf (gOr (Gs (ku (ar 1 kf (gA1 (gI 0))))) (Gs (ku (ar 1 kf (gA1 (gOp c5 (gI 1) (iz 2 0 dz (gaE (aa 3) (gA1 (gI 4)))))))))) (bc (gC (.v (.bl MU)))) cy) (alv C)
def alx (C:MV):GS:=ak (ic 3 0 (ar 1 qr (gA1 (ar 2 tu (gaV (aa 0) (gA1 (gI 1))))))) (alw C)
def aly (C:MV):GS:=ak (ax 2 (ar 1 jo (gA1 (aa 1)))) (alx C)
def alz (C:MV):GS:=ak (ax 1 (ar 2 uo (gaV (ar 2 tu (gaV (aa 0) (gA1 (gI 0)))) (gA1 (gI 1))))) (aly C)
def b_law (C:MV):GS:=ak (sIf (Gs (ku (ar 0 wm gaN))) (bc (gC (.v (.bl MU)))) cy) (alz C)
abbrev lwM (ns:LQ)(ws:LW)(g la:LQ)(mn kd:Nat)(a b z:Int)(w9 GC GF GG w13:Option Wt):M:={[KE (.v (.scr (ns.map iT))),KE (.v (spT ws)),KE (.v (ltT (LL ws))),KE (.c 1),KE (.v (tI g)),KE (.v (tI la)),KE (.v (iT mn)),KE (.v (iT kd)),KE (.v (iT z)),w9,GC,GF,GG,w13],[MS,KE (My a b)]}
def held {C:MV}{ns:LQ}{f:LW}{g l:LQ}{i kd n r:Nat}{a b z w:Int}{s:Say}{E:wt}(ok:SpOk f)(le:(LL f).length<=24)(m:g∈LL f)(q:l∈LL f)(u:kd<4)(J:n<5)(F:Fit f s 160 r)(L:r<=3)(G:mf f s i kd l)
  (hw:w=(((ij i n).flatMap (dj (LL f) g kd l)).length:Int)) (h:∀d:Tr,E.nx (lwM ns f g l i kd a b z (KE (.v s.t)) (KE (.v (iT n))) (KE (.v (nT (ij i n)))) (KE (.v (iT w))) (KE (.v d)))) :
  r12t C E (lwM ns f g l i kd a b z (KE (.v s.t)) (KE (.v (iT n))) (KE (.v (nT (ij i n)))) (KE (.v (iT w))) MS):=by
 have e:=By G m q n;have x:=Sb ok;have H:((ij i n).flatMap (dj (LL f) g kd l)).length<=400->∀j∈ij i n,j<=10/\(kd=1\/(LL f).length ^ j<=10000):=λhz j y=>by
  have N:=Eb y;show{(),?_};cases j with
  |zero=>show .inr (by rw[uY];decide)
  |succ j=>
   have:=Sa (F:=dj (LL f) g kd l) y;rw[zm (g8 _) q]at this;show ahr x le u (aV this hz)
 generalize A:((ij i n).flatMap (dj (LL f) g kd l))=D at *;subst hw;show{rfl,?_};by_cases c:400<D.length
 ·show A6 ok F #v[] () () m (by rw[e];show c) ?_;change if decide ((400:Int)<(D.length:Int))=MT then _ else _
  show ifY (NB ()) ?_;show{rfl,rfl,?_};show ie ?_;show h _
 ·have p:D.length<=400:=();show js ok F #v[] () () m e p ?_;change if decide ((400:Int)<(D.length:Int))=MT then _ else _
  show ifN (NA ()) ?_;show{rfl,?_};show js ok F #v[] () () m e p ?_;show{rfl,LL f,g,ij i n,kd,l,rfl,u,N71.LL_up _,x,(),H p,by rw[A];lia,?_};rw[A];show{Bv (Nv 37) D D,λc I=>?_};cases I.mpr rfl;show ie ?_;show h _
def f_law {C:MV}:Pm (b_law C) 14 2 1 (g_law):=by
 intro ds R hl h;let{ns,rfl,q}:=h;show{rfl,rfl,?_};show ie ?_;show{rfl,ns,0,rfl,λx=>?_};show{rfl,x,1,rfl,#v[],#v[],λf ok wd pr _=>?_};have nd:=wd.nd;have le:(LL f).length<=24:=(by rw[Mz];show pr);have KC:=Sb ok;have ll:((LL f).map tI).length=(LL f).length:=aC ..;show{rfl,f,rfl,ok,?_};show{rfl,ns,1,rfl,λy=>?_};show{rfl,y,rfl,λa b E G=>?_};show{rfl,0,rfl,#v[],?_};show{rfl,_,_,_,rfl,rfl,E,G,#v[],#v[],λv a b A D E G=>?_};show{rfl,(1+v).toNat,by rw[show(((1+v).toNat:Nat):Int)=1+v by lia],(),?_};show ie ?_;clear A D;show{rfl,_,_,_,rfl,rfl,E,G,by change(0:Int)<(((LL f).map tI).length:Int);lia,by change(((LL f).map tI).length:Int)<1073741824;lia,λv a b A D E G=>?_};let{g,hg,e}:=aec A D;show bj e ?_;clear e A D;show{rfl,_,_,_,rfl,rfl,E,G,by change(0:Int)<(((LL f).map tI).length:Int);lia,by change(((LL f).map tI).length:Int)<1073741824;lia,λv a b A D E G=>?_};let{w,H,e}:=aec A D;show bj e ?_;clear e A D;have MO:w.length=f.length:=(by rw[(dt _).wide _ H,aC]);show{rfl,_,_,_,rfl,rfl,E,G,#v[],#v[],λv a b A D E G=>?_};obtain⟨u,rfl⟩:∃m:Nat,v=m:={v.toNat,()};have O:u<=3:=();clear A D;show{rfl,_,_,_,rfl,rfl,E,G,#v[],#v[],λv a b A D E G=>?_};obtain⟨kd,rfl⟩:∃m:Nat,v=m:={v.toNat,()};have J:kd<4:=();clear A D;show{rfl,_,_,_,rfl,rfl,E,G,#v[],#v[],λv a b A D E G=>?_};obtain⟨wy,rfl⟩:∃m:Nat,v=m:={v.toNat,()};have wy2:wy<=2:=();clear A D;have after:∀k:Nat,k<=2->Sd C {nx:=λm=>R (.val (.v .non)),rt:=Am R} (lwM ns f g w u kd a b k MS MS MS MS MS):=λk hk=>?_
 ·show{λk m=>k<=2/\m=lwM ns f g w u kd a b k MS MS MS MS MS,#v[wy,wy2,rfl],?_};intro k m wC;let{hk,rfl}:=wC;change if decide ((0:Int)<(k:Int))=MT then _ else _
  by_cases c:0<k
  ·show ifY (NB ()) ?_;let{r,_,F}:=R4 ok nd u kd H k O hk;show{rfl,f,u,kd,w,k,rfl,ok,MO,J,O,hk,?_};show{rfl,_,rfl,F.sz,#v[],?_};change if decide ((120:Int)<(((xy f u kd w k).size:Nat):Int))=MT then _ else _
   by_cases d:120<(xy f u kd w k).size;{show ifY (NB ()) ?_;obtain⟨k,rfl⟩:∃j,k=j+1:={k-1,()};show{λm=>m=lwM ns f g w u kd a b k MS MS MS MS MS,λm' hm=>{k,iC _,(),by rw[hm];rfl},?_};show NG (λz=>lwM ns f g w u kd a b z MS MS MS MS MS) (show(((k+1:Nat):Int)-1)=(k:Int)by lia)};{show ifN (NA ()) ?_;show after k hk}
  ·show ifN (NA ()) ?_;show after k hk
 let{r,hr,F}:=R4 ok nd u kd H k O hk;have hS:mf f (xy f u kd w k) u kd w:=λi hi ns e=>say_S ok nd u kd H k hi ns e;show{rfl,f,u,kd,w,k,rfl,ok,MO,J,O,hk,?_};generalize xy f u kd w k=s at *;show{#v[],#v[],?_};change dh _ _ _ _ (fk 0 5) _;rw[e8];show de (I:=λ_=>lwM ns f g w u kd a b k (KE (.v s.t)) MS MS MS MS) rfl (λn y N hy hN=>?_) ?_
 ·have Q:=bf hy;rw[bM]at Q;rw[cY Q]at hy;cases hy;show{by change(-1000000:Int)<=(n:Int)+1;lia,by change(n:Int)+1<=1000000;lia,?_};change cq _ _ _ _ _ _ _ (fk 0 ((n:Int)+1).toNat) _ _;rw[show((n:Int)+1).toNat=n+1 by lia,e8];show fw (p:=λj:Nat=>decide (u=0\/j=u)) (out:=λj:Nat=>iT (j:Int)) rfl _ _ (by change 0+_<=_;rw[bM];lia) (λj L Y Z T hZ=>?_) ?_;{show{rfl,?_};by_cases c:u=0;{show sfY (iY (j:=0) c) ?_;show T (NB (.inl c))};{show sfN (iN (j:=0) c) ?_;show{rfl,?_};by_cases d:j=u;{show sfY (iY d) ?_;show T (NB (.inr d))};{show sfN (iN d) ?_;show hZ (NA λz=>z.elim c d)}}}
  change cq _ _ _ _ _ _ _ ((ij u n).map λj:Nat=>iT (j:Int)) _ _;have nl:(ij u n).length<=5:=aV (iA _ _) (by rw[bM];lia);show fw (p:=λj:Nat=>decide (0<j)) (out:=λj:Nat=>iT ((qw (LL f).length j kd:Nat):Int)) rfl _ _ (by change 0+_<=_;lia) (λj L Y Z T hZ=>?_) ?_
  ·have jn:=Eb L;change if decide ((0:Int)<(j:Int))=MT then _ else _
   by_cases c:0<j;{show ifY (NB ()) ?_;show{rfl,LL f,j,kd,rfl,J,c,(),le,T (NB c)}};{show ifN (NA ()) ?_;show hZ (NA c)}
  have U:=Jn (F:=dj (LL f) g kd w) (c:=λj=>qw (LL f).length j kd) (Yt g w kd) (λj=>zm (g8 _) H kd j) (ij u n) (ahq u n);have sm:(((ij u n).filter λj=>decide (0<j)).map λj=>((qw (LL f).length j kd:Nat):Int)).sum=(((((ij u n).filter λj=>decide (0<j)).map λj=>qw (LL f).length j kd).sum:Nat):Int):=by
   induction ((ij u n).filter λj=>decide (0<j))with
   |nil=>rfl
   |cons x l ih=>rw[bV,bV,uI,uI,ih];lia
  show{((ij u n).filter λj=>decide (0<j)).map λj=>((qw (LL f).length j kd:Nat):Int),by rw[bR,dG];rfl,?_,λm hm=>?_,?_};{rw[aC];show aV (iA _ _) ()};{let{j,L,rfl}:=bE.mp hm;have:=alo (kind:=kd) le (show j<=4 by have:=Eb (dE.mp L).1;lia);generalize qw (LL f).length j kd=z at this;lia}
  rw[sm];show{λe he=>?_,λc hc=>?_};{let{j,_,rfl}:=bE.mp he;rfl}
  have ec:c=MT↔0∈ij u n:=hc.trans ⟨λh=>by
    let{j,L,e}:=bE.mp h;have:((j:Nat):Int)=0:=V.int.inj (Tr.v.inj e);rw[<-show j=0 by lia];show L,λh=>bE.mpr {0,h,rfl}⟩
  cases c with
  |true=>
   rw[MZ (ec.mp rfl)]at U;show{bg rfl,rfl,LL f,[],g,kd,w,rfl,J,λev HI=>?_};rcases HI with rfl | rfl
   all_goals show held ok le hg H J Q F hr hS (by rw[U];change _+(((gh (LL f) kd w g).map tI).length:Int)=_;rw[aC];lia) λd=>hN
  |false=>
   rw[M' (λz=>by cases ec.mpr z)]at U;show ie ?_;show held ok le hg H J Q F hr hS (by rw[U];lia) λd=>hN
 ·show q
end PB.N24
namespace VL
open PySem L2
section
variable {K:aE}{mg:Str->AK}{h:MW}
structure At (K:aE)(f:MV)(x q:Str)(st:MY):Prop where
 ex:∃fd,Fun K x q st f fd
def at_mk {f:MV}{x q:Str}{st:MY}{a:aL}{b d:Option MV}{e:Array AK}{kV g i cd ct:aL}(l:K.lookup f=KE {a,b,.func (fM x q (gx st) (ff st) (bb st) .none kV g i d cd ct),e})(c:kR K cd q=MT)(k:dH K (.ref f)=MT):At K f x q st:={_,V1 l c k}
structure Af (K:aE)(f:MV)(x:Str)(st:MY):Prop where
 ns:bS K bF x=KE (KE (.ref f))
 at_:At K f x x st
def af_mk {f:MV}{x:Str}{st:MY}{b:aL}{d e:Option MV}{g:Array AK}{kV i j cd ct:aL}(a:bS K bF x=KE (KE (.ref f)))(l:K.lookup f=KE {b,d,.func (fM x x (gx st) (ff st) (bb st) .none kV i j e cd ct),g})(c:kR K cd x=MT)(k:dH K (.ref f)=MT):Af K f x st:={a,at_mk l c k}
def yo (x q:Str)(st:MY)(ps:AZ):Nat->Prop
 |1=>∀kV f g i j ct a,pD (fM x q (gx st) (ff st) (bb st) .none kV f g i j ct) {[a],[]}=pure (ps.zip [a])
 |2=>∀kV f g i j ct a b,pD (fM x q (gx st) (ff st) (bb st) .none kV f g i j ct) {[a,b],[]}=pure (ps.zip [a,b])
 |3=>∀kV f g i j ct a b c,pD (fM x q (gx st) (ff st) (bb st) .none kV f g i j ct) {[a,b,c],[]}=pure (ps.zip [a,b,c])
 |4=>∀kV f g i j ct a b c d,pD (fM x q (gx st) (ff st) (bb st) .none kV f g i j ct) {[a,b,c,d],[]}=pure (ps.zip [a,b,c,d])
 |5=>∀kV f g i j ct a b c d e,pD (fM x q (gx st) (ff st) (bb st) .none kV f g i j ct) {[a,b,c,d,e],[]}=pure (ps.zip [a,b,c,d,e])
 |_=>False
def vb (F:Fun K x q st f fd)(b:yo x q st ps ps.length):Binds K fd ps []:=F.binds λkV i j l cd ct us m=>by
 rw[<-m]at b
 match us,b with
 | [a],b=>show b kV i j l cd ct a
 | [a,c],b=>show b kV i j l cd ct a c
 | [a,c,d],b=>show b kV i j l cd ct a c d
 | [a,c,d,e],b=>show b kV i j l cd ct a c d e
 | [a,c,d,e,g],b=>show b kV i j l cd ct a c d e g
theorem Af.fd (F:Af K f x st)(X:K.In h)(G:h.Ns bF mg)(b:autoParam (yo x x st ps ps.length) JV._auto_1):∃fd,Fd K mg x st ps f fd:=by
 let{fd,e}:=F.at_.ex;show{fd,e,eZ X G F.ns,vb e b}
def At.md (F:At K f x q st)(c:Cls K C)(a:bH K (.ref C) x=KE (KE (.ref f)))(i:iB K (.ref f)=MT)(b:autoParam (yo x q st ps ps.length) JV._auto_1):∃fd,Md K C x q st ps f fd:=by
 let{fd,e}:=F.ex;show{fd,e,c,#v[a,i,e.kp],vb e b}
def At.cd (F:At K f x q st)(X:K.In h)(G:h.Ns bF mg)(n:bS K bF y=KE (KE (.ref C)))(ga:jM K (.ref C) "__getattribute__"=KE (KE (.builtin "type.__getattribute__")))(rd:lX K C (.type "type")=MT)
  (fc:lY K (.ref C) (.type "type") x=KE (.val (.ref f))) (b:autoParam (yo x q st ps ps.length) JV._auto_1):∃fd,Cd K mg y x q st ps C f fd:=by
 let{fd,e}:=F.ex;show{fd,e,#v[ga,rd,fc,e.kp],eZ X G n,vb e b}
def At.kd (F:At K f "__init__" q st)(X:K.In h)(G:h.Ns bF mg)(n:bS K bF y=KE (KE (.ref C)))(mk:pQ K C=MT)(a:bH K (.ref C) "__init__"=KE (KE (.ref f)))(i:iB K (.ref f)=MT)(kp:dH K (.ref C)=MT)
  (b:autoParam (yo "__init__" q st ps ps.length) JV._auto_1):∃fd,Kd K mg y q st ps C f fd:=by
 let{fd,e}:=F.ex;show{fd,e,#v[mk,a,i,kp],eZ X G n,vb e b}
def Ec {its:BW}{ss:AZ}(X:K.In h)(G:h.Ns bF mg)(e:bS K bF x=KE (KE (.ref a)))(l:K.lookup a=KE {.type "tuple",c,.seq its n,d})(z:its.size<=1000)(r:Vals (ss.map V.str) its.toList) :
  Gc #v[P,w,K] mg x (.tup (ss.map λs=>.v (.str s))):=by
 show{.ref a,.ref a,eZ X G e,rfl,λF=>.tup (afa l rfl rfl (aV z #v[]) r) ?_};clear r
 induction ss with
 |nil=>show .nil
 |cons s ss b=>show .cons (.v rfl) b
def bl_mk (X:K.In h)(G:h.Ns bF mg)(b:∀x∈(ZY:AZ),bS K bF x=KE MS):Bl mg:=by
 have n:∀x∈(ZY:AZ),mg x=MS:=λx p=>PySem.W.mg_none_of X G (b x p);simp only[List.forall_mem_cons,dS,false_implies,implies_true,and_true]at n;let{q,r,s,u,w,y,z,A,C,a,c,d,e,f,g,i,j,l,m}:=n;show#v[q,r,s,u,w,y,z,A,C,a,c,d,e,f,g,i,j,l,m]
end
section
variable {P:aQ}{w:bC}{K:aE}{mg:Str->AK}{base:MW}
def Fd.go (F:Fd K mg x st ps f fd)(k nc:Nat)(N:AZ)(g:GS)(a:Pm g N.length nc ps.length b)(c:N.Nodup->Rdx P w K mg base N x st f k g)(S:autoParam (cz N ps (bb st)) JJ._auto_1):Fo P w K mg base (k+1) x ps (spP #v[P,w,K] ps.length b):=vf F S (c S.nd) a
def Fd.goL (F:Fd K mg x st ps f fd)(k nc:Nat)(N:AZ)(g:GS)(a:Pm g N.length nc ps.length b)(c:N.Nodup->Rdx P w K mg base N x st f k g)(S:autoParam (cz N ps (bb st)) JJ._auto_1):fq P w K mg base CX0 (k+1) f fd ps (spP #v[P,w,K] ps.length b):=fn_g F.fn S (c S.nd) a
def Fd.goR (F:Fd K mg x st ps f fd)(p k nc:Nat)(N:AZ)(g:GS)(a:Pr p g N.length nc ps.length b)(c:N.Nodup->Rdx P w K mg base N x st f k g)(S:autoParam (cz N ps (bb st)) JJ._auto_1):Fo P w K mg base (k+1) x ps (spR #v[P,w,K] ps.length p b):=vfr F S (c S.nd) a
def Md.go (F:Md K C x q st ps f fd)(k nc:Nat)(N:AZ)(g:GS)(a:Pm g N.length nc ps.length b)(c:N.Nodup->Rdx P w K mg base N q st f k g)(S:autoParam (cz N ps (bb st)) JJ._auto_1):Mo P w K mg base (k+1) C x ps (spP #v[P,w,K] ps.length b):=vfm F S (c S.nd) a
def Cd.go (F:Cd K mg y x q st ps C f fd)(p k nc:Nat)(N:AZ)(g:GS)(a:Pr p g N.length nc ps.length b)(c:N.Nodup->Rdx P w K mg base N q st f k g)(S:autoParam (cz N ps (bb st)) JJ._auto_1):Co P w K mg base (k+1) y x ps (spR #v[P,w,K] ps.length p b):=vfc F S (c S.nd) a
def Kd.go (F:Kd K mg x q st ps C f fd)(p k nc:Nat)(N:AZ)(g:GS)(a:Pr p g N.length nc ps.length b)(c:N.Nodup->Rdx P w K mg base N q st f k g)(S:autoParam (cz N ps (bb st)) JJ._auto_1):Ko P w K mg base (k+1) x C ps (spR #v[P,w,K] ps.length p b):=vfk F S (c S.nd) a
end
theorem Se:∀ns:LQ,Rps b F (ns.map V.int) (ns.map λi=>Tr.v (.int i))
 | []=>.nil
 |_::ns=>.cons (.v rfl) (Se ns)
def Y2 {ns:LQ}(f:∀R:Ev->Prop,R (.val (.v (.bl MT)))->g [.scr (ns.map λi=>Tr.v (.int i))] R)(l:SqL b.K H a (ns.map V.int)):spP b 1 g [.ref a] H (λv _=>v=.bl MT) λ_ _ _=>False:=
 {rfl,{H,H,λ_=>MS},[.scr (ns.map λi=>Tr.v (.int i))],λc=>c=.val (.v (.bl MT)),rfl,{λ_ _ e=>e,λj d e=>by simp at e,λ_ _ e=>(nomatch e),λ_ _ _ e=>(nomatch e)},.cons (.scr l (Se ns)) .nil,f _ rfl,λc m x e _ _ _ r=>by subst e;show(Rp.vI r).1}
def law_walk {l:oZ}{n k:Nat}{e:AZ}{j:(Str->AK)->MW->Prop}{c:bC->MW->Prop}{d:DefRec}{K:Params->aE}(m:l.most=KE n)(p:d.params.defaults=[])(r:∀(w:bC)(h:MW),c w h->(K w.params).In h)(hz:n<=1000)(y:Room k qQ)
  (A:∀ns:LQ,ns.length<=n->∀R:Ev->Prop,R (.val (.v (.bl MT)))->g [.scr (ns.map λi=>Tr.v (.int i))] R)
  (F:∀(w:bC)(mg:Str->AK) (fa:MV) (h:MW),(K w.params).In h->h.Ns bF mg->mg d.name=KE (.ref fa)->∃fd:gG,(∀(s:aG)(u:aL),rP s fd {[u],[]} [(x,u)])/\∀base:MW,(K w.params).In base->base.Ns bF mg->fq l.prog w (K w.params) mg base CX0 k fa fd [x] (spP {l.prog,w,K w.params} 1 g)) :
  PySem.W.WalkO q e j c l.row.toRowW d [] (λf vs=>vT f vs):=
 L2.walk_of (n:=n) (k:=k) (x:=x) (CX:=λ_=>CX0) (sp:=λw=>spP {l.prog,w,K w.params} 1 g) m (aV hz #v[]) p y r F (λw _ a ns C _ D=>Y2 (b:={l.prog,w,K w.params}) (A ns C) D) λ_ _ _ _ _ z=>z
def Af.law (F:Af K f x st)(X:K.In h)(G:h.Ns bF mg)(a:mg x=KE (.ref fa))(b:autoParam (yo x x st [p] 1) JV._auto_1):∃fd,Fd K mg x st [p] fa fd/\∀s v,rP s fd {[v],[]} [(p,v)]:=by
 have e:=a.symm.trans (eZ X G F.ns);cases e;let{fd,e}:=F.at_.ex;show{fd,{e,eZ X G F.ns,vb e b},λs v=>?_};let{j,l,kV,c,d,g,i,ct,m,rfl,lk,n}:=e.ex;show .of_eq (b kV c d g i ct v)
open PySem.Deep
def vc0 (F:Fo X.p X.w X.K X.mg X.base u x ps (spP X.B 0 g))(D:Room k X.A)(hk:↑(u<=k))(E:↥(Gl X x))(G:↑((x==("__debug__":Str))=MU)) :
  VE X (.Call (.Name x p) [] [] pos) (ar 0 g gaN):=by
 let{f,fd,F,a,b,c}:=F;show#v[PE.sub (Zi F (D.mono hk) E a b c .nil yq G) λU H Q I=>iw I λW m R J e h q=>?_];subst J;let{L,N}:=h;show{L,{W.F,W.H,λ_=>MS},[],_,rfl,e.ok.cut,.nil,N,λO i y l l3 n T r=>?_};let{l4,s}:=pz e.ok l3 T;cases O with
 |cel j=>show l.elim
 |val d=>show q _ m #v[i.F,i.H,W.C] y l l4 (e.lift l4 (λ_=>rfl) s) (lu e.ok r (λj z=>nomatch z) n)
 |new d=>show q _ m #v[i.F,i.H,W.C] y l l4 (e.lift l4 (λ_=>rfl) s) (lu e.ok r (λj z=>nomatch z) n)
def Af.fd0 (F:Af K f x st)(X:K.In h)(G:h.Ns bF mg)(b:∀kV d a c g ct,pD (fM x x (gx st) (ff st) (bb st) .none kV d a c g ct) {[],[]}=pure []:=by intros;rfl):∃fd,Fd K mg x st [] f fd:=by
 let{fd,e}:=F.at_.ex;show{fd,e,eZ X G F.ns,e.binds λkV i a c cd ct us j=>?_};cases us with
 |nil=>show b kV i a c cd ct
 |cons _ _=>cases j
end VL
namespace PB.N24
open PySem L2 VL Bits PB PySem.Deep PyProof.Rows
def top (i:Nat):MY:=PySem.Challenge.pw_switchsay_k24_too_many.main.body.getD i (.Pass {0,0,0,0})
def Fv (ds:D2)(R:Ev->Prop):¬A3 0 ds R:=λ⟨s,_,h,_⟩=>by have:=s.size_pos;lia
structure Xg (K:aE)(y:Str->AK)(D cF cN cP cT cV:MV):Prop where
 k:bH K (.ref D) "__class__"=KE (KE (.builtin "object.__class__"))
 g:dN K (.ref D) (.ref D)=KE MT
 v:dN K (.ref D) (.type "ValueError")=KE MT
 t:tT K (.ref D) [.ref cF,.ref cN,.ref cP,.ref cT,.ref cV]=KE MU
 mF:y "NoField"=KE (.ref cF)
 mN:y "NoNet"=KE (.ref cN)
 mP:y "NoPlain"=KE (.ref cP)
 mT:y "NoTest"=KE (.ref cT)
 mV:y "NoValue"=KE (.ref cV)
 me:y "ValueError"=MS
section
variable {P:aQ}{w:bC}{K:aE}{y:Str->AK}{b:MW}
section
variable (P:aQ)(w:bC)(K:aE)(y:Str->AK)(b:MW)(C:MV)(D:MV)
abbrev Fp (k:Nat)(x:Str)(s:AZ)(n:Nat)(g:GP):Prop:=Fo P w K y b k x s (spP #v[P,w,K] n g)
abbrev Qa:=Fp P w K y b 1 "nothing" ZD 1 qb
abbrev Qb:=Fp P w K y b 1 "the_same" ZD 1 m9
abbrev Qc:=Fp P w K y b 1 "either_of" ZI 2 oj
abbrev Qd:=Fp P w K y b 1 "where_nothing" ZC 1 qm
abbrev Qe:=Fp P w K y b 1 "letters_in" YQ 2 vv
abbrev Qf:=Fp P w K y b 1 "reached_from" YR 2 si
abbrev Qg:=Fp P w K y b 2 "one_then_other" ZP 2 i3
abbrev Qh:=Fp P w K y b 2 "again_and_again" ZC 1 nv
abbrev Qi:=Fp P w K y b 2 "filling" YG 1 wz
abbrev Qj:=Fp P w K y b 2 "note_ways" ZD 1 xl
abbrev Qk:=Fp P w K y b 3 "behind" ZP 2 y3
abbrev Ql:=Fp P w K y b 4 "either_ways" ZI 2 uf
abbrev Qm:=Fp P w K y b 4 "then_ways" ZP 2 xn
abbrev Qn:=Fp P w K y b 1 "must_value" YM 2 vw
abbrev Qo:=Fp P w K y b 2 "place_of" YT 3 uv
abbrev Qp:=Fp P w K y b 1 "is_relation" ZS 3 ug
abbrev Qq:=Fp P w K y b 1 "put_relation" ZS 3 so
abbrev Qr:=Fp P w K y b 1 "held_in" ZO 1 t9
abbrev Qs:=Fp P w K y b 2 "parts_of" ZO 1 qq
abbrev Qt:=Fp P w K y b 3 "is_test" ZO 1 Ar
abbrev Qu:=Fp P w K y b 4 "must_test" ZO 1 tq
abbrev Qv:=Fp P w K y b 5 "must_part" YL 2 xp
abbrev Qw:=Fp P w K y b 6 "must_saying" YJ 2 uk
abbrev Qx:=Fp P w K y b 3 "plain_relation" YV 3 o9
abbrev Qy:=Fp P w K y b 3 "again_row" YK 3 xr
abbrev Qz:=Fp P w K y b 4 "again_ways" YG 1 vy
abbrev QA:=Fp P w K y b 5 "ways_of_part" ZM 4 ng
abbrev QB:=Fp P w K y b 6 "ways_of" YY 3 As
abbrev QC:=Fp P w K y b 1 "each_longer" YI 2 um
abbrev QD:=Fp P w K y b 2 "letters_of" ["speech"] 1 v7
abbrev QE:=Co P w K y b 1 "Runs" "__init__" ZH (spR #v[P,w,K] 3 0 (xt C))
abbrev QF:=Mo P w K y b 1 C "rooms" ["self"] (spP #v[P,w,K] 1 (wa C))
abbrev QG:=Mo P w K y b 1 C "masks_from" ZW (spP #v[P,w,K] 3 (jh C))
abbrev QH:=Mo P w K y b 2 C "ends_from" ZW (spP #v[P,w,K] 3 (jy C))
abbrev QI:=Mo P w K y b 3 C "ends" ZQ (spP #v[P,w,K] 3 (xu C))
abbrev QJ:=Mo P w K y b 2 C "goes_from" ZW (spP #v[P,w,K] 3 (jz C))
abbrev QK:=Mo P w K y b 3 C "goes" ZQ (spP #v[P,w,K] 3 (xv C))
abbrev QL:=Ko P w K y b 7 "Machine" C YS (spR #v[P,w,K] 3 0 (su C))
abbrev QM:=Fp P w K y b 3 "ended" YO 2 (Hq C)
abbrev QN:=Fp P w K y b 3 "gone_on" ZF 3 (Aw C)
abbrev QO:=Fp P w K y b 4 "one_note_ahead" YU 3 (pb C)
abbrev QP:=Fp P w K y b 5 "that_can_end" YH 2 (sv C)
abbrev QQ:Prop:=Fx P w K y b 6 "runs_from" YX D (fs2 401 400) 3 (g_runs_from C)
abbrev QR:Prop:=Fx P w K y b 9 "trails" ZN D (fs2 401 400) 4 (j5 C)
abbrev QS:=Fp P w K y b 1 "_law_cell" ZA 2 tu
abbrev QT:=Fp P w K y b 1 "_law_purse" YF 1 qr
abbrev QU:=Fo P w K y b 1 "_law_take" Z' (spR #v[P,w,K] 2 0 dz)
abbrev QV:=Fp P w K y b 2 "_law_speech" YZ 2 uo
abbrev QW:=Fp P w K y b 1 "_law_letters" ZR 1 jo
abbrev QX:=Fp P w K y b 1 "_law_any" ZR 1 j8
abbrev QY:=Fp P w K y b 2 "_law_last" ZL 3 x9
abbrev QZ:=Fp P w K y b 3 "_law_saying" ZT 5 oy
abbrev Q0:=Fp P w K y b 1 "_law_rows" ZE 2 ya
abbrev Q1:=Fp P w K y b 1 "_law_ends" ZV 4 om
abbrev Q2:=Fp P w K y b 1 "_law_counted" ZK 3 tj
abbrev Q3:=Fp P w K y b 2 "_law_due" ZU 5 qz
abbrev Q4:=Fp P w K y b 161 "_law_parts" ZG 1 g__law_parts
abbrev Q5:=Fp P w K y b 10 "_law_caught" ZX 4 (jc C)
abbrev Q6:=Fp P w K y b 1 "_law_refused" ["_law_e"] 1 nj
abbrev Q7:=Fp P w K y b 11 "_law_some_more" ["_law_more"] 1 kf
abbrev Q8:=Fp P w K y b 1 "_law_again_any" ZR 1 j9
abbrev Q9:=Fp P w K y b 11 "_law_alike" [] 0 wm
end
def U0 (z:Bl y)(F:Fd K y "nothing" (top 14) ZD f fd):Qa P w K y b:=F.go 0 1 ZD _ Xu λhN a A outer s H E c=>(aj (av (aw og (br (ae ah ag)) (v_ 0))))
def Pg (z:Bl y)(F:Fd K y "the_same" (top 15) ZD f fd):Qb P w K y b:=F.go 0 1 ZD _ T2 λhN a A outer s H E c=>(aj (av (cv (ns:=["place"]) (ys:=[]) (fr:=[]) (cl:=[]) (csN [(".0",.local),("place",.local)]) rfl (d9 rfl z.range (ae (v_ 0) ag)) (λ_ _ _ _=>gr) (λ_ _ _ _=>cw) (λ_ _ _ _=>(aw Ag ah (v_ 0))) (by show cJ))))
def Ny (z:Bl y)(F:Fd K y "either_of" (top 16) ZI f fd):Qc P w K y b:=F.go 0 1 ZI _ Ol λhN a A outer s H E c=>(aj (av (cv (ns:=["mask","another"]) (ys:=[]) (fr:=[]) (cl:=[]) (csN [(".0",.local),("mask",.local),("another",.local)]) rfl (G3 rfl z.zip (ae (v_ 0) (ae (v_ 1) ag))) (λ_ _ _ _=>(Dd rfl)) (λ_ _ _ _=>cw) (λ_ _ _ _=>(aw To (v_ 0) (v_ 1))) De)))
def Ed (z:Bl y)(F:Fd K y "where_nothing" (top 20) ZC f fd):Qd P w K y b:=F.go 0 1 ZC _ Fi λhN a A outer s H E c=>(aj (av (cv (ns:=["place","mask"]) (ys:=[]) (fr:=[]) (cl:=[]) (csN [(".0",.local),("place",.local),("mask",.local)]) rfl (yx rfl z.enumerate (ae (v_ 0) ag)) (λ_ _ _ _=>(Dd rfl)) (λ_ _ _ _=>cw) (λ_ _ _ _=>(Kn (gq (v_ 1)) ah (aw Ag ah (v_ 0)))) De)))
def Ke (z:Bl y)(F:Fd K y "letters_in" (top 21) YQ f fd):Qe P w K y b:=F.go 0 1 YQ _ Mc λhN a A outer s H E c=>(aj (av (cv (ns:=["place","letter"]) (ys:=["mask"]) (fr:=[1]) (cl:=[("mask",‹s›+1)]) (csN [(".0",.local),("place",.local),("letter",.local),("mask",.cell)]) rfl (yx rfl z.enumerate (ae (v_ 0) ag)) (λ_ _ _ _=>(Dd rfl)) (λ_ _ _ _=>(px (gq (aw E3 (aw Wx (v_ 2) (v_ 0)) ah)))) (λ_ _ _ _=>(v_ 1)) De)))
def Fw (z:Bl y)(F:Fd K y "reached_from" (top 18) YR f fd):Qf P w K y b:=F.go 0 1 ["mask","relation","reached","lowest"] _ Hb λhN a A outer s H E c=>(ai ‹aq 2 ah› (ai (C9 (L:=[3]) bJ (gq (v_ 0)) (ai ‹aq 3 (aw E3 (v_ 0) (qk (v_ 0)))› (ai ‹Oi 2 (ba (v_ 1) (aw Ae (ajz PySem.F.plainAttrs_int PySem.F.slot_int_bit_length PySem.F.type_int_bit_length afy (v_ 3)) ah))› (aj ‹Lz 0 (v_ 3)›)))) (aj (av (v_ 2)))))
def Ca (z:Bl y)(c:Qf P w K y b)(F:Fd K y "one_then_other" (top 17) ZP f fd):Qg P w K y b:=F.go 1 2 ["first","second","known","mask"] _ Dh λhN d A outer s H E a=>(ai (fv (i:=2) (j:=0) hN rfl (eW rfl) agm) (ai (bz (L:=[3]) bJ rfl (cj (v_ 0)) ‹cb 3› (aj (b9 (bq (Xl a.units) (v_ 3) (v_ 2)) (aj (L1 (i:=2) rfl (eW (aM rfl)) a.units (vc c a (ae (v_ 3) (ae (v_ 1) ag))) (v_ 3))) bu))) (aj (av (cv (ns:=["mask"]) (ys:=["known"]) (fr:=[2]) (cl:=[("known",‹s›+1)]) (csN [(".0",.local),("mask",.local),("known",.cell)]) rfl (cj (v_ 0)) (λ_ _ _ _=>gr) (λ_ _ _ _=>cw) (λ_ _ _ _=>(Fc a.units (v_ 1) (v_ 0))) (by show cJ))))))
def A7 (z:Bl y)(c:Qc P w K y b)(d:Qb P w K y b)(F:Fd K y "again_and_again" (top 19) ZC f fd):Qh P w K y b:=F.go 1 1 ["relation","rows","middle","through"] _ B2 λhN e A outer s H E a=>(ai ‹aq 1 (vc c a (ae (vc d a (ae (b7 fu rfl z.len ⋯ (bx (v_ 0) ag)) ag)) (ae (v_ 0) ag)))› (ai (bz (L:=[2,3]) bJ rfl (d9 rfl z.range (ae (b7 fu rfl z.len ⋯ (bx (v_ 1) ag)) ag)) (cb (i:=2) hN rfl (eW rfl)) (ai (aq (i:=3) hN rfl (eW rfl) (ba (v_ 1) (v_ 2))) (aj (jv (i0:=1) hN rfl rfl (ns:=["row"]) (ys:=["middle","through"]) (fr:=[2,3]) (cl:=[("through",‹s›+2),("middle",‹s›+1)]) (csN [(".0",.local),("row",.local),("middle",.cell),("through",.cell)]) rfl (cj (v_ 1)) (λ_ _ _ _=>gr) (λ_ _ _ _=>cw) (λ_ _ _ _=>(Kn (gq (aw E3 (aw Wx (v_ 0) (v_ 1)) ah)) (aw To (v_ 0) (v_ 2)) (v_ 0))) (by show cJ))))) (aj (av (v_ 1)))))
def U1 (z:Bl y)(a:Qa P w K y b)(F:Fd K y "filling" (top 44) YG f fd):Qi P w K y b:=F.go 1 1 YG _ Xx λhN d A outer s H E c=>(aj (av (aw og (br (ae (vc a c (ae (b7 fu rfl z.len ⋯ (bx (ba (ba (v_ 0) ah) ah) ag)) ag)) ag)) (aw Ae (b7 fu rfl z.len ⋯ (bx (v_ 0) ag)) ah))))
def Nz (z:Bl y)(c:Qa P w K y b)(d:Qb P w K y b)(F:Fd K y "note_ways" (top 40) ZD f fd):Qj P w K y b:=F.go 1 1 ZD _ On λhN e A outer s H E a=>(aj (av (br (ae (br (ae (vc c a (ae (v_ 0) ag)) (ae (vc d a (ae (v_ 0) ag)) ag))) (ae (br (ae (vc d a (ae (v_ 0) ag)) (ae (vc c a (ae (v_ 0) ag)) ag))) ag)))))
def Y3 (z:Bl y)(a:Qi P w K y b)(F:Fd K y "behind" (top 43) ZP f fd):Qk P w K y b:=F.go 2 1 ["first","second","fill"] _ abi λhN d A outer s H E c=>(ai (aq (i:=2) hN rfl (eW rfl) (vc a c (ae (v_ 0) ag))) (aj (av (cv (ns:=["row"]) (ys:=["fill"]) (fr:=[2]) (cl:=[("fill",‹s›+1)]) (csN [(".0",.local),("row",.local),("fill",.cell)]) rfl (cj (i5 (v_ 1) (fj ah) fg)) (λ_ _ _ _=>gr) (λ_ _ _ _=>cw) (λ_ _ _ _=>(aw bw (aw bw (i5 (v_ 0) fg (fj ah)) (v_ 1)) (i5 (v_ 0) (fj ah) fg))) (by show cJ)))))
def Hy (z:Bl y)(c:Qc P w K y b)(d:Qi P w K y b)(e:Qk P w K y b)(F:Fd K y "either_ways" (top 41) ZI f fd):Ql P w K y b:=F.go 3 1 ["one","other","start","fill"] _ Js λhN g A outer s H E a=>(ai ‹aq 2 (aw bw (aw bw (br (ae (vc c a (ae (ba (ba (v_ 0) ah) ah) (ae (ba (ba (v_ 1) ah) ah) ag))) ag)) (i5 (ba (v_ 0) ah) (fj ah) fg)) (i5 (ba (v_ 1) ah) (fj ah) fg))› (ai (aq (i:=3) hN rfl (eW rfl) (vc d a (ae (v_ 1) ag))) (aj (av (aw bw (aw bw (br (ae (v_ 2) ag)) (cv (ns:=["row"]) (ys:=["fill"]) (fr:=[3]) (cl:=[("fill",‹s›+1)]) (csN [(".0",.local),("row",.local),("fill",.cell)]) rfl (cj (i5 (v_ 0) (fj ah) fg)) (λ_ _ _ _=>gr) (λ_ _ _ _=>cw) (λ_ _ _ _=>(aw bw (v_ 0) (v_ 1))) (by show cJ))) (vc e a (ae (v_ 0) (ae (v_ 1) ag))))))))
def N0 (z:Bl y)(c:Qg P w K y b)(d:Qk P w K y b)(F:Fd K y "then_ways" (top 42) ZP f fd):Qm P w K y b:=F.go 3 2 ["first","second","rows","row","begun"] _ Oq λhN e A outer s H E a=>(ai ‹fv 2 0 (br ag)› (ai (bz (L:=[3,4]) bJ rfl (cj (v_ 0)) (cb (i:=3) hN rfl (eW rfl)) (ai (jv (i0:=4) hN rfl rfl (ns:=ZC) (ys:=["row"]) (fr:=[3]) (cl:=[("row",‹s›+1)]) (csN [(".0",.local),("relation",.local),("one_then_other",.globalImplicit),("row",.cell)]) rfl (cj (ba (v_ 1) ah)) (λ_ _ _ _=>gr) (λ_ _ _ _=>cw) (λ_ _ _ _=>(vc c a (ae (ba (v_ 1) ah) (ae (v_ 0) ag)))) (by show cJ)) (aj (ef (vk (i:=2) rfl (aM rfl) (aw bw (aw bw (i5 (v_ 4) fg (fj ah)) (i5 (v_ 3) (fj ah) fg)) (i5 (v_ 4) (fj ah) fg))))))) (aj (av (aw bw (v_ 2) (vc d a (ae (v_ 0) (ae (v_ 1) ag))))))))
def Kf (z:Bl y)(F:Fd K y "must_value" (top 12) YM f fd):Qn P w K y b:=F.go 0 1 YM _ Mj λhN a A outer s H E c=>(aj (b9 (Gu (E1 (bq adk (v_ 1) ah) (yg (bq og_ge (v_ 1) (v_ 0))))) (aj C6) bu))
def Ph (z:Bl y)(c:Qn P w K y b)(F:Fd K y "place_of" (top 11) YT f fd):Qo P w K y b:=F.go 1 1 ["speech","field","value","place","pair"] _ T5 λhN d A outer s H E a=>(ai (bz (L:=[3,4]) bJ rfl (agh rfl z.enumerate (ae (v_ 0) ag)) (vg2 (i:=3) (j:=4) rfl hN rfl rfl (aM rfl) (aM rfl)) (aj (b9 (bq (d7 a.units) (ba (v_ 4) ah) (v_ 1)) (ai (ef (vc c a (ae (ba (v_ 4) ah) (ae (v_ 2) ag)))) (aj (av (v_ 3)))) bu))) (aj C6))
def Hz (z:Bl y)(F:Fd K y "is_relation" (top 38) ZS f fd):Qp P w K y b:=F.go 0 1 ZS _ Ju λhN c A outer s H E a=>(aj (av (cv (ns:=["at","letter"]) (ys:=["place","value"]) (fr:=[1,2]) (cl:=[("value",‹s›+2),("place",‹s›+1)]) (csN [(".0",.local),("at",.local),("letter",.local),("place",.cell),("value",.cell)]) rfl (yx rfl z.enumerate (ae (v_ 0) ag)) (λ_ _ _ _=>(Dd rfl)) (λ_ _ _ _=>cw) (λ_ _ _ _=>(Kn (bq (d7 a.units) (ba (v_ 1) (v_ 2)) (v_ 3)) (aw Ag ah (v_ 0)) ah)) De)))
def Fy (z:Bl y)(F:Fd K y "put_relation" (top 39) ZS f fd):Qq P w K y b:=F.go 0 1 ["letters","place","value","put"] _ He λhN c A outer s H E a=>(ai (jv (i0:=3) hN rfl rfl (ns:=["letter"]) (ys:=["place","value"]) (fr:=[1,2]) (cl:=[("value",‹s›+3),("place",‹s›+2)]) (csN [(".0",.local),("letter",.local),("place",.cell),("value",.cell)]) rfl (cj (v_ 0)) (λ_ _ _ _=>gr) (λ_ _ _ _=>cw) (λ_ _ _ _=>(aw bw (aw bw (i5 (v_ 0) fg (fj (v_ 1))) (ao (ae (v_ 2) ag))) (i5 (v_ 0) (fj (aw bw (v_ 1) ah)) fg))) (by show cJ)) (aj (av (cv (ns:=["letter"]) (ys:=["letters"]) (fr:=[0]) (cl:=[("letters",‹s›+1)]) (csN [(".0",.local),("letter",.local),("letters",.cell)]) rfl (cj (v_ 3)) (λ_ _ _ _=>gr) (λ_ _ _ _=>cw) (λ_ _ _ _=>(aw Ag ah (adl dQ lK PySem.F.type_list_index (Ln a.units) (v_ 1) (bx (v_ 0) ag)))) (by show cJ)))))
def U2 (z:Bl y)(a:Gc #v[P,w,K] y "HOLDING_SORTS" qp)(F:Fd K y "held_in" (top 27) ZO f fd):Qr P w K y b:=F.go 0 1 ZO _ X0 λhN d A outer s H E c=>(ai (b9 (bq (E5 c.units) (ba (v_ 0) ah) (vgl a)) (aj (av (i5 (v_ 0) (fj ah) fg))) bu) (aj (av (ao ag))))
def Pi (z:Bl y)(a:Qr P w K y b)(F:Fd K y "parts_of" (top 26) ZO f fd):Qs P w K y b:=F.go 1 3 ["saying","parts","waiting","part"] _ T7 λhN d A outer s H E c=>(ai ‹fv 1 1 (br ag)› (ai ‹fv 2 0 (br (ae (v_ 0) ag))› (ai (C9 (L:=[3]) bJ (gq (v_ 2)) (ai ‹aq 3 (Lo (i:=2) dQ pN pO Lp rfl (aM rfl))› (ai (ef (vk (i:=1) rfl (aM rfl) (v_ 3))) (aj (ef (Bn (i:=2) dQ iM iO pw rfl (aM rfl) (bx (aki (vc a c (ae (v_ 3) ag)) (qk ah)) ag))))))) (aj (av (v_ 1))))))
def U3 (z:Bl y)(c:Gc #v[P,w,K] y "TEST_SORTS" vx)(d:Qs P w K y b)(F:Fd K y "is_test" (top 30) ZO f fd):Qt P w K y b:=F.go 2 1 ZO _ X2 λhN e A outer s H E a=>(aj (av (b7 (ajv rfl) rfl z.all ⋯ (bx (cv (ns:=["part"]) (ys:=[]) (fr:=[]) (cl:=[]) (csN [(".0",.local),("part",.local),("TEST_SORTS",.globalImplicit)]) rfl (cj (vc d a (ae (v_ 0) ag))) (λ_ _ _ _=>gr) (λ_ _ _ _=>cw) (λ_ _ _ _=>(yf (E5 a.units) (ba (v_ 0) ah) (vgl c))) (by show cJ)) ag))))
def N1 (z:Bl y)(a:Qt P w K y b)(F:Fd K y "must_test" (top 31) ZO f fd):Qu P w K y b:=F.go 3 1 ZO _ Ot λhN d A outer s H E c=>(aj (b9 (Ad (gq (vc a c (ae (v_ 0) ag)))) (aj C6) bu))
def N2 (z:Bl y)(c:Gc #v[P,w,K] y "FIELD_SORTS" uh)(d:Qo P w K y b)(e:Qu P w K y b)(F:Fd K y "must_part" (top 29) YL f fd):Qv P w K y b:=F.go 4 1 YL _ Ov λhN g A outer s H E a=>(ai (b9 (bq (E5 a.units) (ba (v_ 1) ah) (vgl c)) (aj (ef (vc d a (ae (v_ 0) (ae (ba (v_ 1) ah) (ae (ba (v_ 1) ah) ag)))))) bu) (aj (b9 (bq (d7 a.units) (ba (v_ 1) ah) az) (aj (ef (vc e a (ae (ba (v_ 1) ah) ag)))) bu)))
def Ia (z:Bl y)(c:Qs P w K y b)(d:Qv P w K y b)(F:Fd K y "must_saying" (top 28) YJ f fd):Qw P w K y b:=F.go 5 1 ["speech","saying","part"] _ Jw λhN e A outer s H E a=>(aj (bz (L:=[2]) bJ rfl (cj (vc c a (ae (v_ 1) ag))) ‹cb 2› (aj (ef (vc d a (ae (v_ 0) (ae (v_ 2) ag)))))))
def Cb (z:Bl y)(c:Qa P w K y b)(d:Qb P w K y b)(e:Qo P w K y b)(g:Qp P w K y b)(j:Qq P w K y b)(F:Fd K y "plain_relation" (top 37) YV f fd):Qx P w K y b:=F.go 2 1 ["speech","letters","part","place"] _ Dk λhN l A outer s H E a=>(ai (b9 (bq (d7 a.units) (ba (v_ 2) ah) az) (aj (av (vc c a (ae (b7 fu rfl z.len ⋯ (bx (v_ 1) ag)) ag)))) bu) (ai (b9 (bq (d7 a.units) (ba (v_ 2) ah) az) (aj (av (vc d a (ae (b7 fu rfl z.len ⋯ (bx (v_ 1) ag)) ag)))) bu) (ai ‹aq 3 (vc e a (ae (v_ 0) (ae (ba (v_ 2) ah) (ae (ba (v_ 2) ah) ag))))› (ai (b9 (bq (d7 a.units) (ba (v_ 2) ah) az) (aj (av (vc g a (ae (v_ 1) (ae (v_ 3) (ae (ba (v_ 2) ah) ag)))))) bu) (aj (av (vc j a (ae (v_ 1) (ae (v_ 3) (ae (ba (v_ 2) ah) ag))))))))))
def N3 (z:Bl y)(c:Qg P w K y b)(d:Qc P w K y b)(F:Fd K y "again_row" (top 46) YK f fd):Qy P w K y b:=F.go 2 1 ["row","anew","start","ended","later"] _ Ox λhN e A outer s H E a=>(ai (aq (i:=3) hN rfl (eW rfl) (vc c a (ae (ba (v_ 0) ah) (ae (v_ 1) ag)))) (ai (jv (i0:=4) hN rfl rfl (ns:=["old","begun"]) (ys:=["ended"]) (fr:=[3]) (cl:=[("ended",‹s›+1)]) (csN [(".0",.local),("old",.local),("begun",.local),("either_of",.globalImplicit),("one_then_other",.globalImplicit),("ended",.cell)]) rfl (G3 rfl z.zip (ae (i5 (v_ 0) (fj ah) fg) (ae (i5 (v_ 2) (fj ah) fg) ag))) (λ_ _ _ _=>(Dd rfl)) (λ_ _ _ _=>cw) (λ_ _ _ _=>(vc d a (ae (v_ 0) (ae (vc c a (ae (v_ 2) (ae (v_ 1) ag))) ag)))) De) (aj (av (aw bw (br (ae (v_ 3) ag)) (v_ 4))))))
def Kg (z:Bl y)(c:Qh P w K y b)(d:Qy P w K y b)(F:Fd K y "again_ways" (top 45) YG f fd):Qz P w K y b:=F.go 3 1 ["ways","anew","rows"] _ Mr λhN e A outer s H E a=>(ai (aq (i:=1) hN rfl (eW rfl) (vc c a (ae (ba (ba (v_ 0) ah) ah) ag))) (abl (i0:=2) (iv:=1) (ns:=["row"]) (ys:=["anew","ways"]) (fr:=[1,0]) (cl:=[("ways",‹s›+1),("anew",‹s›+2)]) hN rfl rfl (csN [(".0",.local),("row",.local),("again_row",.globalImplicit),("anew",.cell),("ways",.cell)]) rfl (cj (v_ 0)) (λ_ _ _ _=>gr) (λ_ _ _ _=>(vc d a (ae (v_ 0) (ae (v_ 1) (ae (ba (v_ 2) ah) ag))))) (by show cJ) #v[] (Vg (pv 1) (Vf (Sz Gn (pv 2) zt (λ_ _=>rfl)) zt K4)) (aj (av (v_ 2)))))
def Fz (z:Bl y)(c:Ql P w K y b)(d:Qm P w K y b)(e:Qz P w K y b)(g:Qd P w K y b)(i:Qj P w K y b)(j:Qx P w K y b)(F:Fd K y "ways_of_part" (top 36) ZM f fd):QA P w K y b:=F.go 4 1 ZM _ Hj λhN l A outer s H E a=>(ai (b9 (bq (d7 a.units) (ba (v_ 2) ah) az) (aj (av (vc c a (ae (ba (v_ 3) ah) (ae (ba (v_ 3) ah) ag))))) bu) (ai (b9 (bq (d7 a.units) (ba (v_ 2) ah) az) (aj (av (vc d a (ae (ba (v_ 3) ah) (ae (ba (v_ 3) ah) ag))))) bu) (ai (b9 (bq (d7 a.units) (ba (v_ 2) ah) az) (aj (av (vc e a (ae (ba (v_ 3) ah) ag)))) bu) (ai (b9 (bq (d7 a.units) (ba (v_ 2) ah) az) (aj (av (br (ae (br (ae (vc g a (ae (ba (ba (ba (v_ 3) ah) ah) ah) ag)) ag)) ag)))) bu) (ai (b9 (bq (d7 a.units) (ba (v_ 2) ah) az) (aj (av (vc i a (ae (b7 fu rfl z.len ⋯ (bx (v_ 1) ag)) ag)))) bu) (aj (av (br (ae (br (ae (vc j a (ae (v_ 0) (ae (v_ 1) (ae (v_ 2) ag)))) ag)) ag)))))))))
def U4 (z:Bl y)(c:Qs P w K y b)(d:Qr P w K y b)(e:QA P w K y b)(F:Fd K y "ways_of" (top 35) YY f fd):QB P w K y b:=F.go 5 2 ["speech","letters","saying","waiting","part","inner"] _ X7 λhN g A outer s H E a=>(ai (fv (i:=3) (j:=0) hN rfl (eW rfl) (br ag)) (ai (bz (L:=[4,5]) bJ rfl (akg rfl z.reversed (ae (vc c a (ae (v_ 2) ag)) ag)) ‹cb 4› (ai (jv (i0:=5) hN rfl rfl (ns:=["held"]) (ys:=["waiting"]) (fr:=[3]) (cl:=[("waiting",‹s›+1)]) (csN [(".0",.local),("held",.local),("waiting",.cell)]) rfl (oh (vc d a (ae (v_ 4) ag))) (λ_ _ _ _=>gr) (λ_ _ _ _=>cw) (λ_ _ _ _=>(Lo (i:=1) dQ pN pO Lp rfl (eW (aM rfl)))) (by show cJ)) (aj (ef (vk (i:=3) rfl (eW (aM rfl)) (vc e a (ae (v_ 0) (ae (v_ 1) (ae (v_ 4) (ae (v_ 5) ag)))))))))) (aj (av (Lo (i:=3) dQ pN pO Lp rfl (eW (aM rfl)))))))
def Ib (z:Bl y)(F:Fd K y "each_longer" (top 10) YI f fd):QC P w K y b:=F.go 0 2 ["letters","count","longer","letter"] _ Jy λhN a A outer s H E c=>(ai ‹fv 2 0 (br ag)› (ai (bz (L:=[3]) bJ rfl (cj (v_ 0)) (cb (i:=3) hN rfl (eW rfl)) (aj (ef (Bn (i:=2) dQ iM iO pw rfl (aM rfl) (bx (cv (ns:=["value"]) (ys:=["letter"]) (fr:=[3]) (cl:=[("letter",‹s›+1)]) (csN [(".0",.local),("value",.local),("letter",.cell)]) rfl (d9 rfl z.range (ae (v_ 1) ag)) (λ_ _ _ _=>gr) (λ_ _ _ _=>cw) (λ_ _ _ _=>(aw bw (v_ 1) (ao (ae (v_ 0) ag)))) (by show cJ)) ag))))) (aj (av (v_ 2)))))
def Kh (z:Bl y)(a:QC P w K y b)(F:Fd K y "letters_of" (top 9) ["speech"] f fd):QD P w K y b:=F.go 1 1 ["speech","letters","pair"] _ Mt λhN d A outer s H E c=>(ai ‹aq 1 (br (ae (ao ag) ag))› (ai (bz (L:=[2]) bJ rfl (oh (v_ 0)) ‹cb 2› (aj ‹aq 1 (vc a c (ae (v_ 1) (ae (ba (v_ 2) ah) ag)))›)) (aj (av (v_ 1)))))
def N4 (z:Bl y)(a:Cls K C)(c:NoAttr K C "letters")(d:NoAttr K C "ways")(F:Cd K y "Runs" "__init__" "Runs.__init__" (ft (top 33) 0) ZH e f fd):QE P w K y b C:=F.go 0 0 0 ZH _ Oz λhN g A outer s H E j=>(ai (Xm (i:=0) a c rfl (aM rfl) (v_ 1)) (aj (Xm (i:=0) a d rfl (aM rfl) (v_ 2))))
def Ki (z:Bl y)(a:Cls K C)(c:NoAttr K C "ways")(F:Md K C "rooms" "Runs.rooms" (ft (top 33) 1) ["self"] f fd):QF P w K y b C:=F.go 0 1 ["self"] _ M7 λhN d A outer s H E e=>(aj (av (b7 fu rfl z.len ⋯ (bx (vq a c (v_ 0)) ag))))
def A8 (z:Bl y)(a:Cls K C)(d:NoAttr K C "letters")(c:NoAttr K C "ways")(F:Md K C "masks_from" "Runs.masks_from" (ft (top 33) 6) ZW f fd):QG P w K y b C:=F.go 0 1 ["self","rooms","letter","place","masks","room"] _ B4 λhN g A outer s H E e=>(ai (aq (i:=3) hN rfl (eW rfl) (adl dQ lK PySem.F.type_list_index (Ln e.units) (vq a d (v_ 0)) (bx (v_ 2) ag))) (ai ‹aq 4 (aw og (br (ae ah ag)) (b7 fu rfl z.len ⋯ (bx (vq a c (v_ 0)) ag)))› (ai (bz (L:=[5]) bJ rfl (oh (v_ 1)) ‹cb 5› (aj (jv (i0:=4) hN rfl rfl (ns:=YR) (ys:=["place"]) (fr:=[3]) (cl:=[("place",‹s›+1)]) (csN [(".0",.local),("mask",.local),("relation",.local),("place",.cell)]) rfl (G3 rfl z.zip (ae (v_ 4) (ae (ba (vq a c (v_ 0)) (v_ 5)) ag))) (λ_ _ _ _=>(Dd rfl)) (λ_ _ _ _=>cw) (λ_ _ _ _=>(aw To (v_ 0) (ba (v_ 1) (v_ 2)))) De))) (aj (av (v_ 4))))))
def Cc (z:Bl y)(c:Cls K C)(d:NoAttr K C "letters")(e:Qe P w K y b)(g:QG P w K y b C)(F:Md K C "ends_from" "Runs.ends_from" (ft (top 33) 4) ZW f fd):QH P w K y b C:=F.go 1 1 ZW _ Dm λhN i A outer s H E a=>(aj (av (vc e a (ae (vq c d (v_ 0)) (ae (ba (p9 g a (v_ 0) (ae (v_ 1) (ae (v_ 2) ag))) ah) ag)))))
def N5 (z:Bl y)(a:QH P w K y b C)(F:Md K C "ends" "Runs.ends" (ft (top 33) 2) ZQ f fd):QI P w K y b C:=F.go 2 1 ZQ _ O1 λhN d A outer s H E c=>(aj (av (p9 a c (v_ 0) (ae (ao (ae (v_ 1) ag)) (ae (v_ 2) ag)))))
def Ce (z:Bl y)(a:Cls K C)(c:NoAttr K C "letters")(d:QG P w K y b C)(F:Md K C "goes_from" "Runs.goes_from" (ft (top 33) 5) ZW f fd):QJ P w K y b C:=F.go 1 2 ["self","rooms","letter","masks","told","place","noted","bit","later"] _ Dt λhN g A outer s H E e=>(ai (aq (i:=3) hN rfl (eW rfl) (p9 d e (v_ 0) (ae (v_ 1) (ae (v_ 2) ag)))) (ai ‹fv 4 0 (br ag)› (ai (bz (L:=[5,6,7,8]) bJ rfl (yx rfl z.enumerate (ae (vq a c (v_ 0)) ag)) (vg2 (i:=5) (j:=6) rfl hN rfl rfl (aM rfl) (aM rfl)) (ai (aq (i:=7) hN rfl (eW rfl) (aw Ag ah (v_ 5))) (ai ‹aq 8 (lr C4 rfl z.tuple ⋯ (bx (cv (ns:=["room"]) (ys:=["bit","masks"]) (fr:=[7,3]) (cl:=[("masks",‹s›+1),("bit",‹s›+2)]) (csN [(".0",.local),("room",.local),("bit",.cell),("masks",.cell)]) rfl (Jb rfl z.range (ae ah (ae (b7 fu rfl z.len ⋯ (bx (v_ 3) ag)) ag))) (λ_ _ _ _=>gr) (λ_ _ _ _=>(px (gq (aw E3 (ba (v_ 2) (v_ 0)) (v_ 1))))) (λ_ _ _ _=>(v_ 0)) (by show cJ)) ag))› (aj (b9 (gq (v_ 8)) (aj (ef (vk (i:=4) rfl (aM rfl) (ao (ae (v_ 6) (ae (v_ 8) ag)))))) bu))))) (aj (av (v_ 4))))))
def N6 (z:Bl y)(a:QJ P w K y b C)(F:Md K C "goes" "Runs.goes" (ft (top 33) 3) ZQ f fd):QK P w K y b C:=F.go 2 2 ["self","room","letter","told","noted","rooms"] _ O7 λhN d A outer s H E c=>(ai ‹fv 3 0 (br ag)› (ai (bz (L:=[4,5]) bJ rfl (cj (p9 a c (v_ 0) (ae (ao (ae (v_ 1) ag)) (ae (v_ 2) ag)))) (vg2 (i:=4) (j:=5) rfl hN rfl rfl (eW rfl) (aM rfl)) (aj (ef (Bn (i:=3) dQ iM iO pw rfl (aM rfl) (bx (cv (ns:=["other"]) (ys:=["noted"]) (fr:=[4]) (cl:=[("noted",‹s›+1)]) (csN [(".0",.local),("other",.local),("noted",.cell)]) rfl (oh (v_ 5)) (λ_ _ _ _=>gr) (λ_ _ _ _=>cw) (λ_ _ _ _=>(ao (ae (v_ 1) (ae (v_ 0) ag)))) (by show cJ)) ag))))) (aj (av (v_ 3)))))
def F0 (z:Bl y)(c:Qw P w K y b)(d:QD P w K y b)(e:QE P w K y b C)(g:QB P w K y b)(F:Kd K y "Machine" "Machine.__init__" (ft (top 34) 0) YS C f fd):QL P w K y b C:=F.go 0 6 0 ["self","speech","saying","letters"] _ Hl λhN j A outer s H E a=>(ai (ef (vc c a (ae (v_ 1) (ae (v_ 2) ag)))) (ai ‹aq 3 (vc d a (ae (v_ 1) ag))› (aj (ef (vcm e a (bx (v_ 0) (ae (v_ 3) (ae (vc g a (ae (v_ 1) (ae (v_ 3) (ae (v_ 2) ag)))) ag))))))))
def acy (z:Bl y)(a:QH P w K y b C)(F:Fd K y "ended" (top 51) YO f fd):QM P w K y b C:=F.go 2 2 ["machine","beginnings","told","begun","rooms"] _ ahb λhN d A outer s H E c=>(ai ‹fv 2 0 (br ag)› (ai (bz (L:=[3,4]) bJ rfl (cj (v_ 1)) (vg2 (i:=3) (j:=4) rfl hN rfl rfl (eW rfl) (aM rfl)) (aj (ef (Bn (i:=2) dQ iM iO pw rfl (aM rfl) (bx (cv (ns:=["end"]) (ys:=["begun"]) (fr:=[3]) (cl:=[("begun",‹s›+1)]) (csN [(".0",.local),("end",.local),("begun",.cell)]) rfl (cj (p9 a c (v_ 0) (ae (v_ 4) (ae (ba (v_ 3) (qk ah)) ag)))) (λ_ _ _ _=>gr) (λ_ _ _ _=>cw) (λ_ _ _ _=>(aw bw (v_ 1) (ao (ae (v_ 0) ag)))) (by show cJ)) ag))))) (aj (av (v_ 2)))))
def U5 (z:Bl y)(c:QJ P w K y b C)(F:Fd K y "gone_on" (top 52) ZF f fd):QN P w K y b C:=F.go 2 2 ["machine","beginnings","ending","longer","begun","rooms","letter","later","kept"] _ Yj λhN d A outer s H E a=>(ai ‹fv 3 0 (br ag)› (ai (bz (L:=[4,5,6,7,8]) bJ rfl (cj (v_ 1)) (vg2 (i:=4) (j:=5) rfl hN rfl rfl (aM rfl) (aM rfl)) (aj (bz (L:=[6,7,8]) bJ rfl (cj (p9 c a (v_ 0) (ae (v_ 5) (ae (Fc a.units (v_ 4) (qk ah)) ag)))) (vg2 (i:=6) (j:=7) rfl hN rfl rfl (eW rfl) (aM rfl)) (ai ‹aq 8 (lr C4 rfl z.tuple ⋯ (bx (cv (ns:=["room"]) (ys:=["ending","letter"]) (fr:=[2,6]) (cl:=[("letter",‹s›+2),("ending",‹s›+1)]) (csN [(".0",.local),("room",.local),("ending",.cell),("letter",.cell)]) rfl (oh (v_ 7)) (λ_ _ _ _=>gr) (λ_ _ _ _=>(px (bq (Xk a.units) (ao (ae (v_ 0) (ae (v_ 2) ag))) (v_ 1)))) (λ_ _ _ _=>(v_ 0)) (by show cJ)) ag))› (aj (b9 (gq (v_ 8)) (aj (ef (vk (i:=3) rfl (aM rfl) (ao (ae (aw bw (v_ 4) (ao (ae (v_ 6) ag))) (ae (v_ 8) ag)))))) bu)))))) (aj (av (v_ 3)))))
def Cf (z:Bl y)(c:QK P w K y b C)(F:Fd K y "one_note_ahead" (top 54) YU f fd):QO P w K y b C:=F.go 3 2 ["machine","pairs","layer","ahead","pair"] _ Dw λhN d A outer s H E a=>(ai ‹fv 3 0 (lr (Rg rfl a.units) rfl z.dict ⋯ (bx (v_ 2) ag))› (ai (bz (L:=[4]) bJ rfl (cj (v_ 1)) ‹cb 4› (aj (b9 (gq (b7 (ajw rfl) rfl z.any ⋯ (bx (cv (ns:=["letter","room"]) (ys:=["layer"]) (fr:=[2]) (cl:=[("layer",‹s›+1)]) (csN [(".0",.local),("letter",.local),("room",.local),("layer",.cell)]) rfl (cj (p9 c a (v_ 0) (ae (Fc a.units (v_ 4) ah) (ae (Fc a.units (v_ 4) ah) ag)))) (λ_ _ _ _=>(Dd rfl)) (λ_ _ _ _=>cw) (λ_ _ _ _=>(yf (Xk a.units) (ao (ae (v_ 1) (ae (v_ 0) ag))) (v_ 2))) De) ag))) (aj (L1 (i:=3) rfl (aM rfl) a.units tm (v_ 4))) bu))) (aj (av (v_ 3)))))
def Ga (z:Bl y)(c:Cls K C)(d:NoAttr K C "letters")(e:QF P w K y b C)(g:QI P w K y b C)(l:QO P w K y b C)(F:Fd K y "that_can_end" (top 53) YH f fd):QP P w K y b C:=F.go 4 3 ["machine","count","pairs","room","layer","layers","left"] _ Hs λhN m A outer s H E a=>(ai ‹fv 2 0 (br ag)› (ai (bz (L:=[3]) bJ rfl (d9 rfl z.range (ae (aba e a (v_ 0)) ag)) (cb (i:=3) hN rfl (eW rfl)) (aj (ef (Bn (i:=2) dQ iM iO pw rfl (aM rfl) (bx (cv (ns:=["letter"]) (ys:=["room"]) (fr:=[3]) (cl:=[("room",‹s›+2)]) (csN [(".0",.local),("letter",.local),("room",.cell)]) rfl (cj (vq c d (v_ 0))) (λ_ _ _ _=>gr) (λ_ _ _ _=>cw) (λ_ _ _ _=>(ao (ae (v_ 1) (ae (v_ 0) ag)))) (by show cJ)) ag))))) (ai ‹aq 4 (lr (Rg rfl a.units) rfl z.dict ⋯ (bx (cv (ns:=["pair"]) (ys:=["machine"]) (fr:=[0]) (cl:=[("machine",‹s›+1)]) (csN [(".0",.local),("pair",.local),("machine",.cell)]) rfl (cj (v_ 2)) (λ_ _ _ _=>gr) (λ_ _ _ _=>(px (gq (p9 g a (v_ 1) (ae (ba (v_ 0) ah) (ae (ba (v_ 0) ah) ag)))))) (λ_ _ _ _=>(ao (ae (v_ 0) (ae tm ag)))) (by show cJ)) ag))› (ai ‹fv 5 1 (br ag)› (ai (bz (L:=[6]) bJ rfl (d9 rfl z.range (ae (v_ 1) ag)) ‹cb 6› (ai (ef (vk (i:=5) rfl (aM rfl) (v_ 4))) (aj ‹aq 4 (vc l a (ae (v_ 0) (ae (v_ 2) (ae (v_ 4) ag))))›))) (aj (av (v_ 5))))))))
def N7 (z:Bl y)(c:Gc #v[P,w,K] y "MOST_TRAILS" ki)(d:Xc P w K y b "TooGreat" D)(e:QP P w K y b C)(g:QM P w K y b C)(l:QN P w K y b C)(F:Fd K y "runs_from" (top 50) YX f fd):QQ P w K y b C D:=Fx.of (k:=5) (nc:=2) (N:=["machine","letter","count","ending","told","beginnings","left"]) F N71.f_runs_from λhN p A outer s H E O q a hO m n=>(va ‹aq 3 (vc e a (ae (v_ 0) (ae (v_ 2) ag)))›.o (va ‹fv 4 0 (br ag)›.o (va ‹aq 5 (br (ae (ao (ae (ao (ae (v_ 1) ag)) (ae (ao (ae ah ag)) ag))) ag))›.o (va (ale (L:=[6]) PassesOwn.leaving rfl (agj rfl z.range (ae (v_ 2) (ae (qk ah) (ae (qk ah) ag)))) ‹cb 6› (va (ef (Bn (i:=4) dQ iM iO pw rfl (aM rfl) (bx (vc g a (ae (v_ 0) (ae (v_ 5) ag))) ag))).o (va ‹aq 5 (Kn (gq (v_ 6)) (vc l a (ae (v_ 0) (ae (v_ 5) (ae (ba (v_ 3) (aw Ae (v_ 6) ah)) ag)))) (br ag))›.o (Fs (vo_if (bq yu (aw bw (b7 fu rfl z.len ⋯ (bx (v_ 4) ag)) (b7 fu rfl z.len ⋯ (bx (v_ 5) ag))) (vgl c)) (Fs (ace d a hO m n (ae (aw bw (vgl c) ah) (ae (vgl c) ag)))) bu.o))))) (Fs (av (v_ 4)).o)))))
def Y4 (z:Bl y)(c:QL P w K y b C)(d:QQ P w K y b C D)(F:Fd K y "trails" (top 49) ZN f fd):QR P w K y b C D:=Fx.of (k:=8) (nc:=1) (N:=ZN) F acn λhN g A outer s H E O i a hO j e=>(Fs (ahm d a e (ae (agn c a (ae (v_ 0) (ae (v_ 1) ag))) (ae (v_ 2) (ae (v_ 3) ag)))))
def N8 (z:Bl y)(F:Fd K y "_law_cell" (top 56) ZA f fd):QS P w K y b:=F.go 0 1 ZA _ O3 λhN a A outer s H E c=>(ai (b9 (bq adk (v_ 1) (b7 fu rfl z.len ⋯ (bx (v_ 0) ag))) (aj (av (ba (v_ 0) (v_ 1)))) bu) (aj (av ah)))
def Kj (z:Bl y)(F:Fd K y "_law_purse" (top 57) YF f fd):QT P w K y b:=F.go 0 1 ["_law_cell_here","_law_number","_law_found","_law_k"] _ Mx λhN c A outer s H E a=>(ai ‹aq 1 (aw t7 (v_ 0) ah)› (ai ‹aq 2 ah› (ai (bz (L:=[3]) bJ rfl (d9 rfl z.range (ae ah ag)) ‹cb 3› (ai ‹aq 1 (aw t7 (aw bw (aw bw (aw bw (aw og (v_ 1) (v_ 1)) (aw og (aw og ah (v_ 3)) (v_ 3))) (v_ 3)) ah) ah)› (aj ‹aq 2 (aw bw (aw og (v_ 2) ah) (aw t7 (aw og (v_ 1) (v_ 1)) ah))›))) (ai (b9 (bq (d7 a.units) (aw t7 (v_ 0) ah) ah) (aj (av (br (ae (aw Gv (b7 ajr rfl z.abs ⋯ (bx (v_ 0) ag)) ah) (ae (v_ 2) ag))))) bu) (aj (av (br (ae ah (ae (v_ 2) ag)))))))))
def N9 (z:Bl y)(F:Fd K y "_law_take" (top 58) Z' f fd):QU P w K y b:=F.goR 0 0 0 ["_law_purse_here","_law_many","_law_at","_law_found"] _ O5 λhN c A outer s H E a=>(ai ‹aq 2 (lr ajs rfl z.int ⋯ (bx (yf (d7 a.units) (ba (v_ 0) ah) ah) ag))› (ai ‹aq 3 (aw t7 (ba (v_ 0) (v_ 2)) (v_ 1))› (ai (L1 (i:=0) rfl (aM rfl) a.units (aw Gv (ba (v_ 0) (v_ 2)) (v_ 1)) (v_ 2)) (aj (av (v_ 3))))))
def Ic (z:Bl y)(d:QT P w K y b)(c:QU P w K y b)(F:Fd K y "_law_speech" (top 59) YZ f fd):QV P w K y b:=F.go 1 3 ["_law_cell_here","_law_least","_law_purse_here","_law_first","_law_letters_here","_law_left","_law_many","_law_tail","_law_speech_here","_law_k","_law_count"] _ J0 λhN e A outer s H E a=>(ai ‹fv 2 1 (vc d a (ae (v_ 0) ag))› (ai ‹aq 3 (vcr c a (bx (v_ 2) (ae ah ag)))› (ai ‹aq 4 az› (ai ‹aq 5 (ba (br (ae ah (ae ah (ae ah (ae ah (ae ah (ae ah (ae ah (ae ah ag))))))))) (vcr c a (bx (v_ 2) (ae ah ag))))› (ai ‹aq 6 (b7 (ajt rfl) rfl z.max ⋯ (bx (v_ 1) (bx (aw bw ah (vcr c a (bx (v_ 2) (ae ah ag)))) ag)))› (ai ‹aq 7 (i5 az fg (fj (vcr c a (bx (v_ 2) (ae ah ag)))))› (ai ‹fv 8 0 (br ag)› (ai (bz (L:=[9,10]) bJ rfl (d9 rfl z.range (ae (v_ 6) ag)) ‹cb 9› (ai ‹aq 10 (b7 (aju rfl) rfl z.min ⋯ (bx (ba (br (ae ah (ae ah (ae ah (ae ah (ae ah (ae ah ag))))))) (vcr c a (bx (v_ 2) (ae ah ag)))) (bx (v_ 5) ag)))› (ai ‹aq 5 (aw Gv (v_ 5) (v_ 10))› (aj (ef (vk (i:=8) rfl (aM rfl) (ao (ae (aw bw (ba (v_ 4) (aw t7 (aw bw (v_ 3) (aw og ah (v_ 9))) ah)) (v_ 7)) (ae (v_ 10) ag))))))))) (aj (av (lr C4 rfl z.tuple ⋯ (bx (v_ 8) ag))))))))))))
def Gb (z:Bl y)(F:Fd K y "_law_letters" (top 60) ZR f fd):QW P w K y b:=F.go 0 1 ["_law_speech_here","_law_found","_law_field","_law_count","_law_longer","_law_letter"] _ Hn λhN a A outer s H E c=>(ai ‹aq 1 (br (ae (ao ag) ag))› (ai (bz (L:=[2,3,4,5]) bJ rfl (oh (v_ 0)) (vg2 (i:=2) (j:=3) rfl hN rfl rfl (aM rfl) (aM rfl)) (ai ‹aq 4 (br ag)› (ai (bz (L:=[5]) bJ rfl (cj (v_ 1)) (cb (i:=5) hN rfl (eW rfl)) (aj ‹aq 4 (aw bw (v_ 4) (cv (ns:=["_law_value"]) (ys:=["_law_letter"]) (fr:=[5]) (cl:=[("_law_letter",‹s›+1)]) (csN [(".0",.local),("_law_value",.local),("_law_letter",.cell)]) rfl (d9 rfl z.range (ae (v_ 3) ag)) (λ_ _ _ _=>gr) (λ_ _ _ _=>cw) (λ_ _ _ _=>(aw bw (v_ 1) (ao (ae (v_ 0) ag)))) (by show cJ)))›)) (aj ‹aq 1 (v_ 4)›)))) (aj (av (v_ 1)))))
def Pj (z:Bl y)(F:Fd K y "_law_any" (top 61) ZR f fd):QX P w K y b:=F.go 0 1 ["_law_speech_here","_law_found","_law_field","_law_count","_law_one","_law_value"] _ Uv λhN a A outer s H E c=>(ai ‹aq 1 (ao (ae az ag))› (ai (bz (L:=[2,3,4,5]) bJ rfl (oh (v_ 0)) (vg2 (i:=2) (j:=3) rfl hN rfl rfl (aM rfl) (aM rfl)) (ai ‹aq 4 (ao (ae az (ae (v_ 2) (ae ah ag))))› (ai (bz (L:=[5]) bJ rfl (Jb rfl z.range (ae ah (ae (v_ 3) ag))) ‹cb 5› (aj ‹aq 4 (ao (ae az (ae (v_ 4) (ae (ao (ae az (ae (v_ 2) (ae (v_ 5) ag)))) ag))))›)) (aj ‹aq 1 (ao (ae az (ae (v_ 1) (ae (v_ 4) ag))))›)))) (aj (av (v_ 1)))))
def Oa (z:Bl y)(c:QX P w K y b)(F:Fd K y "_law_last" (top 62) ZL f fd):QY P w K y b:=F.go 1 1 ["_law_speech_here","_law_kind","_law_letter","_law_found","_law_k"] _ Pb λhN d A outer s H E a=>(ai (b9 (bq (d7 a.units) (v_ 1) ah) (aj (av (vc c a (ae (v_ 0) ag)))) bu) (ai (b9 (bq (d7 a.units) (v_ 1) ah) (aj (av (ao (ae az ag)))) bu) (ai ‹aq 3 (ao (ae az ag))› (ai (bz (L:=[4]) bJ rfl (d9 rfl z.range (ae (b7 fu rfl z.len ⋯ (bx (v_ 0) ag)) ag)) ‹cb 4› (aj (b9 (bq (d7 a.units) (v_ 1) ah) (aj ‹aq 3 (ao (ae az (ae (ao (ae az (ae (ba (ba (v_ 0) (v_ 4)) ah) (ae (ba (v_ 2) (v_ 4)) ag)))) (ae (v_ 3) ag))))›) bu))) (aj (av (v_ 3)))))))
def Ie (z:Bl y)(c:QX P w K y b)(d:QY P w K y b)(F:Fd K y "_law_saying" (top 63) ZT f fd):QZ P w K y b:=F.go 2 1 ["_law_speech_here","_law_many","_law_kind","_law_letter","_law_ways","_law_one","_law_last_here","_law_found","_law_right","_law_k"] _ J2 λhN e A outer s H E a=>(ai ‹aq 5 (ao (ae az (ae (vc c a (ae (v_ 0) ag)) (ae (ao (ae az ag)) ag))))› (ai ‹aq 6 (vc d a (ae (v_ 0) (ae (v_ 2) (ae (v_ 3) ag))))› (ai (b9 (bq yu (v_ 1) ah) (ai ‹aq 7 (v_ 5)› (ai ‹aq 8 (ao (ae az (ae (v_ 5) (ae (v_ 6) ag))))› (ai (bz (L:=[9]) bJ rfl (d9 rfl z.range (ae (aw Ae (v_ 1) ah) ag)) ‹cb 9› (ai ‹aq 7 (ao (ae az (ae (v_ 7) (ae (v_ 5) ag))))› (aj ‹aq 8 (ao (ae az (ae (v_ 5) (ae (v_ 8) ag))))›))) (aj (av (ba (br (ae (ao (ae az (ae (v_ 7) (ae (v_ 6) ag)))) (ae (v_ 8) ag))) (aw t7 (v_ 4) ah))))))) bu) (ai ‹aq 7 (v_ 5)› (ai (bz (L:=[9]) bJ rfl (d9 rfl z.range (ae (v_ 4) ag)) ‹cb 9› (aj ‹aq 7 (ba (br (ae (ao (ae az (ae (v_ 7) (ae (v_ 5) ag)))) (ae (ao (ae az (ae (v_ 5) (ae (v_ 7) ag)))) ag))) (aw t7 (v_ 9) ah))›)) (ai (b9 (bq (d7 a.units) (v_ 1) ah) (aj ‹aq 7 (ao (ae az (ae (v_ 7) ag)))›) bu) (aj (av (ao (ae az (ae (v_ 7) (ae (v_ 6) ag))))))))))))
def Ob (z:Bl y)(F:Fd K y "_law_rows" (top 64) ZE f fd):Q0 P w K y b:=F.go 0 1 ["_law_letters_here","_law_many","_law_found","_law_k","_law_longer","_law_row"] _ Pd λhN a A outer s H E c=>(ai ‹aq 2 (br (ae (ao ag) ag))› (ai (bz (L:=[3,4,5]) bJ rfl (d9 rfl z.range (ae (v_ 1) ag)) ‹cb 3› (ai ‹aq 4 (br ag)› (ai (bz (L:=[5]) bJ rfl (cj (v_ 2)) (cb (i:=5) hN rfl (eW rfl)) (aj ‹aq 4 (aw bw (v_ 4) (cv (ns:=["_law_letter"]) (ys:=["_law_row"]) (fr:=[5]) (cl:=[("_law_row",‹s›+1)]) (csN [(".0",.local),("_law_letter",.local),("_law_row",.cell)]) rfl (cj (v_ 0)) (λ_ _ _ _=>gr) (λ_ _ _ _=>cw) (λ_ _ _ _=>(aw bw (v_ 1) (ao (ae (v_ 0) ag)))) (by show cJ)))›)) (aj ‹aq 2 (v_ 4)›)))) (aj (av (v_ 2)))))
def Oc (z:Bl y)(F:Fd K y "_law_ends" (top 65) ZV f fd):Q1 P w K y b:=F.go 0 1 ZV _ Pf λhN c A outer s H E a=>(ai (b9 (bq (d7 a.units) (v_ 2) ah) (aj (av (v_ 0))) bu) (ai (b9 (bq (d7 a.units) (v_ 2) ah) (aj (av (br ag))) bu) (ai (b9 (bq (d7 a.units) (v_ 2) ah) (aj (av (cv (ns:=YN) (ys:=["_law_last_here"]) (fr:=[3]) (cl:=[("_law_last_here",‹s›+1)]) (csN [(".0",.local),("_law_one",.local),("_law_last_here",.cell)]) rfl (oh (i5 (v_ 1) (fj (qk ah)) fg)) (λ_ _ _ _=>gr) (λ_ _ _ _=>(px (bq (d7 a.units) (v_ 0) (v_ 1)))) (λ_ _ _ _=>(v_ 0)) (by show cJ)))) bu) (aj (av (lr afx rfl z.list ⋯ (bx (i5 (v_ 1) (fj (qk ah)) fg) ag)))))))
def Gd (z:Bl y)(F:Fd K y "_law_counted" (top 66) ZK f fd):Q2 P w K y b:=F.go 0 1 ["_law_letters_here","_law_many","_law_kind","_law_found","_law_k"] _ Hv λhN c A outer s H E a=>(ai (b9 (bq (d7 a.units) (v_ 2) ah) (aj (av ah)) bu) (ai ‹aq 3 ah› (ai (bz (L:=[4]) bJ rfl (d9 rfl z.range (ae (aw bw (v_ 1) (ba (br (ae ah (ae ah (ae (qk ah) (ae ah ag))))) (v_ 2))) ag)) ‹cb 4› (aj ‹aq 3 (aw og (v_ 3) (b7 fu rfl z.len ⋯ (bx (v_ 0) ag)))›)) (aj (av (v_ 3))))))
def Pk (z:Bl y)(c:Q1 P w K y b)(d:Q0 P w K y b)(F:Fd K y "_law_due" (top 67) ZU f fd):Q3 P w K y b:=F.go 1 1 ["_law_letters_here","_law_begun","_law_notes","_law_kind","_law_last_here","_law_found","_law_many","_law_row"] _ Ux λhN e A outer s H E a=>(ai ‹aq 5 (br ag)› (ai (b9 (bq (d7 a.units) (v_ 3) ah) (aj (av (v_ 5))) bu) (ai (bz (L:=[6,7]) bJ rfl (cj (v_ 2)) ‹cb 6› (aj (b9 (bq (d7 a.units) (v_ 6) ah) (aj ‹aq 5 (aw bw (v_ 5) (Ru a.units rfl z.sorted ⋯ (cv (ns:=YN) (ys:=["_law_begun"]) (fr:=[1]) (cl:=[("_law_begun",‹s›+1)]) (csN [(".0",.local),("_law_one",.local),("_law_begun",.cell)]) rfl (cj (vc c a (ae (v_ 0) (ae (ao (ae (v_ 1) ag)) (ae (v_ 3) (ae (v_ 4) ag)))))) (λ_ _ _ _=>gr) (λ_ _ _ _=>cw) (λ_ _ _ _=>(ao (ae (v_ 1) (ae (v_ 0) ag)))) (by show cJ))))›) (aj (bz (L:=[7]) bJ rfl (cj (vc d a (ae (v_ 0) (ae (v_ 6) ag)))) (cb (i:=7) hN rfl (eW rfl)) (aj ‹aq 5 (aw bw (v_ 5) (Ru a.units rfl z.sorted ⋯ (cv (ns:=YN) (ys:=["_law_begun","_law_row"]) (fr:=[1,7]) (cl:=[("_law_row",‹s›+2),("_law_begun",‹s›+1)]) (csN [(".0",.local),("_law_one",.local),("_law_begun",.cell),("_law_row",.cell)]) rfl (cj (vc c a (ae (v_ 0) (ae (v_ 7) (ae (v_ 3) (ae (v_ 4) ag)))))) (λ_ _ _ _=>gr) (λ_ _ _ _=>cw) (λ_ _ _ _=>(aw bw (aw bw (ao (ae (v_ 1) ag)) (v_ 2)) (ao (ae (v_ 0) ag)))) (by show cJ))))›)))))) (aj (av (v_ 5))))))
theorem zq (z:Bl y)(a:Kit K "tuple")(F:Fd K y "_law_parts" (top 68) ZG f fd):∀n,Fo P w K y b (n+1) "_law_parts" ZG (spP #v[P,w,K] 1 (A3 n))
 |0=>Fo.void F Fv
 |n+1=>(λc=>F.go (n+1) 1 ZG _ (Nl n) λhN e A outer s H E d=>(aj (av (aw bw ah (b7 (W8 rfl) rfl z.sum ⋯ (bx (cv (ns:=YN) (ys:=[]) (fr:=[]) (cl:=[]) (csN [(".0",.local),("_law_one",.local),("isinstance",.globalImplicit),("tuple",.globalImplicit),("_law_parts",.globalImplicit)]) rfl (oh (i5 (v_ 0) (fj ah) fg)) (λ_ _ _ _=>gr) (λ_ _ _ _=>(px (gq (ajy a rfl z.isinstance ⋯ rfl z.tuple ⋯ (v_ 0))))) (λ_ _ _ _=>(vc c d (ae (v_ 0) ag) (hk:=by lia))) (by show cJ)) ag)))))) (zq z a F n)
def Ig (z:Bl y)(cX:Xc P w K y b "TooGreat" D)(mD:bS K bF "TooGreat"=KE (KE (.ref D)))(mS:y "SwitchError"=KE (.ref SW))(xm:tS K (.ref D) (.ref SW)=KE MT)(xA:(QR P w K y b C D))
  (F:Fd K y "_law_caught" (top 69) ZX f fd):(Q5 P w K y b C):=by
 obtain⟨fh,fdh,Fh,mh,kh,bh⟩:_:=xA;have S:cz ["_law_speech_here","_law_saying_here","_law_letter","_law_count","_law_caught_here","_law_e"] ZX (bb (top 69)):=fsN;have hN:=S.nd;show .of F (L2.Fun.ok F.fn S (λvs H Q E h=>h.1) λwL A outer s H vs Q E hr h=>?_);obtain⟨hl,W,ds,R,rfl,ok,G,hg,q⟩:_:=h;show{_,jt ‹Ee 4 U9› (jt (ahj (i:=5) (j:=4) (λ_ _ z=>z) Fh hr rfl mh kh bh (VA.out (ae (v_ 0) (ae (v_ 1) (ae (v_ 2) (ae (v_ 3) ag))))) rfl mS rfl rfl hN rfl rfl rfl rfl) (rg (zu (pv 4)))),?_};obtain⟨T,s,a,n,rfl,hg'⟩:_:=id hg;cases G with
 |cons r0 G=>
 cases G with
 |cons r1 G=>
 cases G with
 |cons r2 G=>
 cases G with
 |cons r3 G=>
 cases G
 rename_i x0 x1 x2 x3
 have hC:∀j,W.C j=MS:=λj=>by
  cases e:W.C j with
  |none=>rfl
  |some a=>obtain⟨d,hd⟩:_:=ok.live j a e;simp at hd
 show{W,{[KE (.v (spT T)),KE (.v s.t),KE (.v (tI a)),KE (.v (iT n)),MS,MS],[]},λxB m1=>xB=[.val (spT T),.val s.t,.val (tI a),.val (iT n)],rfl,{ok,?_,rfl},rfl,λxB m1 O xs J l1 wA U=>?_}
 ·intro i u m
  match i,m with
  |0,m=>cases m;show#v[x0,rfl,r0]
  |1,m=>cases m;show#v[x1,rfl,r1]
  |2,m=>cases m;show#v[x2,rfl,r2]
  |3,m=>cases m;show#v[x3,rfl,r3]
  |4,m=>cases m
  |5,m=>cases m
  |j+6,m=>cases m
 subst J;have rp:Rps ⟨P,w,K⟩ O.F xs [spT T,s.t,tI a,iT n]:=Rps.of_vals U;have bk:∀l:Wd,Le ⟨O.F,O.H,λ_=>MS⟩ l->Wok ⟨P,w,K⟩ l []->Le W ⟨l.F,l.H,λ_=>MS⟩:=λl l3 I=>by
  obtain⟨l4,_⟩:_:=pz wA.ok l3 I;show(l1.trans l4).toLe.cut λj a e=>by cases e
 show{by rw[rp.length];rfl,{O.F,O.H,λ_=>MS},_,(λ_=>R (.val (.v .non))),R (.val xT),rfl,wA.ok.cut,rp,hg,λev l x r l3 c3 I _=>?_,λrx l H' g l3 I sm hd=>?_};{show{.non,rfl,q _ {l.F,l.H,λ_=>MS} _ r (bk l l3 I) (λ_=>rfl) I.cut (Rp.v rfl)}}
 show{D,KE g,rfl,rfl,xm,λe Y=>?_};have ne:g≠e:=λz=>(by rw[z,Y]at hd;cases hd);have l5:=bk l l3 I;have H2e:upd H' e (r8 e D (KE g)) e=KE (r8 e D (KE g)):=ay;have MQ:upd H' e (r8 e D (KE g)) g=KE (.xd (fs2 401 400)):=(by rw[au ne];show hd);have up:∀b o,l.H b=KE o->upd H' e (r8 e D (KE g)) b=KE o:=λb o p=>by
  have J:=sm b o p;rw[au (bp J Y)];show J
 have We:l.H e=MS:=by
  cases z:l.H e with
  |none=>rfl
  |some o=>have:=sm e o z;rw[Y]at this;cases this
 generalize upd H' e (r8 e D (KE g))=L at *;show{.ref e,rfl,?_};show q _ {λx=>if x=e\/x=g then L x else l.F x,L,λ_=>MS} _ rx {λb o p=>?_,λb o p n=>up b o (l5.fr b o p n),λb p n=>?_,λj b e=>(by cases e),λb p=>l5.dm b ?_} (λ_=>rfl) {λb o p=>?_,λj d h=>(by simp at h),λj a h=>(by cases h),λj k a h=>(by cases h)} (.xc {g,.inr (by change(if e=e\/e=g then L e else _)=_;rw[MZ (.inl rfl)];show H2e),by change(if g=e\/g=g then L g else _)=_;rw[MZ (.inr rfl)];show MQ} mD)
 ·have N:l.F b=KE o:=l5.same b o p;change(if b=e\/b=g then L b else l.F b)=KE o
  by_cases c:b=e\/b=g;{rw[MZ c];show up b o (I.sub b o N)};{rw[M' c];show N}
 ·have n':(if b=e\/b=g then L b else l.F b)≠MS:=n
  by_cases c:b=e\/b=g
  ·rcases c with rfl | rfl;{show .inl (l5.dm _ We)}
   ·cases z:W.H b with
    |none=>show .inl rfl
    |some o=>
     have J:=up b o (l5.fr b o z λj e=>by rw[hC]at e;cases e);rw[MQ]at J;cases J;show .inr (.inr {_,rfl,trivial})
  ·rw[M' c]at n';show l5.nw b p n'
 ·cases z:l.H b with
  |none=>rfl
  |some o=>cases(up b o z).symm.trans p
 ·have N:(if b=e\/b=g then L b else l.F b)=KE o:=p
  by_cases c:b=e\/b=g;{rw[MZ c]at N;show N};{rw[M' c]at N;show up b o (I.sub b o N)}
def Ge (z:Bl y)(c:Xc P w K y b "TooGreat" D)(mD:bS K bF "TooGreat"=KE (KE (.ref D)))(G:Xg K y D r x I J L)
  (F:Fd K y "_law_refused" (top 70) ["_law_e"] f fd):(Q6 P w K y b):=by
 have S:cz ["_law_e"] ["_law_e"] (bb (top 70)):=fsN;show .of F (L2.Fun.ok F.fn S (λvs H Q E h=>h.1) λwL A outer s H vs Q E hr h=>?_);let{hl,W,ds,R,rfl,ok,N,{rfl,q0},q}:=h;show{_,jt (Sg (PW.pt (ada (Kw (Va (vd Na rfl z.isinstance (by kernel_rfl) (df (pv 0) (df (rf (v:=.ref D) rfl c.at_ rfl) n9))))) (Vb (Kw (Va (vd Na rfl z.isinstance (by kernel_rfl) (df (pv 0) (df (Pl (v:=.ty "ValueError") rfl G.me (by kernel_rfl) rfl) n9)))))))) (rg (zu acz)) Pn) (rg (zu (Vd (aic (vd Ym rfl z.isinstance (by kernel_rfl) (df (pv 0) (df (Vs (df (rf (v:=.ref r) rfl G.mF rfl) (df (rf (v:=.ref x) rfl G.mN rfl) (df (rf (v:=.ref I) rfl G.mP rfl) (df (rf (v:=.ref J) rfl G.mT rfl) (df (rf (v:=.ref L) rfl G.mV rfl) n9)))))) n9)))) (Vc (Pv (afl hr.units) (K2 (df (Rq (pv 0) rfl) (df (Rq (pv 0) rfl) n9))) (K2 (df zt (df zt n9))) (aiq _)))))),?_};cases N with
 |cons r0 N=>
 cases N;let{e,D',rfl,i,Y}:=Rp.xcI r0;rw[mD]at Y;cases Y;have hC:∀j,W.C j=MS:=λj=>by
  cases e:W.C j with
  |none=>rfl
  |some a=>let{d,hd}:=ok.live j a e;simp at hd
 have i:=C1 i ok.sub;have nw:∀{H p o},H p=MS->Same H (upd H p o):=λ{H p o} l b u m=>(by rw[au (bp m l)];show m);have ix:=XAs.isX i;show{_,rfl,e,D,_,_,MT,rfl,ix,c.cls,G.k,rfl,G.g,MT,rfl,iteF ?_};show{_,rfl,e,D,_,_,MT,rfl,ix,c.cls,G.k,rfl,G.v,MT,rfl,iteF ?_};show{_,rfl,(by change 5<=sizeLine;decide),λp l=>?_};have KF:=C1 i (nw (o:=.tup [.ref r,.ref x,.ref I,.ref J,.ref L]) l);show{e,D,p,_,_,MU,rfl,XAs.isX KF,c.cls,G.k,ay,.cons rfl (.cons rfl (.cons rfl (.cons rfl (.cons rfl .nil)))),G.t,MU,rfl,?_};show{MT,rfl,iteT ?_};show{.ref e,rfl,e,D,_,.int 401,rfl,c.cls,c.n1,KF,rfl,?_};show{.ref e,rfl,e,D,_,.int 400,rfl,c.cls,c.n2,KF,by decide +kernel,?_};show{by rw[eP];change 2<=_;lia,λp1 O=>?_};show{by rw[eP];change 2<=_;lia,λp2 T=>?_};have np:p2≠p1:=λz=>(by rw[z,ay]at T;cases T);show{p1,p2,[.int 401,.int 400],[.int 401,.int 400],rfl,rfl,SqL.of (by rw[au (eT np),ay]),SqL.of ay,.inr {[.flat (.int 401),.flat (.int 400)],.cons (.flat rfl) (.cons (.flat rfl) .nil),.cons (.flat rfl) (.cons (.flat rfl) .nil),by simp[depL,Da.dep],?_}};have U:=Same.tr (nw (o:=.tup [.ref r,.ref x,.ref I,.ref J,.ref L]) l) (Same.tr (nw (o:=.lst [.int 401,.int 400]) O) (nw (o:=.lst [.int 401,.int 400]) T));show q _ {W.F,_,λ_=>MS} _ q0 {λ_ _ h=>h,λa o h n=>U a o h,λa h n=>NC h n,λj a e=>(by cases e),λb m=>?_} (λ_=>rfl) {λa o h=>U a o (ok.sub a o h),λj d h=>(by simp at h),λj a h=>(by cases h),λj k a h=>(by cases h)} (Rp.v rfl);cases z:W.H b with
 |none=>rfl
 |some o=>cases(U b o z).symm.trans m
def Cg (z:Bl y)(c:QX P w K y b)(d:Q5 P w K y b C)(e:Q6 P w K y b)(g:QR P w K y b C D)(F:Fd K y "_law_some_more" (top 71) ["_law_more"] f fd):Q7 P w K y b:=F.go 10 1 ["_law_more","_law_speech_here","_law_found","_law_value","_law_e"] _ D9 λhN j A outer s H E a=>(ai ‹aq 1 (ao (ae (ao (ae az (ae ah ag))) (ae (ao (ae az (ae ah ag))) ag)))› (ai ‹aq 2 (ao (ae az (ae (ao (ae az (ae (vc c a (ae (v_ 1) ag)) (ae (ao (ae az ag)) ag)))) (ae (vc c a (ae (v_ 1) ag)) ag))))› (ai (bz (L:=[3]) bJ rfl (d9 rfl z.range (ae (v_ 0) ag)) ‹cb 3› (aj ‹aq 2 (ao (ae az (ae (v_ 2) (ae (ao (ae az (ae az (ae (v_ 3) ag)))) ag))))›)) (ai ‹aq 4 (vc d a (ae (v_ 1) (ae (v_ 2) (ae (ao (ae ah (ae ah ag))) (ae ah ag)))))› (ai (b9 (bq yu (v_ 0) ah) (aj (av (vc e a (ae (v_ 4) ag)))) bu) (aj (av (Ww (yf og_is (v_ 4) Ez) (Wv (yf (d7 a.units) (b7 fu rfl z.len ⋯ (bx (vc g.calm a (ae (v_ 1) (ae (v_ 2) (ae (ao (ae ah (ae ah ag))) (ae ah ag))))) ag)) ah))))))))))
def Ci (z:Bl y)(F:Fd K y "_law_again_any" (top 72) ZR f fd):Q8 P w K y b:=F.go 0 1 ["_law_speech_here","_law_found","_law_field","_law_count","_law_value"] _ D6 λhN c A outer s H E a=>(ai ‹aq 1 (ao (ae az (ae (ba (ba (v_ 0) ah) ah) (ae ah ag))))› (ai (bz (L:=[2,3,4]) bJ rfl (oh (v_ 0)) (vg2 (i:=2) (j:=3) rfl hN rfl rfl (aM rfl) (aM rfl)) (aj (bz (L:=[4]) bJ rfl (d9 rfl z.range (ae (v_ 3) ag)) ‹cb 4› (aj (b9 (bq (Kq a.units) (ao (ae (v_ 2) (ae (v_ 4) ag))) (ao (ae (ba (ba (v_ 0) ah) ah) (ae ah ag)))) (aj ‹aq 1 (ao (ae az (ae (ao (ae az (ae (v_ 2) (ae (v_ 4) ag)))) (ae (v_ 1) ag))))›) bu))))) (aj (av (ao (ae az (ae (v_ 1) ag)))))))
def Kk (z:Bl y)(d:Q8 P w K y b)(e:Q3 P w K y b)(g:QW P w K y b)(c:Q5 P w K y b C)(j:QR P w K y b C D)(l:QX P w K y b)(m:Q6 P w K y b)(F:Fd K y "_law_alike" (top 73) [] f fd):Q9 P w K y b:=F.go 10 1 ["_law_speech_here","_law_one","_law_due_here","_law_two","_law_saying_here","_law_noted","_law_twice","_law_rows_here","_law_more"] _ Nx λhN n A outer s H E a=>(ai ‹aq 0 (ao (ae (ao (ae az (ae ah ag))) (ae (ao (ae az (ae ah ag))) ag)))› (ai ‹aq 1 (ao (ae az (ae (ao (ae az (ae (vc d a (ae (v_ 0) ag)) (ae (ao (ae az ag)) ag)))) (ae (vc d a (ae (v_ 0) ag)) ag))))› (ai ‹aq 2 (vc e a (ae (vc g a (ae (v_ 0) ag)) (ae (ao (ae ah (ae ah ag))) (ae (br (ae ah ag)) (ae ah (ae (ao (ae ah (ae ah ag))) ag))))))› (ai ‹aq 3 (ao (ae az (ae (v_ 1) (ae (v_ 1) ag))))› (ai (bz (L:=[4]) bJ rfl (cj (br (ae (v_ 1) (ae (v_ 3) (ae (ao (ae az (ae (v_ 1) (ae (v_ 3) ag)))) (ae (ao (ae az (ae (v_ 3) (ae (v_ 1) ag)))) ag)))))) ‹cb 4› (aj (b9 (Gu (E1 (bq C3 (vc c a (ae (v_ 0) (ae (v_ 4) (ae (ao (ae ah (ae ah ag))) (ae ah ag))))) Ez) (yg (bq (Kq a.units) (vc j.calm a (ae (v_ 0) (ae (v_ 4) (ae (ao (ae ah (ae ah ag))) (ae ah ag))))) (v_ 2))))) (aj (av tm)) bu))) (ai ‹aq 5 (ao (ae az (ae (vc l a (ae (v_ 0) ag)) (ae (ao (ae az ag)) ag))))› (ai ‹aq 6 (ao (ae az (ae (v_ 5) (ae (ao (ae az (ae (v_ 5) (ae (ao (ae az ag)) ag)))) ag))))› (ai ‹aq 7 (vc e a (ae (vc g a (ae (v_ 0) ag)) (ae (ao (ae ah (ae ah ag))) (ae (br (ae ah ag)) (ae ah (ae (ao (ae ah (ae ah ag))) ag))))))› (ai (bz (L:=[4]) bJ rfl (cj (br (ae (ao (ae az (ae (v_ 5) (ae (v_ 5) ag)))) (ae (ao (ae az (ae (v_ 5) (ae (v_ 6) ag)))) (ae (ao (ae az (ae (v_ 6) (ae (v_ 5) ag)))) ag))))) ‹cb 4› (aj (b9 (Gu (E1 (bq C3 (vc c a (ae (v_ 0) (ae (v_ 4) (ae (ao (ae ah (ae ah ag))) (ae ah ag))))) Ez) (yg (bq (Kq a.units) (vc j.calm a (ae (v_ 0) (ae (v_ 4) (ae (ao (ae ah (ae ah ag))) (ae ah ag))))) (v_ 7))))) (aj (av tm)) bu))) (ai ‹aq 8 (ao (ae az (ae (v_ 1) (ae (ao (ae az (ae (v_ 1) (ae (ao (ae az (ae az (ae ah ag)))) ag)))) ag))))› (aj (av (Ww (yf (d7 a.units) (b7 fu rfl z.len ⋯ (bx (v_ 2) ag)) ah) (Wv (vc m a (ae (vc c a (ae (v_ 0) (ae (v_ 8) (ae (ao (ae ah (ae ah ag))) (ae ah ag))))) ag))))))))))))))))
def amb (z:Bl y)(l:Q9 P w K y b)(m:QV P w K y b)(d:QS P w K y b)(n:QW P w K y b)(p:QT P w K y b)(e:Q7 P w K y b)(c:QU P w K y b)(q:Q4 P w K y b)(g:QZ P w K y b)(r:Q2 P w K y b)(u:Q1 P w K y b)(x:Q5 P w K y b C)(G:Q6 P w K y b)(I:QR P w K y b C D)(J:Q3 P w K y b)(F:Fd K y "law" (top 74) ["_law_script"] f fd):fq P w K y b CX0 162 f fd ["_law_script"] (spP #v[P,w,K] 1 g_law):=F.goL 161 2 ["_law_script","_law_speech_here","_law_letters_here","_law_purse_here","_law_begun","_law_last_here","_law_many","_law_kind","_law_ways","_law_saying_here","_law_count","_law_notes","_law_whole","_law_e"] _ f_law λhN N A outer s H E a=>(ai (b9 (Ad (gq (vc0 l a))) (aj (av tm)) bu) (ai ‹aq 1 (vc m a (ae (vc d a (ae (v_ 0) (ae ah ag))) (ae ah ag)))› (ai (aq (i:=2) hN rfl (eW rfl) (vc n a (ae (v_ 1) ag))) (ai ‹fv 3 0 (vc p a (ae (vc d a (ae (v_ 0) (ae ah ag))) ag))› (ai (b9 (Gu (E1 (Ad (gq (vc e a (ae ah ag)))) (yg (Ad (gq (vc e a (ae (aw bw ah (vcr c a (bx (v_ 3) (ae ah ag)))) ag))))))) (aj (av tm)) bu) (ai ‹aq 4 (ba (v_ 2) (vcr c a (bx (v_ 3) (ae (b7 fu rfl z.len ⋯ (bx (v_ 2) ag)) ag))))› (ai ‹aq 5 (ba (v_ 2) (vcr c a (bx (v_ 3) (ae (b7 fu rfl z.len ⋯ (bx (v_ 2) ag)) ag))))› (ai (aq (i:=6) hN rfl (eW rfl) (vcr c a (bx (v_ 3) (ae ah ag)))) (ai (aq (i:=7) hN rfl (eW rfl) (vcr c a (bx (v_ 3) (ae ah ag)))) (ai ‹aq 8 (vcr c a (bx (v_ 3) (ae ah ag)))› (ai (C9 (L:=[]) bJ (Gu (ajq (bq yu (v_ 8) ah) (yg (bq yu (vc q a (ae (vc g a (ae (v_ 1) (ae (v_ 6) (ae (v_ 7) (ae (v_ 5) (ae (v_ 8) ag)))))) ag)) ah)))) (aj ‹aq 8 (aw Ae (v_ 8) ah)›)) (ai ‹aq 9 (vc g a (ae (v_ 1) (ae (v_ 6) (ae (v_ 7) (ae (v_ 5) (ae (v_ 8) ag))))))› (ai (bz (L:=[10,11,12,13]) bJ rfl (d9 rfl z.range (ae ah ag)) ‹cb 10› (ai (jv (i0:=11) hN rfl rfl (ns:=YN) (ys:=["_law_many"]) (fr:=[6]) (cl:=[("_law_many",‹s›+2)]) (csN [(".0",.local),("_law_one",.local),("_law_many",.cell)]) rfl (d9 rfl z.range (ae (aw bw (v_ 10) ah) ag)) (λ_ _ _ _=>gr) (λ_ _ _ _=>(px (Gu (E1 (bq (d7 a.units) (v_ 1) ah) (yg (bq (d7 a.units) (v_ 0) (v_ 1))))))) (λ_ _ _ _=>(v_ 0)) (by show cJ)) (ai ‹aq 12 (b7 (W8 rfl) rfl z.sum ⋯ (bx (cv (ns:=YN) (ys:=["_law_kind","_law_letters_here"]) (fr:=[7,2]) (cl:=[("_law_letters_here",‹s›+1),("_law_kind",‹s›+3)]) (csN [(".0",.local),("_law_one",.local),("_law_counted",.globalImplicit),("_law_kind",.cell),("_law_letters_here",.cell)]) rfl (cj (v_ 11)) (λ_ _ _ _=>gr) (λ_ _ _ _=>(px (bq yu (v_ 0) ah))) (λ_ _ _ _=>(vc r a (ae (v_ 2) (ae (v_ 0) (ae (v_ 1) ag))))) (by show cJ)) ag))› (ai (b9 (bq (E5 a.units) ah (v_ 11)) (aj ‹aq 12 (aw bw (v_ 12) (b7 fu rfl z.len ⋯ (bx (vc u a (ae (v_ 2) (ae (ao (ae (v_ 4) ag)) (ae (v_ 7) (ae (v_ 5) ag))))) ag)))›) bu) (ai ‹aq 13 (vc x a (ae (v_ 1) (ae (v_ 9) (ae (v_ 4) (ae (v_ 10) ag)))))› (aj (b9 (bq yu (v_ 12) ah) (aj (b9 (Ad (gq (vc G a (ae (v_ 13) ag)))) (aj (av tm)) bu)) (aj (b9 (bq C3 (v_ 13) Ez) (aj (av tm)) (aj (b9 (bq (Kq a.units) (vc I.calm a (ae (v_ 1) (ae (v_ 9) (ae (v_ 4) (ae (v_ 10) ag))))) (vc J a (ae (v_ 2) (ae (v_ 4) (ae (v_ 11) (ae (v_ 7) (ae (v_ 5) ag))))))) (aj (av tm)) bu))))))))))) (aj (av tm)))))))))))))))
end
def law_told (ns:LQ)(_:ns.length<=63)(R:Ev->Prop)(h:R (.val (.v (.bl MT)))):g_law [.scr (ns.map λi=>Tr.v (.int i))] R:=#v[ns,rfl,h]
open Fly
abbrev sTG:MY:=ft (top 6) 0
def scTG:cz ZJ ZJ (bb sTG):=fsN
def xc_mk {P:aQ}{w:bC}{K:aE}{mg:Str->AK}{base:MW}{a D f:MV}{nm q:Str}{N:MV}{bs sub:AW}{sn:AZ}{ab:Bool}{col:Option Bool}{dd i j:Option MV}{k0 k1 k2 k3 k5:AK}{m:Array AK}{kV n p cd ct:aL}
  (mS:mg "SwitchError"=KE (.ref a)) (ga:jM K (.ref a) "__getattribute__"=KE (KE (.builtin "type.__getattribute__"))) (rd:lX K a (.type "type")=MT) (fc:lY K (.ref a) (.type "type") "__init__"=KE (.val (.builtin "ValueError.__init__")))
  (r:mg "TooGreat"=KE (.ref D)) (s:K.lookup D=KE (eR nm q D N bs (.ref a::bmV) MT sn sub ab col dd k0 k1 k2 k3 k5 "ValueError.__new__"))
  (sa:bH K (.ref D) "__setattr__"=KE (KE (.builtin "object.__setattr__"))) (u:bH K (.ref D) "__getattribute__"=KE (KE (.builtin "BaseException.__getattribute__"))) (gt:bH K (.ref D) "__getattr__"=KE MS) (x:dH K (.ref D)=MT)
  (n1:bH K (.ref D) "number"=KE MS) (n2:bH K (.ref D) "most"=KE MS) (hi:bH K (.ref D) "__init__"=KE (KE (.ref f)))
  (l:K.lookup f=KE {.type "function",i,.func (fM "__init__" "TooGreat.__init__" (gx sTG) (ff sTG) (bb sTG) .none kV n p j cd ct),m}) (c:kR K cd "TooGreat.__init__"=MT) (k:dH K (.ref f)=MT):Xc P w K mg base "TooGreat" D:=by
 have F:=V1 (st:=sTG) l c k;have A:we K D:={{_,_,_,_,_,_,_,_,_,_,_,_,_,_,_,s,alb a},sa,u,gt,x};show{A,r,n1,n2,f,_,hi,{_,l,rfl},?_,vb (ps:=ZJ) F (by intro _;intros;rfl)};exists F,scTG;{obtain⟨e,y,z,rfl,_⟩:_:=h;rfl}
 obtain⟨e,y,z,rfl,c,n1,n2,C,E,b,q⟩:_:=h;show{_,jt (Po (aby rfl mS ga rd fc (df (pv 0) (df (ahh (Rr (pv 1) (ald ⋯ (Rr (pv 2) alc))) #v[]) n9)))) (jt (Ro (pv 0) (pv 1) rfl) (rg (Ro (pv 0) (pv 2) rfl))),?_};show{_,rfl,_,rfl,C,_,rfl,E,λt=>{e,D,MS,.str t,rfl,b,c,?_}};show{_,rfl,_,rfl,e,D,rfl,c,n1,.inl {b,λd G g=>?_}};show{_,rfl,_,rfl,e,D,rfl,c,n2,.inr {d,[("number",y)],ay,(by rw[au g,ay]),(by change 1<1000;decide),?_}};have H:ir "most" z [("number",y)]=([("number",y),("most",z)]:List (Str×V)):=by
  change(if ("number":Str)="most" then [(("number":Str),z)]else ("number",y)::ir "most" z [])=_
  rw[M' ⋯];rfl
 rw[H];show q d G g
def all_mk {l:oZ}{K:aE}(X:K.In h)(G:h.Ns bF mg)(KD:mg "law"=KE (.ref fa))
  (zrange:bS K bF "range"=KE MS)
  (zabs:bS K bF "abs"=KE MS)
  (zint:bS K bF "int"=KE MS)
  (zmax:bS K bF "max"=KE MS)
  (zmin:bS K bF "min"=KE MS)
  (ztuple:bS K bF "tuple"=KE MS)
  (zlist:bS K bF "list"=KE MS)
  (zlen:bS K bF "len"=KE MS)
  (zisinstance:bS K bF "isinstance"=KE MS)
  (zenumerate:bS K bF "enumerate"=KE MS)
  (zsum:bS K bF "sum"=KE MS)
  (zall:bS K bF "all"=KE MS)
  (zany:bS K bF "any"=KE MS)
  (zzip:bS K bF "zip"=KE MS)
  (zreversed:bS K bF "reversed"=KE MS)
  (zset:bS K bF "set"=KE MS)
  (zsorted:bS K bF "sorted"=KE MS)
  (zdict:bS K bF "dict"=KE MS)
  (zbool:bS K bF "bool"=KE MS)
  (mC:bS K bF "Machine"=KE (KE (.ref i)))
  (pgC:mZ K i uM=MT)
  (hdC:oS K i=MT)
  (poC:rK K i=MT)
  (saC:bH K (.ref i) "__setattr__"=KE (KE (.builtin "object.__setattr__")))
  (mkC:pQ K i=MT)
  (kpC:dH K (.ref i)=MT)
  (wK:bH K (.ref i) "letters"=KE MS)
  (xX:bH K (.ref i) "ways"=KE MS)
  (ktuplenon:dN K (.type "NoneType") (.type "tuple")=KE MU)
  (ktuplebl:dN K (.type "bool") (.type "tuple")=KE MU)
  (ktupleint:dN K (.type "int") (.type "tuple")=KE MU)
  (ktuplestr:dN K (.type "str") (.type "tuple")=KE MU)
  (ktupletup:dN K (.type "tuple") (.type "tuple")=KE MT)
  (ktuplelst:dN K (.type "list") (.type "tuple")=KE MU)
  (mS:bS K bF "SwitchError"=KE (KE (.ref cS)))
  (wga:jM K (.ref cS) "__getattribute__"=KE (KE (.builtin "type.__getattribute__")))
  (wrd:lX K cS (.type "type")=MT)
  (wfc:lY K (.ref cS) (.type "type") "__init__"=KE (.val (.builtin "ValueError.__init__")))
  (mD:bS K bF "TooGreat"=KE (KE (.ref f)))
  (lcD:K.lookup f=KE (eR nmD qD f ND bsD (.ref cS::bmV) MT snD subD abD colD ddD k0D k1D k2D k3D k5D "ValueError.__new__"))
  (saD:bH K (.ref f) "__setattr__"=KE (KE (.builtin "object.__setattr__")))
  (gaD:bH K (.ref f) "__getattribute__"=KE (KE (.builtin "BaseException.__getattribute__")))
  (gtD:bH K (.ref f) "__getattr__"=KE MS)
  (kpD:dH K (.ref f)=MT)
  (n1D:bH K (.ref f) "number"=KE MS)
  (n2D:bH K (.ref f) "most"=KE MS)
  (iD:bH K (.ref f) "__init__"=KE (KE (.ref fD)))
  (lD:K.lookup fD=KE {.type "function",odD,.func (fM "__init__" "TooGreat.__init__" (gx sTG) (ff sTG) (bb sTG) .none kVD dcD pmD anD cdD ctD),slD})
  (coD:kR K cdD "TooGreat.__init__"=MT)
  (kfD:dH K (.ref fD)=MT)
  (xm:tS K (.ref f) (.ref cS)=KE MT)
  (mF:bS K bF "NoField"=KE (KE (.ref cF)))
  (mN:bS K bF "NoNet"=KE (KE (.ref cN)))
  (mP:bS K bF "NoPlain"=KE (KE (.ref cP)))
  (mT:bS K bF "NoTest"=KE (KE (.ref cT)))
  (mV:bS K bF "NoValue"=KE (KE (.ref cV)))
  (zVE:bS K bF "ValueError"=KE MS)
  (kD:bH K (.ref f) "__class__"=KE (KE (.builtin "object.__class__")))
  (kgD:dN K (.ref f) (.ref f)=KE MT)
  (kvD:dN K (.ref f) (.type "ValueError")=KE MT)
  (ktD:tT K (.ref f) [.ref cF,.ref cN,.ref cP,.ref cT,.ref cV]=KE MU)
  (aaHOLDING_SORTS:bS K bF "HOLDING_SORTS"=KE (KE (.ref c)))
  (llHOLDING_SORTS:K.lookup c=KE {.type "tuple",j,.seq #[.str "not" m,.str "either" q,.str "then" r,.str "again" u] D,A})
  (aaTEST_SORTS:bS K bF "TEST_SORTS"=KE (KE (.ref e)))
  (llTEST_SORTS:K.lookup e=KE {.type "tuple",N,.seq #[.str "none" O,.str "all" Q,.str "is" T,.str "not" U,.str "either" Y,.str "then" tTEST_SORTS5] nTEST_SORTS,slTEST_SORTS})
  (aaFIELD_SORTS:bS K bF "FIELD_SORTS"=KE (KE (.ref d)))
  (llFIELD_SORTS:K.lookup d=KE {.type "tuple",H,.seq #[.str "is" I,.str "put" J] nFIELD_SORTS,L})
  (aaMOST_TRAILS:bS K bF "MOST_TRAILS"=KE (KE (.int 400 tMOST_TRAILS)))
  (l1:Af K f1 "nothing" (top 14))
  (l2:Af K f2 "the_same" (top 15))
  (l3:Af K f3 "either_of" (top 16))
  (l4:Af K f4 "where_nothing" (top 20))
  (l5:Af K f5 "letters_in" (top 21))
  (l6:Af K f6 "reached_from" (top 18))
  (l7:Af K f7 "one_then_other" (top 17))
  (l8:Af K f8 "again_and_again" (top 19))
  (l9:Af K f9 "filling" (top 44))
  (EY:Af K f10 "note_ways" (top 40))
  (l11:Af K f11 "behind" (top 43))
  (l12:Af K f12 "either_ways" (top 41))
  (l13:Af K f13 "then_ways" (top 42))
  (l14:Af K f14 "must_value" (top 12))
  (l15:Af K f15 "place_of" (top 11))
  (l16:Af K f16 "is_relation" (top 38))
  (l17:Af K f17 "put_relation" (top 39))
  (l18:Af K f18 "held_in" (top 27))
  (l19:Af K f19 "parts_of" (top 26))
  (l20:Af K f20 "is_test" (top 30))
  (l21:Af K f21 "must_test" (top 31))
  (l22:Af K f22 "must_part" (top 29))
  (l23:Af K f23 "must_saying" (top 28))
  (l24:Af K f24 "plain_relation" (top 37))
  (DR:Af K f25 "again_row" (top 46))
  (HD:Af K f26 "again_ways" (top 45))
  (CG:Af K f27 "ways_of_part" (top 36))
  (l28:Af K f28 "ways_of" (top 35))
  (l29:Af K f29 "each_longer" (top 10))
  (l30:Af K f30 "letters_of" (top 9))
  (l31:At K f31 "__init__" "Runs.__init__" (ft (top 33) 0))
  (m31:bS K bF "Runs"=KE (KE (.ref c31)))
  (g31:jM K (.ref c31) "__getattribute__"=KE (KE (.builtin "type.__getattribute__")))
  (r31:lX K c31 (.type "type")=MT)
  (b31:lY K (.ref c31) (.type "type") "__init__"=KE (.val (.ref f31)))
  (l32:At K f32 "rooms" "Runs.rooms" (ft (top 33) 1))
  (b32:bH K (.ref i) "rooms"=KE (KE (.ref f32)))
  (i32:iB K (.ref f32)=MT)
  (l33:At K f33 "masks_from" "Runs.masks_from" (ft (top 33) 6))
  (b33:bH K (.ref i) "masks_from"=KE (KE (.ref f33)))
  (i33:iB K (.ref f33)=MT)
  (l34:At K f34 "ends_from" "Runs.ends_from" (ft (top 33) 4))
  (b34:bH K (.ref i) "ends_from"=KE (KE (.ref f34)))
  (i34:iB K (.ref f34)=MT)
  (l35:At K f35 "ends" "Runs.ends" (ft (top 33) 2))
  (b35:bH K (.ref i) "ends"=KE (KE (.ref f35)))
  (i35:iB K (.ref f35)=MT)
  (l36:At K f36 "goes_from" "Runs.goes_from" (ft (top 33) 5))
  (b36:bH K (.ref i) "goes_from"=KE (KE (.ref f36)))
  (i36:iB K (.ref f36)=MT)
  (l37:At K f37 "goes" "Runs.goes" (ft (top 33) 3))
  (b37:bH K (.ref i) "goes"=KE (KE (.ref f37)))
  (i37:iB K (.ref f37)=MT)
  (l38:At K f38 "__init__" "Machine.__init__" (ft (top 34) 0))
  (b38:bH K (.ref i) "__init__"=KE (KE (.ref f38)))
  (i38:iB K (.ref f38)=MT)
  (l39:Af K f39 "ended" (top 51))
  (l40:Af K f40 "gone_on" (top 52))
  (l41:Af K f41 "one_note_ahead" (top 54))
  (l42:Af K f42 "that_can_end" (top 53))
  (l43:Af K f43 "runs_from" (top 50))
  (l44:Af K f44 "trails" (top 49))
  (l45:Af K f45 "_law_cell" (top 56))
  (l46:Af K f46 "_law_purse" (top 57))
  (l47:Af K f47 "_law_take" (top 58))
  (l48:Af K f48 "_law_speech" (top 59))
  (l49:Af K f49 "_law_letters" (top 60))
  (l50:Af K f50 "_law_any" (top 61))
  (l51:Af K f51 "_law_last" (top 62))
  (l52:Af K f52 "_law_saying" (top 63))
  (l53:Af K f53 "_law_rows" (top 64))
  (l54:Af K f54 "_law_ends" (top 65))
  (l55:Af K f55 "_law_counted" (top 66))
  (l56:Af K f56 "_law_due" (top 67))
  (l57:Af K f57 "_law_parts" (top 68))
  (l58:Af K f58 "_law_caught" (top 69))
  (l59:Af K f59 "_law_refused" (top 70))
  (l60:Af K f60 "_law_some_more" (top 71))
  (l61:Af K f61 "_law_again_any" (top 72))
  (l62:Af K f62 "_law_alike" (top 73))
  (l63:Af K f63 "law" (top 74)) :
  ∃fd:gG,(∀(s:aG)(v:aL),rP s fd {[v],[]} [("_law_script",v)])/\∀base:MW,K.In base->base.Ns bF mg->fq l.prog w K mg base CX0 162 fa fd ["_law_script"] (spP #v[l.prog,w,K] 1 g_law):=by
 have z:=bl_mk X G (by simp only[List.forall_mem_cons,dS,false_implies,implies_true,and_true];show#v[zrange,zabs,zint,zmax,zmin,ztuple,zlist,zlen,zisinstance,zenumerate,zsum,zall,zany,zzip,zreversed,zset,zsorted,zdict,zbool]);have E:Cls K i:=#v[pgC,hdC,poC,saC];have AA:Kit K "tuple":=#v[ktuplenon,ktuplebl,ktupleint,ktuplestr,ktupletup,ktuplelst];let{_,F1}:=l1.fd (ps:=ZD) X G;let{_,F2}:=l2.fd (ps:=ZD) X G;let{_,F3}:=l3.fd (ps:=ZI) X G;let{_,F4}:=l4.fd (ps:=ZC) X G;let{_,F5}:=l5.fd (ps:=YQ) X G;let{_,F6}:=l6.fd (ps:=YR) X G;let{_,F7}:=l7.fd (ps:=ZP) X G;let{_,F8}:=l8.fd (ps:=ZC) X G;let{_,F9}:=l9.fd (ps:=YG) X G;let{_,F10}:=EY.fd (ps:=ZD) X G;let{_,F11}:=l11.fd (ps:=ZP) X G;let{_,F12}:=l12.fd (ps:=ZI) X G;let{_,F13}:=l13.fd (ps:=ZP) X G;let{_,F14}:=l14.fd (ps:=YM) X G;let{_,F15}:=l15.fd (ps:=YT) X G;let{_,F16}:=l16.fd (ps:=ZS) X G;let{_,F17}:=l17.fd (ps:=ZS) X G;let{_,F18}:=l18.fd (ps:=ZO) X G;let{_,F19}:=l19.fd (ps:=ZO) X G;let{_,F20}:=l20.fd (ps:=ZO) X G;let{_,F21}:=l21.fd (ps:=ZO) X G;let{_,F22}:=l22.fd (ps:=YL) X G;let{_,F23}:=l23.fd (ps:=YJ) X G;let{_,F24}:=l24.fd (ps:=YV) X G;let{_,F25}:=DR.fd (ps:=YK) X G;let{_,F26}:=HD.fd (ps:=YG) X G;let{_,F27}:=CG.fd (ps:=ZM) X G;let{_,F28}:=l28.fd (ps:=YY) X G;let{_,F29}:=l29.fd (ps:=YI) X G;let{_,F30}:=l30.fd (ps:=["speech"]) X G;let{_,F31}:=l31.cd (ps:=ZH) X G m31 g31 r31 b31;let{_,F32}:=l32.md (ps:=["self"]) E b32 i32;let{_,F33}:=l33.md (ps:=ZW) E b33 i33;let{_,F34}:=l34.md (ps:=ZW) E b34 i34;let{_,F35}:=l35.md (ps:=ZQ) E b35 i35;let{_,F36}:=l36.md (ps:=ZW) E b36 i36;let{_,F37}:=l37.md (ps:=ZQ) E b37 i37;let{_,F38}:=l38.kd (ps:=YS) X G mC mkC b38 i38 kpC;let{_,F39}:=l39.fd (ps:=YO) X G;let{_,F40}:=l40.fd (ps:=ZF) X G;let{_,F41}:=l41.fd (ps:=YU) X G;let{_,F42}:=l42.fd (ps:=YH) X G;let{_,F43}:=l43.fd (ps:=YX) X G;let{_,F44}:=l44.fd (ps:=ZN) X G;let{_,F45}:=l45.fd (ps:=ZA) X G;let{_,F46}:=l46.fd (ps:=YF) X G;let{_,F47}:=l47.fd (ps:=Z') X G;let{_,F48}:=l48.fd (ps:=YZ) X G;let{_,F49}:=l49.fd (ps:=ZR) X G;let{_,F50}:=l50.fd (ps:=ZR) X G;let{_,F51}:=l51.fd (ps:=ZL) X G;let{_,F52}:=l52.fd (ps:=ZT) X G;let{_,F53}:=l53.fd (ps:=ZE) X G;let{_,F54}:=l54.fd (ps:=ZV) X G;let{_,F55}:=l55.fd (ps:=ZK) X G;let{_,F56}:=l56.fd (ps:=ZU) X G;let{_,F57}:=l57.fd (ps:=ZG) X G;let{_,F58}:=l58.fd (ps:=ZX) X G;let{_,F59}:=l59.fd (ps:=["_law_e"]) X G;let{_,F60}:=l60.fd (ps:=["_law_more"]) X G;let{_,F61}:=l61.fd (ps:=ZR) X G;let{_,F62}:=l62.fd0 X G;let{fd,F63,bl}:=l63.law (p:="_law_script") X G KD;show{fd,bl,λbase _ _=>?_};have MR:∀{k:Nat}{x:Str}{ps:AZ}{C:MV}{fs:List (Str×V)}{n:Nat}{g:GX},Fx l.prog w K mg base k x ps C fs n g->Fx l.prog w K mg base k x ps C fs n g:=id;have a:∀{k:Nat}{x:Str}{ps:AZ}{sp:Sp},Fo l.prog w K mg base k x ps sp->Fo l.prog w K mg base k x ps sp:=id;have FM:∀{k:Nat}{C:MV}{x:Str}{ps:AZ}{sp:Sp},Mo l.prog w K mg base k C x ps sp->Mo l.prog w K mg base k C x ps sp:=id;have SKo:∀{k:Nat}{x:Str}{C:MV}{ps:AZ}{sp:Sp},Ko l.prog w K mg base k x C ps sp->Ko l.prog w K mg base k x C ps sp:=id;have SCo:∀{k:Nat}{y x:Str}{ps:AZ}{sp:Sp},Co l.prog w K mg base k y x ps sp->Co l.prog w K mg base k y x ps sp:=id;have cX:Xc l.prog w K mg base "TooGreat" f:=xc_mk (eZ X G mS) wga wrd wfc (eZ X G mD) lcD saD gaD gtD kpD n1D n2D iD lD coD kfD;have XG:Xg K mg f cF cN cP cT cV:={kD,kgD,kvD,ktD,eZ X G mF,eZ X G mN,eZ X G mP,eZ X G mT,eZ X G mV,PySem.W.mg_none_of X G zVE};have yA:Gc ⟨l.prog,w,K⟩ mg "HOLDING_SORTS" qp:=Ec (ss:=["not","either","then","again"]) X G aaHOLDING_SORTS llHOLDING_SORTS (by change 4<=1000;decide) (.cons {_,rfl} (.cons {_,rfl} (.cons {_,rfl} (.cons {_,rfl} .nil))));have zA:Gc ⟨l.prog,w,K⟩ mg "TEST_SORTS" vx:=Ec (ss:=YW) X G aaTEST_SORTS llTEST_SORTS (by change 6<=1000;decide) (.cons {_,rfl} (.cons {_,rfl} (.cons {_,rfl} (.cons {_,rfl} (.cons {_,rfl} (.cons {_,rfl} .nil))))));have yO:Gc ⟨l.prog,w,K⟩ mg "FIELD_SORTS" uh:=Ec (ss:=["is","put"]) X G aaFIELD_SORTS llFIELD_SORTS (by change 2<=1000;decide) (.cons {_,rfl} (.cons {_,rfl} .nil));have xM:Gc ⟨l.prog,w,K⟩ mg "MOST_TRAILS" ki:={.int 400,.int 400 _,eZ X G aaMOST_TRAILS,{_,rfl},λF=>.v rfl};have xD:=a (U0 z F1);have wZ:=a (Pg z F2);have wY:=a (Ny z F3);have yB:=a (Ed z F4);have zC:=a (Ke z F5);have yH:=a (Fw z F6);have wN:=a (Ca z yH F7);have xP:=a (A7 z wY wZ F8);have yF:=a (U1 z xD F9);have zP:=a (Nz z xD wZ F10);have yY:=a (Y3 z yF F11);have yQ:=a (Hy z wY yF yY F12);have zO:=a (N0 z wN yY F13);have yZ:=a (Kf z F14);have xS:=a (Ph z yZ F15);have yP:=a (Hz z F16);have yI:=a (Fy z F17);have yG:=a (U2 z yA F18);have xC:=a (Pi z yG F19);have AC:=a (U3 z zA xC F20);have zL:=a (N1 z AC F21);have zM:=a (N2 z yO xS zL F22);have yS:=a (Ia z xC zM F23);have xU:=a (Cb z xD wZ xS yP yI F24);have zN:=a (N3 z wN wY F25);have zB:=a (Kg z xP zN F26);have yJ:=a (Fz z yQ zO zB yB zP xU F27);have AD:=a (U4 z xC yG yJ F28);have yR:=a (Ib z F29);have zD:=a (Kh z yR F30);have BQ:=SCo (N4 z E wK xX F31);have zE:=FM (Ki z E xX F32);have wU:=FM (A8 z E wK xX F33);have wV:=FM (Cc z E wK zC wU F34);have zR:=FM (N5 z wV F35);have wW:=FM (Ce z E wK wU F36);have zQ:=FM (N6 z wW F37);have AF:=SKo (F0 z yS zD BQ AD F38);have AV:=a (acy z wV F39);have AE:=a (U5 z wW F40);have xV:=a (Cf z zQ F41);have yK:=a (Ga z E wK zE zR xV F42);have zS:=MR (N7 z xM cX yK AV AE F43);have xA:=MR (Y4 z AF zS F44);have yN:=a (N8 z F45);have xH:=a (Kj z F46);have wH:=a (N9 z F47);have yT:=a (Ic z xH wH F48);have wX:=a (Gb z F49);have wQ:=a (Pj z F50);have zT:=a (Oa z wQ F51);have xY:=a (Ie z wQ zT F52);have zU:=a (Ob z F53);have xG:=a (Oc z F54);have yL:=a (Gd z F55);have xN:=a (Pk z xG zU F56);have xQ:=zq (P:=l.prog) (w:=w) (b:=base) z AA F57 160;have wJ:=a (Ig z cX mD (eZ X G mS) xm xA F58);have wM:=a (Ge z cX mD XG F59);have xJ:=a (Cg z wQ wJ wM xA F60);have xI:=a (Ci z F61);have zF:=a (Kk z xI xN wX wJ xA wQ wM F62);show amb z zF yT yN wX xH xJ wH xQ xY yL xG wJ wM xA xN F63
end PB.N24
namespace PySem.W.Fast
def tw8592415650455020615:=0
def tw7999863443536431074:=0
def tw40074242594890260:=0
def tw3196548419264617399:=0
def tw17382255297477951431:=0
def tw7680124105624085663:=0
def tw12350054846179834782:=0
def tw12063132958884962325:=0
def tw9147044145708854309:=0
def tw3365879344950835870:=0
def tw5088254383350124461:=0
def tw16159517103468231154:=0
def tw2424683050390693317:=0
def tw16671625054607593650:=0
def tw602077222476627338:=0
def tw1606845635863449235:=0
def tw8605478404308961580:=0
def tw9533980076703492546:=0
def tw990413260453161099:=0
def tw12683745727214087822:=0
def tw18297945073297300205:=0
def tw7958002365976601745:=0
def tw9148341593040501943:=0
def tw12974273592210187785:=0
def tw3895417298613053173:=0
def tw6938416682546908404:=0
def tw11605933413144562589:=0
def tw13513637345355650305:=0
def tw5841054031695869859:=0
def tw14929991710981556074:=0
def tw12901434975726448544:=0
def tw15145642271071643823:=0
def tw7626433390375756852:=0
def tw2934870472301464591:=0
def tw3418348761091271999:=0
def tw2886365955269742965:=0
def tw14385813341398450943:=0
def tw8818077837216657108:=0
def tw10713825152662445429:=0
def tw6572270327914333828:=0
def tw8279864207303120151:=0
def tw4972593000321608003:=0
def tw1841661490381284454:=0
def tw17071690247243673394:=0
def tw12140477271736024121:=0
def tw13456779063998641923:=0
def tw16130208874653540498:=0
def tw4494356941893837859:=0
def tw15248237730839435280:=0
def tw13783867250596807151:=0
def tw5791135007762387225:=0
def tw2200978094045928589:=0
def tw14846996732425851726:=0
def tw12332666169659407626:=0
def tw9032621732224210895:=0
def tw10729958027182798433:=0
def tw16097819226989221772:=0
def tw292325610871070081:=0
def tw12543056212924464189:=0
def tw4460401041349095205:=0
def tw5017989433063135362:=0
def tw5685878211652933365:=0
def tw6967498286917550718:=0
def tw4714694221041744533:=0
def tw15593323845723224272:=0
def tw18402543325540410780:=0
def tw8636399842130987621:=0
def tw399179170846421484:=0
def tw330744838182918836:=0
def tw16412637190598067249:=0
def tw17144630323079562534:=0
def tw10359601803821989159:=0
def tw5064532565697422563:=0
def tw11595549753682367062:=0
def tw6556674388332914160:=0
def tw10346816228431240375:=0
def tw4497273363790491687:=0
def tw3871179928536172663:=0
def tw11537930842050019211:=0
def tw17599555820285286366:=0
def tw8035833362740261153:=0
def tw15842992610707748000:=0
def tw5999272228810394530:=0
def tw15689923036259121705:=0
def tw15766382281040356335:=0
def tw4950541703384300760:=0
def tw10333014366179026402:=0
def tw11813880547116549706:=0
def tw236872313161420297:=0
def tw11767294390142148011:=0
def tw5165944763427260202:=0
def tw3319501338367638944:=0
def tw6626873936558106594:=0
def tw15306197436222354701:=0
def tw6442445633392240616:=0
def tw12142617366445862444:=0
def tw18169427333183770480:=0
def tw16681161226578149744:=0
def tw8903236161117439708:=0
def tw2011622643787978745:=0
def tw5246464664148529239:=0
def tw997036773682057975:=0
def tw13387708235431949398:=0
def tw10059377397427292841:=0
def tw17304228631723725529:=0
def tw12151725152344969111:=0
def tw3086176542549924577:=0
def tw9909622688625371070:=0
def tw7880790578419061823:=0
def tw14750160431804585697:=0
def tw7783062779919183212:=0
def tw11185278148977408268:=0
def tw1727557690629783287:=0
def tw17497637647797238732:=0
def tw5061537757649538024:=0
def tw2388834540297605238:=0
def tw16720546875571758824:=0
def tw9086535573950326291:=0
def tw12739924370002152509:=0
def tw17921798397918126292:=0
def tw12493794073642484560:=0
def tw18043183723853337033:=0
def tw766127955655220691:=0
def tw8381223476909765986:=0
def tw11125975241128073483:=0
def tw5831826992654376593:=0
def tw8342782456030043134:=0
def tw5116584187059146363:=0
def tw2442733257442957847:=0
def tw14531617089769009015:=0
def tw6168147060231386330:=0
def tw15385845203492411074:=0
def tw3180412070252136878:=0
def tw4289809319067057255:=0
def tw11414689261159146359:=0
def tw3390524396949730055:=0
def tw13763080290521001852:=0
def tw5439450951512232151:=0
def tw16119464358849810981:=0
def tw130220945844056940:=0
def tw903720332406511974:=0
def tw10100651399657059022:=0
def tw1993149432420420294:=0
def tw17172989515399824716:=0
def tw8526534226808078990:=0
def tw3199512174509217919:=0
def tw2990580685327927770:=0
def tw14614735978626613163:=0
def tw9031439074371938281:=0
def tw15389498342986151965:=0
def tw7666589036203112562:=0
def tw8944747047273388623:=0
def tw6121274811304896166:=0
def tw15116490281137570325:=0
def tw1804630419975466087:=0
def tw12386266451117636514:=0
def tw3604870731462124386:=0
def tw3047366756042935750:=0
def tw9880252736914410891:=0
def tw14148897615648122207:=0
def tw12809255063535998802:=0
def tw16400742844458341301:=0
def tw440268280806427649:=0
def tw1201223963967839417:=0
def tw7697936382117242657:=0
def tw10613526474918321078:=0
def tw10196616398966820747:=0
def tw1539861315631162635:=0
def tw1046151045752343831:=0
def tw13732106195259681151:=0
def tw5700171965942998268:=0
def tw16849547422833462381:=0
def tw2418946911990679062:=0
def tw15442779105066773216:=0
def tw4967888589718604852:=0
def tw4267611019093038158:=0
def tw13273424368018044959:=0
def tw6380297915134288723:=0
def tw7349361768573347420:=0
def tw212383932042620451:=0
def tw13004884382238863310:=0
def tw14162118633155549897:=0
def tw4329264271519137492:=0
def tw12425544098023981110:=0
def tw13425729564513270834:=0
def tw7964088860012884446:=0
def tw10075791308548270:=0
def tw7784143164130619021:=0
def tw4579684367509213835:=0
def tw14567123222802027023:=0
def tw7966724200476954806:=0
def tw5082419127453756026:=0
def tw13996755418030116929:=0
def tw8815579734798538336:=0
def tw15020881001668416017:=0
def tw12785307003761619808:=0
def tw16905079833948192318:=0
def tw9388919811122028907:=0
def tw13029115458540302150:=0
def tw3558725752131344520:=0
def tw4104729615266404574:=0
def tw8703213486569508356:=0
def tw15512996753610219378:=0
def tw10269083952486432121:=0
def tw14956617587220210235:=0
def tw17560436800634079184:=0
def tw9767846601898715026:=0
def tw641450765720889342:=0
def tw7133377857353260343:=0
def tw15356570413635561511:=0
def tw2107674548083733601:=0
def tw17016189085789222433:=0
def tw17270798989264812041:=0
def tw17275241103292028316:=0
def tw13932561597059804458:=0
def tw11780356412117413329:=0
def tw12611415682486992587:=0
def tw10106162532612576911:=0
def tw2217477123686593867:=0
def tw6033252950530881211:=0
def tw4666187193530729489:=0
def tw17969642281158663937:=0
def tw2287913218872266532:=0
def tw10736845746977934246:=0
def tw12820555207868026872:=0
def tw17615282546603104758:=0
def tw8312663710232599218:=0
def tw15604004993552831417:=0
def tw17923034361980323059:=0
def tw4923004601043335776:=0
def tw14537037361594008977:=0
def tw5251389081875562951:=0
def tw2467638057394555734:=0
def tw2665383603212955404:=0
def tw14644450769095225304:=0
def tw12932072993765821336:=0
def tw5776601330616458838:=0
def tw7303417989937252437:=0
def tw1342516881230836305:=0
def tw2399920779993387362:=0
def tw11748480184626176898:=0
def tw8188195437727708122:=0
def tw10968076769334792666:=0
def tw16140926713860255771:=0
def tw11694768394822312815:=0
def tw9704645116163919656:=0
def tw1553703327387728839:=0
def tw8616516496792498431:=0
def tw1286687153575676725:=0
def tw15222159521435871844:=0
def tw3413564928285744209:=0
def tw13540124788389877883:=0
def tw2446265442489848133:=0
def tw8439399187671925630:=0
def tw338943751558145434:=0
def tw11878868153676389893:=0
def tw12728724463763915603:=0
def tw12482427636040965906:=0
def tw17277536704718007880:=0
def tw12080983756506513498:=0
def tw614701272788551388:=0
def tw17752418034178466656:=0
def tw17048985990969446933:=0
def tw11424666533965582980:=0
def tw7722781533327221192:=0
def tw14962805306329166729:=0
def tw3249113636785861199:=0
def tw2886848534611575077:=0
def tw15977663921663971792:=0
def tw14099490243710484372:=0
def tw14845015683323220838:=0
def tw16460241868679099520:=0
def tw6419372754332186915:=0
def tw13851007303212177904:=0
def tw3661971038327474535:=0
def tw204074686495888292:=0
def tw6048176847387255708:=0
def tw11465080802113794231:=0
def tw9983174051222610614:=0
def tw15166049064602423574:=0
def tw10182802547523334475:=0
def tw17080283049301700970:=0
def tw15075955512599626529:=0
def tw17186722088987632301:=0
def tw12979752496157757567:=0
def tw18198326719457127819:=0
def tw16612937431641925102:=0
def tw7115755010078064109:=0
def tw808115945598611005:=0
def tw10709585723950098147:=0
def tw9370850597092005581:=0
def tw7319394709282795409:=0
def tw9998357148891814108:=0
def tw10581397769430637767:=0
def tw5016970365427523701:=0
def tw6712327498636194982:=0
def tw5301525958344547445:=0
def tw15728979994988354906:=0
def tw3921563473461276293:=0
def tw4430268378558994485:=0
def tw15795252894447374304:=0
def tw15546635936654852431:=0
def tw15767020226797246767:=0
end PySem.W.Fast
open PySem PySem.W PyProof.Rows
set_option maxRecDepth 100000 in
set_option maxHeartbeats 0 in
theorem PySem.Challenge.cw_switchsay_k24_too_many_holds : PySem.Challenge.rw_switchsay_k24_too_many.Holds := by
  w_on;o_law;k_head;(case hw=>w_witness2)
  k_fill
  refine VL.law_walk (l:=PySem.Challenge.rw_switchsay_k24_too_many) (n:=63) (k:=162) (g:=PB.N24.g_law) (x:="_law_script") rfl rfl (fun w h Y=>PySem.W.kIn_of Y) (by decide) ⟨rfl,by decide,by decide⟩ PB.N24.law_told ?F
  case F=>
    intro w mg fa h KX G hmg;refine' PB.N24.all_mk KX G hmg ?zrange ?zabs ?zint ?zmax ?zmin ?ztuple ?zlist ?zlen ?zisinstance ?zenumerate ?zsum ?zall ?zany ?zzip ?zreversed ?zset ?zsorted ?zdict ?zbool ?mC ?pgC ?hdC ?poC ?saC ?mkC ?kpC ?na_letters ?na_ways ?ktuplenon ?ktuplebl ?ktupleint ?ktuplestr ?ktupletup ?ktuplelst ?mS ?wga ?wrd ?wfc ?mD ?lcD ?saD ?gaD ?gtD ?kpD ?n1D ?n2D ?iD ?lD ?coD ?kfD ?xm ?mF ?mN ?mP ?mT ?mV ?zVE ?kD ?kgD ?kvD ?ktD ?aaHOLDING_SORTS ?llHOLDING_SORTS ?aaTEST_SORTS ?llTEST_SORTS ?aaFIELD_SORTS ?llFIELD_SORTS ?aaMOST_TRAILS ?l1 ?l2 ?l3 ?l4 ?l5 ?l6 ?l7 ?l8 ?l9 ?l10 ?l11 ?l12 ?l13 ?l14 ?l15 ?l16 ?l17 ?l18 ?l19 ?l20 ?l21 ?l22 ?l23 ?l24 ?l25 ?l26 ?l27 ?l28 ?l29 ?l30 ?l31 ?m31 ?g31 ?r31 ?b31 ?l32 ?b32 ?i32 ?l33 ?b33 ?i33 ?l34 ?b34 ?i34 ?l35 ?b35 ?i35 ?l36 ?b36 ?i36 ?l37 ?b37 ?i37 ?l38 ?b38 ?i38 ?l39 ?l40 ?l41 ?l42 ?l43 ?l44 ?l45 ?l46 ?l47 ?l48 ?l49 ?l50 ?l51 ?l52 ?l53 ?l54 ?l55 ?l56 ?l57 ?l58 ?l59 ?l60 ?l61 ?l62 ?l63
    case zrange|zabs|zint|zmax|zmin|ztuple|zlist|zlen|zisinstance|zenumerate|zsum|zall|zany|zzip|zreversed|zset|zsorted|zdict|zbool|mC|pgC|hdC|poC|saC|mkC|kpC|na_letters|na_ways|mS|wga|wrd|wfc|mD|lcD|saD|gaD|gtD|kpD|n1D|n2D|iD|lD|coD|kfD|mF|mN|mP|mT|mV|zVE|kD|aaHOLDING_SORTS|llHOLDING_SORTS|aaTEST_SORTS|llTEST_SORTS|aaFIELD_SORTS|llFIELD_SORTS|aaMOST_TRAILS|m31|g31|r31|b31|b32|i32|b33|i33|b34|i34|b35|i35|b36|i36|b37|i37|b38|i38=>k_is
    case ktuplenon|ktuplebl|ktupleint|ktuplestr|ktupletup|ktuplelst|kgD|kvD|ktD=>kit_is
    case xm=>kts_exm
    case l1|l2|l3|l4|l5|l6|l7|l8|l9|l10|l11|l12|l13|l14|l15|l16|l17|l18|l19|l20|l21|l22|l23|l24|l25|l26|l27|l28|l29|l30|l39|l40|l41|l42|l43|l44|l45|l46|l47|l48|l49|l50|l51|l52|l53|l54|l55|l56|l57|l58|l59|l60|l61|l62|l63=>refine' VL.af_mk ?a ?l ?c ?k;(case a=>k_is);(case l=>k_is);(case c=>k_is);(case k=>k_is)
    case l31|l32|l33|l34|l35|l36|l37|l38=>refine' VL.at_mk ?l ?c ?k;(case l=>k_is);(case c=>k_is);(case k=>k_is)
