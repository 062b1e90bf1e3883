import PyProof.Rows.All
import Wide.All
import OpenK.AllK
import Wide.FinOn
import Lean
import PyProof.EqAt
import PyProof.EqKinds
import PyProof.TupleCall
import PyProof.ZipIter
import PyProof.Rows.ZipGen
import PyProof.ConsumeWalk
import PyProof.SumWalk
import PyProof.StationsW
import PyProof.ExcClass2
import PyProof.InstStore
import PyProof.ExcArgsOwn
import PyProof.RulesAs
import PyProof.RulesDel
import PyProof.InstStoreFacts
import PyProof.ExcAttrAll.ValueError
import PyProof.ReprStr
import PyProof.StrLawsRepr
import PyProof.IsiBase
import KE.KTryMore
import PyProof.EnumMake
import PyProof.EnumFor
import PyProof.NeKinds
import PyProof.EnumIter
import PyProof.AutoIntG2
import PyProof.FactsAll.int_0
import PyProof.FactsAll.int_6
import PyProof.Rows.BitMore
import KE.BitLaws
import PyProof.TupleKey
import KE.KRevIter
import PyProof.DictRoadsH
import PyProof.AttrMissHeap
import KE.KDictOf
import PyProof.CompMap
import PyProof.Rows.Range3
import KE.RegKIsAll
import KE.RegKTryMore
import PySem.Challenge.RW_switchsay_k25_refused
local macro_rules
  | `(tactic| obtain $p:rcasesPatMed := $t) => `(tactic| (refine Classical.byContradiction fun hG_ => ?_; obtain $p:rcasesPatMed : _ := $t; all_goals refine hG_ ?_))
set_option Elab.async false
set_option compiler.extract_closed false
set_option linter.all false
set_option maxRecDepth 100000
open PySem.W renaming Frag->aA,nsIn->aR,keepIn->aU,findIn->aW,kitOne->eA,fnOf->gS,looks_findIn->iA,exmOne->jB,codeIn->jG,emptyDict->jK,isFn->lG,instObj->lP,callWith_K->mZ,specialIn->oQ,methodCall_KW->oV,kitAny->oX,plainGet->pA,readsIn->pV,findCls->pW,hasDictIn->qS,OpenLaw->rA,plainGet_of->sS,lookIn->sX,methodObj->tX,plainOver->tZ,takerIn->vD,makesIn->vE
open PySem renaming Value->aB,wpAny_bind->aC,Shared->aI,wpAny->aM,mainGlobals->aQ,Program->aS,model->aX,World->bZ,FuncData->cC,Around->cW,starEach->cZ,wpAny_field->eC,wpAny_loadPart_at->eO,boot_len->eX,wpAny_setField_rec->fQ,wpAny_mono->gC,Scope->gG,excClassObj->gL,wpAny_callSpecial?_slot->gQ,wpAny_pyIter_list->hX,wpAny_newObj_type->hZ,wpAny_call_entry->iI,cLine->iJ,wpAny_holding->iK,typeLookup->iU,Builtin->jA,rawInt->jC,checkBuiltinCall->jE,wpAny_seqItems->jI,wpAny_truthy_bool->jJ,wpAny_isSubtype_exc->jL,binaryOp->jS,sysModules->kK,compareOp->kZ,backTo->lE,sizeLine_eq->lF,IsEnum->lM,bootBuiltins->lQ,wpAny_specialOf->lR,mem_of_lookup->lW,intKind->lX,wpAny_isInstance->lZ,pyNext->mQ,wpAny_Call_Name_kw->mX,wpAny_passesOwn->nC,wpAny_standAt->nG,attributeBase->nJ,codeAny_call_builtin->nM,codeAny->nQ,codeAny_mono->nR,wpAny_forIn_list->nY,wpAny_getItem_str_slice->oA,strLen_append->oE,wpAny_pyIter_tuple->oH,wpAny_nextOf_list_item->oP,atKey->oR,holding->oU,relabel->oW,assignEach->oZ,call_meets->pC,wpAny_rule->pE,wpAny_onRaise->pL,wpAny_attempt->pM,IsPair->pN,keywordEach->pP,sliceBounds->pQ,wpAny_execs_nil->pU,swapsWith->qA,wpAny_typeOf->qD,ExcBaseFacts->qE,reprText->qH,IsEnumOut->qI,entryOfKey->qL,getItem->qM,wpAny_setField->qN,storedH->qO,wpAny_pyIter_enum->qU,wpAny_dictEntries->qW,wpAny_pyNext_list_item->qX,behindInMarks->rB,wpAny_pyNext_list_end->rG,wpAny_nextOf_list_end->rP,isSubtype_tuple_tuple->rQ,letOwnedTupleGo->rV,wpAny_call->rW,post_val_or_str->rZ,isInstance->sC,unbindBehindTheSuite->sF,wpAny_updateSeq_pair->sK,IsTupleKey->sQ,standAt->sV,backToKw->sY,Model->tJ,wpAny_letGo->tL,IsZip->tM,assign->tP,getMethod->tQ,tupleKind_room_in1->tS,wpAny_tupleItemsOf->tU,foldedSetIterable->tY,typeIs_int->uH,Keyword->uI,callerA->uJ,valueAt->uK,GenState->uL,wpAny_lookBehind->uM,pastItsLine_dict->uN,bindArgs->uO,NameKind->uP,noFill_tuple_add->uQ,IsPart->uR,preSum->uT,evalEach->uU,tupleKind->vB,codeAny_builtin->vJ,eqIsQuiet->vK,IsRangeIter->vL,subscripted->vN,isTrue->vR,BindsTo->vS,refuseLoop_ref->vW,wpAny_newTuple->vX,isSubtype_stop->vY,bindL->wA,bindC->wB,PlainAttrs->wC,setField->wD,ZipApart->wE,reduceHash->wF,seq_tuple_add->wG,evalPart_none->wH,Within->wK,storeName->wL,inplaceOp->wM,wpAny_nsSet1->wN,Result->wO,concat_meets->wS,DictEntry->wY,onTheHeap->wZ,callType_new->xA,getAttr->xE,seqIndex_of->xI,callWith->xL,getAttr?->xM,builtinsNs->xO,Drawn->xQ,wpAny_Name->xR,typeIs_str->xU,typeOf->xX,call->xZ,closureFor->yA,refuseLoop->yC,setAttr->yD,OsState->yE
open List renaming length_map->aG,getElem?_eq_some_iff->aK,getElem?_eq_getElem->aL,length_append->aN,size_toArray->aY,map_append->aZ,mem_of_getElem?->bQ,mem_cons->cD,mem_singleton->cE,length_take->cQ,mem_cons_of_mem->cY,take_add_one->dJ,replicate->dQ,length_cons->dX,take_length->dZ,mem_map->eE,mem_cons_self->eG,mem_append->eI,mem_append_right->eJ,getElem?_map->eK,getElem?_append_left->eP,not_mem_nil->eU,getD_eq_getElem?_getD->eV,mem_range->eZ,range->fK,map_cons->fZ,getElem?_append_right->gB,length_singleton->gF,length_range->gK,length_eq_zero_iff->gM,length_replicate->gN,contains_cons->gO,filterMap_cons->gR,length_reverse->gZ,length_drop->iH,append_nil->iM,replicate_succ->iQ,flatMap_append->iR,flatMap_cons->iW,mem_append_left->jD,map_map->jF,range_succ->jO,filterMap_append->jQ,length_filter_le->jR,length_filterMap_le->jY,getElem?_replicate->kX,nodup_cons->lB,findSome?_cons->lC,lookup->lH,drop_eq_getElem_cons->lN,length_nil->lS,reverse_cons->lT,append_assoc->lU,filter_append->nB,flatten_cons->nL,reverse_reverse->nN,mem_of_mem_take->nP,all_eq_true->nU,getElem_mem->nW,idxOf_lt_length_iff->nX,any_cons->oC,find?_cons->oM,getElem?_set_self->oN,take_of_length_le->oO,map_reverse->pF,filter_cons->pH,reverse_append->pS,getLast?_eq_getElem?->pY,mem_filterMap->qB,getElem_idxOf->qJ,drop_length->rF,getElem?_reverse->rK,eq_nil_or_concat->rN,concat_eq_append->rO,getElem?_set_ne->rT,sum_append->sJ,getElem_toArray->sR,drop_zero->tI,nodup_append->uF,sum_reverse->uX,any_eq_true->uZ,mem_filter->vC,of_mem_zip->vG,length_set->vH,all_cons->wJ,map_nil->wX,foldl->xY
open PySem.Heap renaming get?_push_of_some->aJ,lt_size->bX,get?_push_size->cJ,SameBut->gI,size_push->gP,get?_update_other->jH,get?_update_self->jP,get?_none_of_le->oY,ExtBut->vO,IsList->xJ
open Nat renaming le_refl->aO,le_trans->bK,ne_of_lt->cK,lt_of_lt_of_le->eF,ne_of_gt->gT,le_of_lt->iE,add_comm->iY,lt_trans->iZ,lt_of_le_of_lt->jU,testBit_succ->jX,zero_le->jZ,mul_le_mul->kQ,testBit_and->nF,eq_of_testBit_eq->nO,lt_succ_self->pB,pow_le_pow_right->pG,lt_irrefl->pI,add_assoc->rC,le_of_not_lt->rE,mul_le_mul_right->sI,two_pow_pos->sL,not_lt_zero->sO,add_le_add_left->sU,lt_succ_of_lt->uB,lt_of_succ_lt->uE,pow_succ->uV,sub_zero->uY,le_succ->vM,succ_mul->wV,mul_comm->wW,sub_self->xB,succ_pos->xC,testBit->xK
open Or renaming inl->bV,inr->lJ
open PySem.Value renaming ref->cH,builtin->iL,none->iS,isInt->mK,int->pZ,type->rS,bool->uG,str->vA
open Bool renaming false_ne_true->cU,false_eq_true->gW,and_eq_true->iO,eq_iff_iff->jM,or_true->nA,not_true->oG,or_eq_true->sM,and_true->tW,eq_false_iff->uA,and_false->vU,or_false->wI
open PySem.F renaming plainAttrs_list->cX,slot_list_append->fV,type_list_append->fX,slot_list_extend->jV,type_list_extend->jW,args_tuple_add_2->qC,entry_tuple_add->qQ,slot_list_index->qR,slot_tuple_add->qZ,slot_list_pop->rL,type_list_pop->rM
open PySem.PassesOwn renaming never->eB,leaving->uC
open Option.some renaming inj->eQ
open Int renaming toNat_natCast->eY,one_mul->tO,lt_trans->uW,ediv_one->wT
open PySem.Builtin.SmallTypes renaming ownedTupleIsFree->gE,ownedTupleHandOut->gX,nextOf->iC
open Ne renaming symm->gH
open Option renaming map_eq_some_iff->gJ,isSome_iff_exists->nS,isSome_map->oS,map_some->pX
open PyProof.Rows renaming callWith_type1->gU,units_in1->lK,slot_tuple_getitem->lO,AllBare->pO,envOfC->qY,slicePart_none->sZ,subscriptTail->tV,IntsAre->xH,IsTup->xN,boot_range->xS
open False renaming elim->gY
open PySem.Builtin.Slice renaming slicePlaces->iB,sliceAdjust->jN,sliceApplied->nK
open PySem.Builtin.Tuple renaming tupleHashOf->iD,tupleExact->iX,tupleItemsOf->pJ
open PySem.Str renaming ofString->iN,empty->wP
open PySem.Builtin.List renaming listTooLong->jT
open Array renaming length_toList->lV,forIn_toList->qK
open PySem.Builtin renaming bitAnd->lY,bitOr->nI,bitXor->sW,bitNot->vZ
open PySem.Heap.IsList renaming push->nV
open PySem.Builtin.Range renaming rangeSize->nZ
open PySem.Builtin.Dict renaming updateFrom->oB
open List.cons renaming inj->oF
open True renaming intro->oJ
open PySem.Obj renaming data_mapFields->oK,mapFields->pK,isFreed_of_fields->rJ,mapSeq->rX
open PySem.Heap.SameBut renaming update->pR
open PySem.Builtin.Int renaming intBits->pT
open PySem.Data renaming cell->rH,fields->tK,seq->yO
open List.Perm renaming append_left->rR
open ForInStep renaming yield->rY
open PySem.Code renaming quiet_builtin->tR,isFrame->wR
open PySem.Txt renaming slice_le->uS,slice->vI
open PySem.Shared renaming heap->vQ
open PySem.Around renaming under->wQ
open PyProof.Rows.IsTup renaming new->wU
open Nat.succ renaming inj->xD
open PySem.SeqAt renaming EqAt->xW
open PySem.Walks renaming list->yB
namespace L2
open PySem PySem.Spec PyProof.Rows
abbrev Key:=Sum Int Str
def wb:Key->aB->Bool
 | .inl k,v=>mK k v
 | .inr x,v=>Value.isStrOf x v
def tf (w:bZ):Key->Int
 | .inl k=>hashInt k
 | .inr x=>hashStr w x
theorem fw:∀{k:Key}{v:aB},wb k v=true->(∃i t,k=Sum.inl i/\v=pZ i t)\/(∃x t,k=Sum.inr x/\v=vA x t)
 | .inl i,v,h=>by
  obtain⟨t,e⟩:=Value.isInt_shape (k:=i) (v:=v) h;exact .inl ⟨i,t,rfl,e⟩
 | .inr x,v,h=>by
  obtain⟨t,e⟩:=Value.isStrOf_shape (x:=x) (v:=v) h;exact .inr ⟨x,t,rfl,e⟩
theorem J8 (i:Int)(t:Tok):wb (.inl i) (.int i t)=true:=by simp[wb,mK]
theorem J9 (x:Str)(t:Tok):wb (.inr x) (.str x t)=true:=by simp[wb,Value.isStrOf]
theorem T1 (a b:Int):decide ((Sum.inl a:Key)=Sum.inl b)=(a == b):=by
 by_cases e:a=b
 ·subst e;simp
 ·have h:¬(Sum.inl a:Key)=Sum.inl b:=λq=>e (Sum.inl.inj q);rw[decide_eq_false h];exact(beq_eq_false_iff_ne.mpr e).symm
theorem T2 (a b:Str):decide ((Sum.inr a:Key)=Sum.inr b)=decide (a=b):=by
 by_cases e:a=b
 ·subst e;simp
 ·have h:¬(Sum.inr a:Key)=Sum.inr b:=λq=>e (Sum.inr.inj q);rw[decide_eq_false h,decide_eq_false e]
theorem T4 (a:Int)(b:Str):decide ((Sum.inl a:Key)=Sum.inr b)=false:=decide_eq_false (λq=>nomatch q)
theorem T5 (a:Str)(b:Int):decide ((Sum.inr a:Key)=Sum.inl b)=false:=decide_eq_false (λq=>nomatch q)
def gh (prog:aS)(w:bZ):PySem.KeyKind prog w Key where
 is:=wb
 hash:=tf w
 inj:=λv a b ha hb=>by
  rcases fw ha with⟨i,t,rfl,rfl⟩ | ⟨x,t,rfl,rfl⟩
  ·rcases fw hb with⟨j,u,rfl,e⟩ | ⟨y,u,rfl,e⟩
   ·injection e with e1 _;rw[e1]
   ·exact nomatch e
  ·rcases fw hb with⟨j,u,rfl,e⟩ | ⟨y,u,rfl,e⟩
   ·exact nomatch e
   ·injection e with e1 _;rw[e1]
 byValue:=λk v h=>by
  rcases fw h with⟨i,t,rfl,rfl⟩ | ⟨x,t,rfl,rfl⟩<;>rfl
 pyHash:=λhv h=>by
  rcases fw hv with⟨i,t,rfl,rfl⟩ | ⟨x,t,rfl,rfl⟩
  ·exact wpAny_pyHash_int h
  ·exact wpAny_pyHash_str h
 eqBool:=λhu hv h=>by
  rcases fw hu with⟨i,t,rfl,rfl⟩ | ⟨x,t,rfl,rfl⟩
  ·rcases fw hv with⟨j,u,rfl,rfl⟩ | ⟨y,u,rfl,rfl⟩
   ·rw[T1]at h;exact wpAny_eqBool_int h
   ·rw[T4]at h;exact SeqAt.EqAt.int_str i t y u _ _ _ _ h
  ·rcases fw hv with⟨j,u,rfl,rfl⟩ | ⟨y,u,rfl,rfl⟩
   ·rw[T5]at h;exact SeqAt.EqAt.str_int x t j u _ _ _ _ h
   ·rw[T2]at h;exact wpAny_eqBool_str h
 «strs»:=λk x t v h=>by
  rcases fw h with⟨i,u,rfl,e⟩ | ⟨y,u,rfl,e⟩
  ·exact nomatch e
  ·injection e with e1 _;subst e1;cases v<;>rfl
theorem Fa (prog:aS)(w:bZ)(i:Int)(t:Tok):(gh prog w).is (.inl i) (.int i t)=true:=J8 i t
theorem Fb (prog:aS)(w:bZ)(x:Str)(t:Tok):(gh prog w).is (.inr x) (.str x t)=true:=J9 x t
end L2
namespace L2
open PySem
theorem sz0:0<=sizeLine:=by decide
theorem sz1:1<=sizeLine:=by decide
theorem sz2:2<=sizeLine:=by decide
theorem sz3:3<=sizeLine:=by decide
theorem sz4:4<=sizeLine:=by decide
theorem sz5:5<=sizeLine:=by decide
theorem sz6:6<=sizeLine:=by decide
theorem sz8:8<=sizeLine:=by decide
theorem sz14:14<=sizeLine:=by decide
end L2
namespace L2
open PySem PySem.Spec PyProof.Rows
inductive V where
 |non | bl (b:Bool) | int (i:Int) | str (x:Str) | byt (b:Array UInt8) | flt (b:UInt64) | ref (a:Addr) | ty (n:String)
 deriving DecidableEq
def RelV:V->aB->Prop
 | .non,u=>u=iS
 | .bl b,u=>u=uG b
 | .int i,u=>∃t,u=pZ i t
 | .str x,u=>∃t,u=vA x t
 | .byt b,u=>∃t,u=Value.bytes b t
 | .flt b,u=>∃t,u=Value.float b t
 | .ref a,u=>u=cH a
 | .ty n,u=>u=rS n
abbrev Vals:List V->List aB->Prop:=Paired RelV
theorem Vals.length {xs:List V}{us:List aB}(r:Vals xs us):xs.length=us.length:=Paired.length r
theorem Vals.get:∀{xs:List V}{us:List aB}{i:Nat}{x:V},Vals xs us->xs[i]?=some x->∃u,us[i]?=some u/\RelV x u
 |_,_,_,_,.nil,e=>by simp at e
 |_,_,0,_,.cons r _,e=>by simp at e;subst e;exact⟨_,rfl,r⟩
 |_,_,i+1,x,.cons _ t,e=>by
  obtain⟨u,h1,h2⟩:=Vals.get (i:=i) (x:=x) t (by simpa using e);exact⟨u,by simpa using h1,h2⟩
theorem Vals.set {x:V}{u:aB}(r:RelV x u):∀{xs:List V}{us:List aB}(i:Nat),Vals xs us->Vals (xs.set i x) (us.set i u)
 |_,_,_,.nil=>.nil
 |_,_,0,.cons _ t=>.cons r t
 |_,_,i+1,.cons q t=>.cons q (Vals.set r i t)
theorem Vals.append:∀{xs ys:List V}{us ws:List aB},Vals xs us->Vals ys ws->Vals (xs++ys) (us++ws)
 |_,_,_,_,.nil,s=>s
 |_,_,_,_,.cons r t,s=>.cons r (Vals.append t s)
theorem Vals.take:∀{xs:List V}{us:List aB}(n:Nat),Vals xs us->Vals (xs.take n) (us.take n)
 |_,_,0,_=>.nil
 |_,_,_+1,.nil=>.nil
 |_,_,n+1,.cons r t=>.cons r (Vals.take n t)
theorem Vals.drop:∀{xs:List V}{us:List aB}(n:Nat),Vals xs us->Vals (xs.drop n) (us.drop n)
 |_,_,0,r=>r
 |_,_,_+1,.nil=>.nil
 |_,_,n+1,.cons _ t=>Vals.drop n t
def RelO:Option V->Option aB->Prop
 |some v,some u=>RelV v u
 |none,none=>True
 |_,_=>False
def KV {κ:Type}:List (κ×V)->List (κ×aB)->Prop:=Paired λ(p:κ×V)(q:κ×aB)=>p.1=q.1/\RelV p.2 q.2
def kV:Key->V
 | .inl i=>.int i
 | .inr x=>.str x
inductive HO where
 |lst (xs:List V)
 |tup (xs:List V)
 |dK (kvs:List (Key×V)) | dT (kvs:List (List Key×V))
 |set (S:Int->Bool) (n:Nat)
 |ins (C dx:Addr) (fs:List (Str×V))
 |own (x:Addr)
 |xd (fs:List (Str×V))
 |met (f x:Addr)
 |rng (lo hi:Int)
 |frz (o:Obj) (u:HO)
 |tbl (ps:Array aB)
 |ext (φ:Heap->Prop)
abbrev Hp:=Addr->Option HO
def upd (H:Hp)(a:Addr)(o:HO):Hp:=λb=>if b=a then some o else H b
theorem ae {H:Hp}{a:Addr}{o:HO}:upd H a o a=some o:=by unfold upd;rw[if_pos rfl]
theorem al {H:Hp}{a b:Addr}{o:HO}(h:b≠a):upd H a o b=H b:=by unfold upd;rw[if_neg h]
theorem Q5 {H:Hp}{a:Addr}{o u:HO}:upd (upd H a o) a u=upd H a u:=by
 funext b;unfold upd;split<;>rfl
theorem iw {H:Hp}{a b:Addr}{o u:HO}(h:H a=some o)(h':H b=some u)(d:o≠u):a≠b:=by
 intro e;subst e;rw[h]at h';exact d (eQ h')
theorem am {H:Hp}{a b:Addr}{o:HO}(h:H a=some o)(h':H b=none):a≠b:=by
 intro e;subst e;rw[h]at h';cases h'
section
variable (P:aS)(w:bZ)
def ObjOk (H:Hp)(h:Heap)(a:Addr):HO->Prop
 | .lst xs=>xs.length<=sizeLine/\∃(its:List aB)(n:Nat),Vals xs its/\h.get? a=some { cls:=.type "list",data:=.seq its.toArray n }
 | .tup xs=>xs.length<=sizeLine/\∃its:List aB,Vals xs its/\xN h a its.toArray
 | .dK kvs=>kvs.length<=sizeLine/\(a == kK)=false/\∃vs,KV kvs vs/\h.DictOf (gh P w) a vs
 | .dT kvs=>kvs.length<=sizeLine/\(a == kK)=false/\∃xs:List (List Key×Addr×aB),
   Paired (λ(p:List Key×V)(q:List Key×Addr×aB)=>p.1=q.1/\H q.2.1=some (.tup (p.1.map kV))/\RelV p.2 q.2.2) kvs xs/\
   ∃o es ep,h.get? a=some o/\o.ExactDict/\o.data=.dict es ep/\es.toList=xs.map (qL (vB (gh P w)))/\(xs.map (·.1)).Nodup
 | .set S n=>h.SetOf (lX P w) a S n
 | .ins C dx fs=>H dx=some (.own a)/\fs.length<=1000/\dx≠a/\h.get? a=some (lP C dx)/\
   ∃mA,h.Ns1 dx mA/\(∀f,RelO (fs.lookup f) (mA f))/\wK mA (fs.map (·.1))
 | .own _=>∃o,h.get? a=some o
 | .xd fs=>∃mA,h.Ns1 a mA/\∀f,RelO (fs.lookup f) (mA f)
 | .rng lo hi=>∃t u v,h.get? a=some { cls:=.type "range",data:=.fields #[.int lo t,.int hi u,.int 1 v] }
 | .frz o u=>h.get? a=some o/\ObjOk H h a u
 | .tbl ps=>h.get? a=some { cls:=.none,data:=.fields ps }
 | .met f x=>h.get? a=some (tX (.ref f) (.ref x))
 | .ext φ=>φ h/\(∃o,h.get? a=some o)/\∀h1 h2:Heap,φ h1->(∀o,h1.get? a=some o->h2.get? a=some o)->φ h2
def HOk (H:Hp)(h:Heap):Prop:=∀a o,H a=some o->ObjOk P w H h a o
end
section
variable {P:aS}{w:bZ}{H H':Hp}{h h':Heap}{a:Addr}{o:HO}
theorem ObjOk.lt (x:ObjOk P w H h a o):a < h.objs.size:=by
 cases o with
 |lst xs=>obtain⟨_,_,_,_,e⟩:=x;exact bX e
 |tup xs=>obtain⟨_,_,_,p⟩:=x;exact p.lt
 |dK kvs=>obtain⟨_,_,_,_,o,_,_,e,_⟩:=x;exact bX e
 |dT kvs=>obtain⟨_,_,_,_,o,_,_,e,_⟩:=x;exact bX e
 |set S n=>obtain⟨o,_,_,_,e,_⟩:=x;exact bX e
 |ins C dx fs=>obtain⟨_,_,_,e,_⟩:=x;exact bX e
 |own y=>obtain⟨_,e⟩:=x;exact bX e
 |xd fs=>obtain⟨_,⟨_,_,_,e,_⟩,_⟩:=x;exact bX e
 |rng lo hi=>obtain⟨_,_,_,e⟩:=x;exact bX e
 |frz ob u=>obtain⟨e,_⟩:=x;exact bX e
 |tbl ps=>exact bX (show h.get? a=some _ from x)
 |met f y=>exact bX (show h.get? a=some _ from x)
 |ext φ=>obtain⟨_,⟨_,e⟩,_⟩:=x;exact bX e
theorem Paired.mapP {α β:Type}{F G:α->β->Prop}:∀{l₁:List α}{l₂:List β},Paired F l₁ l₂->(∀a b,F a b->G a b)->Paired G l₁ l₂
 |_,_,.nil,_=>.nil
 |_,_,.cons r t,f=>.cons (f _ _ r) (Paired.mapP t f)
theorem ObjOk.stay (x:ObjOk P w H h a o)(k:∀b u,(b=a\/H b=some (.own a))->h.get? b=some u->h'.get? b=some u)
  (ho:∀b,H b=some (.own a)->H' b=some (.own a)) (ht:∀b xs,H b=some (.tup xs)->H' b=some (.tup xs)):ObjOk P w H' h' a o:=by
 induction o with
 |lst xs=>obtain⟨z,its,n,r,e⟩:=x;exact⟨z,its,n,r,k _ _ (.inl rfl) e⟩
 |tup xs=>obtain⟨z,its,r,ob,e,c⟩:=x;exact⟨z,its,r,ob,k _ _ (.inl rfl) e,c⟩
 |dK kvs=>obtain⟨z,y,vs,r,ob,es,ep,e,c⟩:=x;exact⟨z,y,vs,r,ob,es,ep,k _ _ (.inl rfl) e,c⟩
 |dT kvs=>
  obtain⟨z,y,xs,r,ob,es,ep,e,c⟩:=x;exact⟨z,y,xs,Paired.mapP r λp q z=>⟨z.1,ht _ _ z.2.1,z.2.2⟩,ob,es,ep,k _ _ (.inl rfl) e,c⟩
 |set S n=>obtain⟨ob,es,ep,t,e,c⟩:=x;exact⟨ob,es,ep,t,k _ _ (.inl rfl) e,c⟩
 |ins C dx fs=>
  obtain⟨d,z,ne,e,mA,⟨od,es,ep,e2,c⟩,r⟩:=x;exact⟨ho _ d,z,ne,k _ _ (.inl rfl) e,mA,⟨od,es,ep,k _ _ (.inr d) e2,c⟩,r⟩
 |own y=>obtain⟨ob,e⟩:=x;exact⟨ob,k _ _ (.inl rfl) e⟩
 |xd fs=>obtain⟨mA,⟨od,es,ep,e,c⟩,r⟩:=x;exact⟨mA,⟨od,es,ep,k _ _ (.inl rfl) e,c⟩,r⟩
 |rng lo hi=>obtain⟨t,u,v,e⟩:=x;exact⟨t,u,v,k _ _ (.inl rfl) e⟩
 |frz ob u ih=>obtain⟨e,q⟩:=x;exact⟨k _ _ (.inl rfl) e,ih q⟩
 |tbl ps=>
  have e:h.get? a=some { cls:=.none,data:=.fields ps }:=x;show h'.get? a=some { cls:=.none,data:=.fields ps };exact k a _ (.inl rfl) e
 |met f y=>
  have e:h.get? a=some (tX (.ref f) (.ref y)):=x;show h'.get? a=some (tX (.ref f) (.ref y));exact k a _ (.inl rfl) e
 |ext φ=>obtain⟨p,⟨o,e⟩,st⟩:=x;exact⟨st _ _ p λo q=>k _ _ (.inl rfl) q,⟨o,k _ _ (.inl rfl) e⟩,st⟩
theorem HOk.lt (x:HOk P w H h)(e:H a=some o):a < h.objs.size:=(x a o e).lt
theorem HOk.fresh (x:HOk P w H h)(e:h.objs.size<=a):H a=none:=by
 cases q:H a with
 |none=>rfl
 |some u=>exact absurd (eF (x.lt q) e) (pI _)
theorem HOk.kept (x:HOk P w H h)(k:∀b u,h.get? b=some u->h'.get? b=some u):HOk P w H h':=λa o e=>
 (x a o e).stay (λb u _ q=>k b u q) (λ_ q=>q) λ_ _ q=>q
theorem HOk.laid (x:HOk P w H h)(k:∀b u,h.get? b=some u->h'.get? b=some u)(hp:h.objs.size<=a)(new:ObjOk P w (upd H a o) h' a o):HOk P w (upd H a o) h':=λb u e=>by
 have hn:=x.fresh hp;by_cases hb:b=a
 ·subst hb;rw[ae]at e;cases e;exact new
 ·rw[al hb]at e;exact(x b u e).stay (λc v _ q=>k c v q) (λc q=>by rw[al (am q hn)];exact q) λc xs q=>by rw[al (am q hn)];exact q
end
def Rd (H:Hp)(a:Addr)(u:HO):Prop:=H a=some u\/∃o,H a=some (.frz o u)
theorem Rd.ok {P:aS}{w:bZ}{H:Hp}{h:Heap}{a:Addr}{u:HO}(r:Rd H a u)(x:HOk P w H h):ObjOk P w H h a u:=by
 rcases r with r | ⟨o,r⟩
 ·exact x a u r
 ·obtain⟨_,q⟩:=x a _ r;exact q
def Mut:Option HO->Prop
 |some (.lst _)=>True
 |some (.dK _)=>True
 |some (.dT _)=>True
 |some (.set _ _)=>True
 |some (.ins _ _ _)=>True
 |some (.ext _)=>True
 |_=>False
section
variable {P:aS}{w:bZ}{H:Hp}{h h':Heap}{x e:Addr}{o':HO}
theorem HOk.write (ok:HOk P w H h)(mu:Mut (H x))(he:e=x\/H e=some (.own x))(k:∀b u,b≠e->h.get? b=some u->h'.get? b=some u)(heo:∃u,h'.get? e=some u)
  (new:ObjOk P w (upd H x o') h' x o'):HOk P w (upd H x o') h':=λb u q=>by
 have nown:∀c y,H c=some (.own y)->c≠x:=λc y r z=>(by subst z;rw[r]at mu;exact mu);have ntup:∀c xs,H c=some (.tup xs)->c≠x:=λc xs r z=>(by subst z;rw[r]at mu;exact mu);by_cases hb:b=x
 ·subst hb;rw[ae]at q;cases q;exact new
 ·rw[al hb]at q;by_cases hbe:b=e
  ·have q':H b=some (.own x):=by
    rcases he with z | z
    ·exact absurd (hbe.trans z) hb
    ·rw[hbe];exact z
   rw[q]at q';cases q';obtain⟨v,hv⟩:=heo;exact⟨v,by rw[hbe];exact hv⟩
  ·refine(ok b u q).stay (λc v hc r=>k c v ?_ r) (λc r=>by rw[al (nown c b r)];exact r) λc xs r=>(by rw[al (ntup c xs r)];exact r);rcases hc with rfl | hc
   ·exact hbe
   ·intro h_1;subst h_1;rcases he with z | z
    ·exact nown c b hc z
    ·rw[hc]at z;cases z;exact hb rfl
end
structure Un (fs ex:List Addr)(H H':Hp)(h h':Heap):Prop where
 keep:∀b o,h.get? b=some o->H b=none->b ∉ fs->b ∉ ex->h'.get? b=some o
 slot:∀b o,h.get? b=some o->H b=none->b∈fs->b ∉ ex->∃sl,h'.get? b=some { o with slots:=sl }
 free:∀b o,h.get? b=some o->H b=none->b ∉ ex->H' b=none
 there:∀b o,h.get? b=some o->b ∉ ex->∃o',h'.get? b=some o'
 tups:∀b xs,H b=some (.tup xs)->H' b=some (.tup xs)
 frzs:∀b o u,H b=some (.frz o u)->H' b=some (.frz o u)
 tbls:∀b ps,H b=some (.tbl ps)->∃more,H' b=some (.tbl (ps++more))
section
variable {fs fs' ex ex':List Addr}{H H1 H2:Hp}{h h1 h2 h':Heap}{a x e:Addr}{o:HO}
theorem Un.any (u:Un fs ex H H1 h h1){b:Addr}{ob:Obj}(q:h.get? b=some ob)(n:H b=none)(hx:b ∉ ex):∃sl,h1.get? b=some { ob with slots:=sl }:=by
 by_cases hb:b∈fs
 ·exact u.slot b ob q n hb hx
 ·exact⟨ob.slots,u.keep b ob q n hb hx⟩
theorem Un.kept (k:∀b u,h.get? b=some u->h'.get? b=some u):Un fs ex H H h h':=
 ⟨λb ob q _ _ _=>k b ob q,λb ob q _ _ _=>⟨ob.slots,k b ob q⟩,λ_ _ _ n _=>n,λb ob q _=>⟨ob,k b ob q⟩,λ_ _ q=>q,λ_ _ _ q=>q,λ_ ps q=>⟨#[],by rw[q];simp⟩⟩
theorem Un.refl:Un fs ex H H h h:=Un.kept λ_ _ q=>q
theorem Un.laid (k:∀b u,h.get? b=some u->h'.get? b=some u)(hp:h.objs.size<=a)(hn:H a=none):Un fs ex H (upd H a o) h h' where
 keep:=λb u q _ _ _=>k b u q
 slot:=λb u q _ _ _=>⟨u.slots,k b u q⟩
 free:=λb u q n _=>by rw[al (cK (eF (bX q) hp))];exact n
 there:=λb u q _=>⟨u,k b u q⟩
 tups:=λb xs q=>by rw[al (am q hn)];exact q
 frzs:=λb u xs q=>by rw[al (am q hn)];exact q
 tbls:=λb ps q=>⟨#[],by rw[al (am q hn),q];simp⟩
theorem Un.write (mu:Mut (H x))(he:e=x\/H e=some (.own x))(k:∀b u,b≠e->h.get? b=some u->h'.get? b=some u)(heo:∃u,h'.get? e=some u):Un fs ex H (upd H x o) h h':=by
 have hx:∀b,H b=none->b≠x:=λb n z=>(by subst z;rw[n]at mu;exact mu);have hb:∀b,H b=none->b≠e:=λb n z=>by
  subst z;rcases he with r | r
  ·exact hx b n r
  ·rw[n]at r;cases r
 have hm:∀b u,H b=some u->¬Mut (some u)->b≠x:=λb u q nm z=>(by subst z;rw[q]at mu;exact nm mu);refine⟨λb u q n _ _=>k b u (hb b n) q,λb u q n _ _=>⟨u.slots,k b u (hb b n) q⟩,λb u q n _=>by rw[al (hx b n)];exact n,λb u q _=>?_,λb xs q=>by rw[al (hm b _ q λz=>z)];exact q,λb u xs q=>by rw[al (hm b _ q λz=>z)];exact q,λb ps q=>⟨#[],by rw[al (hm b _ q λz=>z),q];simp⟩⟩;by_cases hbe:b=e
 ·subst hbe;exact heo
 ·exact⟨u,k b u hbe q⟩
end
def trk (h:Heap)(H:Hp):List Addr:=(fK h.objs.size).filter λa=>(H a).isSome
def jw (h:Heap)(H:Hp):Heap:=PySem.W.hideAll h (trk h H)
theorem Ka (h:Heap)(H:Hp):(jw h H).objs.size=h.objs.size:=PySem.W.hideAll_size _ _
theorem xh {h:Heap}{H:Hp}{b:Addr}{o:Obj}(e:h.get? b=some o)(n:H b=none):(jw h H).get? b=some o:=
 PySem.W.hideAll_get _ e λhm=>by
  have q:(H b).isSome=true:=(vC.mp hm).2;rw[n]at q;simp at q
theorem Ad {h:Heap}{H:Hp}{b:Addr}{o:Obj}(e:(jw h H).get? b=some o):h.get? b=some o/\H b=none:=by
 have e':h.get? b=some o:=PySem.W.of_hideAll (trk h H) e;refine⟨e',?_⟩;cases q:H b with
 |none=>rfl
 |some x=>
  have hm:b∈trk h H:=List.mem_filter.mpr ⟨eZ.mpr (bX e'),by simp[q]⟩;have z:(jw h H).get? b=none:=PySem.W.hideAll_none (trk h H) hm;rw[z]at e;cases e
def Q6 (g h:Heap)(L:Addr):List (Addr×Obj):=(fK h.objs.size).filterMap λa=>if a=L\/(g.get? a).isSome=true then none else (h.get? a).map λo=>(a,o)
def rest (g h:Heap)(L d:Addr):List (Addr×Obj):=(Q6 g h L).filter λp=>decide (p.1≠d)
end L2
namespace L2
open PySem PySem.Spec PyProof.Rows
structure Mod (K:aA)(mg:Str->Option aB)(base:Heap):Prop where
 kin:K.In base
 glob:base.Ns aQ mg
 blt:∃mb,base.Ns xO mb/\∀x:Str,x≠"__name__"->mb x=lQ x
 nolimit:base.NoLimit
structure Cx where
 prog:aS
 w:bZ
 K:aA
 mg:Str->Option aB
 base:Heap
 A:cW
 N:List Str
 s₀:aI
 H₀:Hp
 env:Env
 outer:List Env
 stack:List Env
 ex:List Addr
 fn:Str->Bool
 calm:Bool
 pn:List (Addr×Obj)
 xe:aB->aI->Prop
def frs (l:List Env):List Addr:=l.filterMap (·.frame)
abbrev Cx.fs (X:Cx):List Addr:=frs X.outer
def Vis (sc:gG)(x:Str):Prop:=sc.names.lookup x=some .local\/sc.names.lookup x=some .cell\/sc.names.lookup x=some .free
def Loc (sc:gG)(x:Str):Prop:=sc.names.lookup x=some .local\/sc.names.lookup x=some .cell
def T8 (env:Env)(h:Heap)(m:Str->Option aB)(x:Str)(u:aB):Prop:=
 (env.kindOf x=some .local/\m x=some u)\/((env.kindOf x=some .cell\/env.kindOf x=some .free)/\∃c,env.cells.lookup x=some c/\h.IsCell c (some u))
structure Cx.Ok (X:Cx):Prop where
 mod:Mod X.K X.mg X.base
 kind:X.env.scope.kind=.function
 glob:X.env.globals=aQ
 blt:X.env.builtins=xO
 above:X.s₀.heap.objs.size<=X.env.locals
 inj:∀x y c,X.env.cells.lookup x=some c->X.env.cells.lookup y=some c->x=y
 has:∀x,(X.env.kindOf x=some .cell\/X.env.kindOf x=some .free)->∃c,X.env.cells.lookup x=some c
 cab:∀x c,X.fn x=true->X.env.cells.lookup x=some c->X.s₀.heap.objs.size<=c
 hd:X.calm=true->X.A.handled=none
 frames:X.A.frames=some X.stack
 stk:X.stack=X.outer\/(X.stack=X.env::X.outer/\X.env.frame=some X.env.locals)
 exf:∀b∈X.ex,b≠X.env.locals/\∀x c,X.env.cells.lookup x=some c->c≠b
 bs:∀b o,X.base.get? b=some o->X.s₀.heap.get? b=some o/\X.H₀ b=none
 bsz:X.base.objs.size<=X.s₀.heap.objs.size
 noex:∀b o,X.base.get? b=some o->b ∉ X.ex
 exfs:∀b∈X.ex,b ∉ X.fs
 funs:X.s₀.heap.FunFrames X.base X.outer
 frf:∀b∈X.fs,X.H₀ b=none
structure Inv (X:Cx)(pins:List (Addr×Obj))(σ:List (Option V))(H:Hp)(s:aI):Prop where
 ok:X.Ok
 os:s.os=X.s₀.os
 bare:pO s.gens
 base:Un X.fs X.ex X.H₀ H X.s₀.heap s.heap
 loc:∃m,s.heap.Ns X.env.locals m/\∀(i:Nat)(x:Str) (v:V),X.N[i]?=some x->σ[i]?=some (some v)->Vis X.env.scope x->∃u,RelV v u/\T8 X.env s.heap m x u
 cell:∀x c,X.env.cells.lookup x=some c->∃v,s.heap.IsCell c v
 free:H X.env.locals=none
 freeC:∀x c,X.env.cells.lookup x=some c->H c=none
 pin:∀p∈X.pn++pins,s.heap.get? p.1=some p.2/\H p.1=none/\p.1≠X.env.locals/\p.1 ∉ X.fs/\∀v,p.2.data≠.cell v
 hok:HOk X.prog X.w H s.heap
 len:σ.length=X.N.length
section
variable {X:Cx}{pins:List (Addr×Obj)}{σ:List (Option V)}{H H':Hp}{s:aI}{h':Heap}
theorem Cx.Ok.nofr (ok:X.Ok){b:Addr}{o:Obj}(e:X.base.get? b=some o):b ∉ X.fs:=λhb=>by
 have:=(ok.funs.mem hb).1;rw[e]at this;cases this
theorem Inv.bs (I:Inv X pins σ H s):∀b o,X.base.get? b=some o->s.heap.get? b=some o/\H b=none:=λb o e=>
 ⟨I.base.keep b o (I.ok.bs b o e).1 (I.ok.bs b o e).2 (I.ok.nofr e) (I.ok.noex b o e),I.base.free b o (I.ok.bs b o e).1 (I.ok.bs b o e).2 (I.ok.noex b o e)⟩
theorem Inv.bk (I:Inv X pins σ H s):∀b o,X.base.get? b=some o->s.heap.get? b=some o:=λb o e=>(I.bs b o e).1
theorem Inv.mod (I:Inv X pins σ H s):Mod X.K X.mg X.base:=I.ok.mod
theorem Inv.kIn (I:Inv X pins σ H s):X.K.In s.heap:=I.ok.mod.kin.keeps I.bk
theorem Inv.lt (I:Inv X pins σ H s):X.env.locals < s.heap.objs.size:=let ⟨_,hn,_⟩:=I.loc;hn.lt
theorem Inv.sz (I:Inv X pins σ H s):X.s₀.heap.objs.size<=s.heap.objs.size:=bK I.ok.above (iE I.lt)
theorem Inv.nofs (I:Inv X pins σ H s){a:Addr}(h:s.heap.objs.size<=a):a ∉ X.fs:=λhb=>by
 obtain⟨_,o,ho,_⟩:=I.ok.funs.mem hb;exact absurd (eF (bX ho) (bK I.sz h)) (pI _)
theorem Inv.cne (I:Inv X pins σ H s):∀x c,X.env.cells.lookup x=some c->c≠X.env.locals:=λx c e z=>by
 obtain⟨v,o,ho,hd⟩:=I.cell x c e;obtain⟨m,⟨o',es,ep,ho',hd',_⟩,_⟩:=I.loc;rw[z,ho']at ho;cases ho;rw[hd']at hd;cases hd
theorem Inv.funs (I:Inv X pins σ H s):s.heap.FunFrames X.base X.outer:=by
 have all:∀(l:List Env),(∀b∈frs l,b∈X.fs)->X.s₀.heap.FunFrames X.base l->s.heap.FunFrames X.base l:=by
  intro l
  induction l with
  |nil=>intro _ _;trivial
  |cons env r ih=>
   intro hs hl;obtain⟨hk,⟨L,o,hf,hn,ho,hd⟩,hr⟩:=hl;have hL:L∈X.fs:=hs L (by unfold frs;rw[gR,hf];exact eG);obtain⟨sl,e⟩:=I.base.slot L o ho (I.ok.frf L hL) hL λz=>I.ok.exfs L z hL;exact⟨hk,⟨L,_,hf,hn,e,hd⟩,ih (λb hb=>hs b (by unfold frs;rw[gR,hf];exact cY _ hb)) hr⟩
 exact all X.outer (λ_ hb=>hb) I.ok.funs
theorem Inv.stack (I:Inv X pins σ H s):s.heap.FunFrames X.base X.stack:=by
 rcases I.ok.stk with e | ⟨e,hf⟩
 ·rw[e];exact I.funs
 ·rw[e];obtain⟨m,hn,_⟩:=I.loc;refine .cons (by rw[I.ok.kind];decide) hf hn ?_ I.funs;exact oY (bK I.ok.bsz I.ok.above)
theorem Inv.stkSub (I:Inv X pins σ H s):∀b∈frs X.stack,b∈X.env.locals::X.fs:=λb hb=>by
 rcases I.ok.stk with e | ⟨e,hf⟩
 ·rw[e]at hb;exact cY _ hb
 ·rw[e]at hb;unfold frs at hb;rw[gR,hf]at hb;exact hb
theorem Inv.stkFree (I:Inv X pins σ H s):∀b∈frs X.stack,H b=none:=λb hb=>by
 rcases cD.mp (I.stkSub b hb)with e | hb
 ·rw[e];exact I.free
 ·obtain⟨_,o,ho,_⟩:=I.ok.funs.mem hb;exact I.base.free b o ho (I.ok.frf b hb) λz=>I.ok.exfs b z hb
theorem Inv.step {g':Array uL}{t':Nat}{d':xQ}{ch:List Addr}(I:Inv X pins σ H s)
  (hch:∀b∈ch,(b∈X.ex\/X.s₀.heap.objs.size<=b)/\b≠X.env.locals/\(∀x c,X.env.cells.lookup x=some c->c≠b)/\∀p∈X.pn++pins,p.1≠b)
  (keep:∀b o,b≠X.env.locals->b ∉ X.fs->b ∉ ch->s.heap.get? b=some o->H b=none->h'.get? b=some o)
  (slot:∀b o,b≠X.env.locals->b∈X.fs->b ∉ ch->s.heap.get? b=some o->H b=none->∃sl,h'.get? b=some { o with slots:=sl }) (free:∀b o,b ∉ ch->s.heap.get? b=some o->H b=none->H' b=none)
  (there:∀b o,b ∉ ch->s.heap.get? b=some o->∃o',h'.get? b=some o')
  (tups:∀b xs,H b=some (.tup xs)->H' b=some (.tup xs)) (frzs:∀b o u,H b=some (.frz o u)->H' b=some (.frz o u)) (tbls:∀b ps,H b=some (.tbl ps)->∃more,H' b=some (.tbl (ps++more)))
  (ns:∀m,s.heap.Ns X.env.locals m->h'.Ns X.env.locals m) (hok:HOk X.prog X.w H' h') (hg:pO g') :
  Inv X pins σ H' { s with heap:=h',gens:=g',drawn:=d',toks:=t' }:=by
 have neL:∀b o,X.s₀.heap.get? b=some o->b≠X.env.locals:=λb o e=>cK (eF (bX e) I.ok.above);have neC:∀b o,X.s₀.heap.get? b=some o->b ∉ X.ex->b ∉ ch:=λb o e hx hb=>by
  rcases(hch b hb).1 with z | z
  ·exact hx z
  ·exact absurd (eF (bX e) z) (pI _)
 have cellK:∀x c,X.env.cells.lookup x=some c->∀v,s.heap.IsCell c v->h'.IsCell c v:=λx c e v ⟨o,ho,hd⟩=>by
  have nch:c ∉ ch:=λz=>(hch c z).2.2.1 x c e rfl;by_cases hc:c∈X.fs
  ·obtain⟨sl,q⟩:=slot c o (I.cne x c e) hc nch ho (I.freeC x c e);exact⟨_,q,hd⟩
  ·exact⟨o,keep c o (I.cne x c e) hc nch ho (I.freeC x c e),hd⟩
 refine⟨I.ok,I.os,hg,⟨λb o e n hb hx=>?_,λb o e n hb hx=>?_,λb o e n hx=>?_,λb o e hx=>?_,λb xs e=>tups b xs (I.base.tups b xs e),λb o xs e=>frzs b o xs (I.base.frzs b o xs e),λb ps e=>?_⟩,?_,λx c e=>?_,?_,λx c e=>?_,λp hp=>?_,hok,I.len⟩
 ·exact keep b o (neL b o e) hb (neC b o e hx) (I.base.keep b o e n hb hx) (I.base.free b o e n hx)
 ·obtain⟨sl,e1⟩:=I.base.slot b o e n hb hx;obtain⟨sl',e2⟩:=slot b _ (neL b o e) hb (neC b o e hx) e1 (I.base.free b o e n hx);exact⟨sl',e2⟩
 ·obtain⟨o',e1⟩:=I.base.there b o e hx;exact free b o' (neC b o e hx) e1 (I.base.free b o e n hx)
 ·obtain⟨o',e1⟩:=I.base.there b o e hx;exact there b o' (neC b o e hx) e1
 ·obtain⟨m1,e1⟩:=I.base.tbls b ps e;obtain⟨m2,e2⟩:=tbls b _ e1;exact⟨m1++m2,by rw[e2,Array.append_assoc]⟩
 ·obtain⟨m,hn,hl⟩:=I.loc;refine⟨m,ns m hn,λi x v e1 e2 e3=>?_⟩;obtain⟨u,r,l⟩:=hl i x v e1 e2 e3;refine⟨u,r,?_⟩;rcases l with l | ⟨k,c,e,z⟩
  ·exact .inl l
  ·exact .inr ⟨k,c,e,cellK x c e _ z⟩
 ·obtain⟨v,z⟩:=I.cell x c e;exact⟨v,cellK x c e v z⟩
 ·obtain⟨m,⟨o,_,_,ho,_⟩,_⟩:=I.loc;exact free _ o (λz=>(hch _ z).2.1 rfl) ho I.free
 ·obtain⟨v,o,ho,hd⟩:=I.cell x c e;exact free c o (λz=>(hch c z).2.2.1 x c e rfl) ho (I.freeC x c e)
 ·obtain⟨e,n,ne,nf,d⟩:=I.pin p hp;have nch:p.1 ∉ ch:=λz=>(hch p.1 z).2.2.2 p hp rfl;exact⟨keep p.1 p.2 ne nf nch e n,free p.1 p.2 nch e n,ne,nf,d⟩
theorem Inv.un {t':Nat}(I:Inv X pins σ H s)(u:Un X.fs [] H H' s.heap h')(hok:HOk X.prog X.w H' h'):Inv X pins σ H' { s with heap:=h',toks:=t' }:=by
 obtain⟨m,⟨o,es,ep,ho,r⟩,_⟩:=id I.loc;obtain⟨sl,hL⟩:=u.any ho I.free (by simp);exact I.step (g':=s.gens) (d':=s.drawn) (ch:=[]) (λ_ z=>nomatch z) (λb o _ hb _ e n=>u.keep b o e n hb (by simp)) (λb o _ hb _ e n=>u.slot b o e n hb (by simp)) (λb o _ e n=>u.free b o e n (by simp)) (λb o _ e=>u.there b o e (by simp)) u.tups u.frzs u.tbls (λm' hm=>by
   obtain⟨o',es',ep',ho',r'⟩:=hm;rw[ho]at ho';cases ho';exact⟨_,es',ep',hL,r'⟩) hok I.bare
theorem Inv.call {g':Array uL}{t':Nat}{d':xQ}{ch:List Addr}(I:Inv X pins σ H s)(u:Un (frs X.stack) ch H H' s.heap h')(hok:HOk X.prog X.w H' h')(hg:pO g')
  (hch:∀b∈ch,(b∈X.ex\/X.s₀.heap.objs.size<=b)/\b≠X.env.locals/\(∀x c,X.env.cells.lookup x=some c->c≠b)/\∀p∈X.pn++pins,p.1≠b) :
  Inv X pins σ H' { s with heap:=h',gens:=g',drawn:=d',toks:=t' }:=by
 obtain⟨m,⟨o,es,ep,ho,r⟩,_⟩:=id I.loc;obtain⟨sl,hL⟩:=u.any ho I.free λz=>(hch _ z).2.1 rfl;exact I.step (ch:=ch) hch (λb o hL hb hc e n=>u.keep b o e n (λz=>(cD.mp (I.stkSub b z)).elim hL hb) hc) (λb o _ _ hc e n=>u.any e n hc) (λb o hc e n=>u.free b o e n hc) (λb o hc e=>u.there b o e hc) u.tups u.frzs u.tbls (λm' hm=>by
   obtain⟨o',es',ep',ho',r'⟩:=hm;rw[ho]at ho';cases ho';exact⟨_,es',ep',hL,r'⟩) hok hg
theorem Inv.turned {t':Nat}{it:Addr}(I:Inv X pins σ H s)(k:∀b o,b≠it->s.heap.get? b=some o->h'.get? b=some o)(hn:H it=none)(hL:it≠X.env.locals)
  (h1:it∈X.ex\/X.s₀.heap.objs.size<=it) (h2:∀x c,X.env.cells.lookup x=some c->c≠it) (h3:∀p∈X.pn++pins,p.1≠it):Inv X pins σ H { s with heap:=h',toks:=t' }:=by
 have nit:∀b u,H b=some u->b≠it:=λb u e z=>(by rw[z,hn]at e;cases e);refine I.step (g':=s.gens) (d':=s.drawn) (ch:=[it]) (λb hb=>?_) (λb o _ _ hc e _=>k b o (λz=>hc (by simp[z])) e) (λb o _ _ hc e _=>⟨o.slots,k b o (λz=>hc (by simp[z])) e⟩) (λ_ _ _ _ n=>n)
  (λb o hc e=>⟨o,k b o (λz=>hc (by simp[z])) e⟩) (λ_ _ e=>e) (λ_ _ _ e=>e) (λb ps e=>⟨#[],by rw[e];simp⟩) (λm hm=>?_) (λb u e=>?_) I.bare
 ·have e:b=it:=(by simpa using hb);subst e;exact⟨h1,hL,h2,h3⟩
 ·obtain⟨o,es,ep,ho,r⟩:=hm;exact⟨o,es,ep,k _ o (gH hL) ho,r⟩
 ·refine(I.hok b u e).stay (λc v hc q=>k c v ?_ q) (λ_ q=>q) λ_ _ q=>q;rcases hc with z | z
  ·rw[z];exact nit b u e
  ·exact nit c _ z
theorem Inv.tok (I:Inv X pins σ H s)(t:Nat):Inv X pins σ H { s with toks:=t }:=I.un (h':=s.heap) (t':=t) Un.refl I.hok
theorem Inv.kept {t':Nat}(I:Inv X pins σ H s)(k:∀b u,s.heap.get? b=some u->h'.get? b=some u):Inv X pins σ H { s with heap:=h',toks:=t' }:=I.un (Un.kept k) (I.hok.kept k)
theorem Inv.laid {a:Addr}{o:HO}{t':Nat}(I:Inv X pins σ H s)(k:∀b u,s.heap.get? b=some u->h'.get? b=some u)(hp:s.heap.objs.size<=a)(new:ObjOk X.prog X.w (upd H a o) h' a o) :
  Inv X pins σ (upd H a o) { s with heap:=h',toks:=t' }:=I.un (Un.laid k hp (I.hok.fresh hp)) (I.hok.laid k hp new)
theorem Inv.write {x e:Addr}{o:HO}{t':Nat}(I:Inv X pins σ H s)(mu:Mut (H x))(he:e=x\/H e=some (.own x))(k:∀b u,b≠e->s.heap.get? b=some u->h'.get? b=some u)(heo:∃u,h'.get? e=some u)
  (new:ObjOk X.prog X.w (upd H x o) h' x o):Inv X pins σ (upd H x o) { s with heap:=h',toks:=t' }:=I.un (Un.write mu he k heo) (I.hok.write mu he k heo new)
theorem Inv.weak {σ':List (Option V)}(I:Inv X pins σ H s)(hl:σ'.length=σ.length)(w:∀(i:Nat) v,σ'[i]?=some (some v)->σ[i]?=some (some v)):Inv X pins σ' H s:=
 ⟨I.ok,I.os,I.bare,I.base,let ⟨m,hn,hl'⟩:=I.loc;⟨m,hn,λi x v e1 e2 e3=>hl' i x v e1 (w i v e2) e3⟩,I.cell,I.free,I.freeC,I.pin,I.hok,hl.trans I.len⟩
theorem Inv.pins_of {pins':List (Addr×Obj)}(I:Inv X pins σ H s)(h:∀p∈pins',s.heap.get? p.1=some p.2/\H p.1=none/\p.1≠X.env.locals/\p.1 ∉ X.fs/\∀v,p.2.data≠.cell v):Inv X pins' σ H s:=
 ⟨I.ok,I.os,I.bare,I.base,I.loc,I.cell,I.free,I.freeC,λp hp=>(eI.mp hp).elim (λz=>I.pin p (jD _ z)) (h p),I.hok,I.len⟩
theorem xi {N:List Str}(hN:N.Nodup){i j:Nat}{x:Str}(a:N[i]?=some x)(b:N[j]?=some x):i=j:=by
 obtain⟨h1,e1⟩:=aK.mp a;obtain⟨h2,e2⟩:=aK.mp b;exact(List.getElem_inj hN).mp (e1.trans e2.symm)
theorem Bk {M:tJ}{A:cW}{E:aB->aI->Prop}{i:Nat}{x:Str}{v:V}{u:aB}{Q:Unit->aI->Prop}(I:Inv X pins σ H s)(hN:X.N.Nodup)(hi:X.N[i]?=some x)(hx:Loc X.env.scope x)(r:RelV v u)
  (h:∀s',Inv X pins (σ.set i (some v)) H s'->(∃a,gI a s.heap s'.heap/\(a=X.env.locals\/X.env.cells.lookup x=some a))->Q () s') (hf:X.fn x=true\/X.env.scope.names.lookup x=some .local:=by first | exact .inl rfl | exact .inr rfl | assumption):aM M A (wL X.env x u) Q E s:=by
 obtain⟨m,hn,hl⟩:=id I.loc;have hcls:(X.env.scope.kind == .class || (X.env.scope.kind == .module && X.env.locals != X.env.globals))=false:=(by rw[I.ok.kind];rfl);have hiσ:i < σ.length:=(by rw[I.len];exact(aK.mp hi).1);have cne:=I.cne;have tracked:∀{a:Addr}{h':Heap},(∃o,s.heap.get? a=some o/\H a=none)->gI a s.heap h'->HOk X.prog X.w H h':=λ{a h'} ha hs b ob e=>by
  obtain⟨_,_,hfree⟩:=ha;refine(I.hok b ob e).stay (λc w' hc q=>(hs.2 c ?_).trans q) (λ_ q=>q) λ_ _ q=>q;intro h_1;subst h_1;rcases hc with rfl | hc
  ·rw[hfree]at e;cases e
  ·rw[hfree]at hc;cases hc
 rcases hx with hk | hk
 ·refine wpAny_storeName_local hk hn (λh' hn' hs=>?_) hcls;obtain⟨oL,_,_,hoL,_⟩:=id hn;refine h _ ⟨I.ok,I.os,I.bare,⟨λb o e n hb hx=>?_,λb o e n hb hx=>?_,I.base.free,λb o e hx=>?_,I.base.tups,I.base.frzs,I.base.tbls⟩,⟨_,hn',λj y v' e1 e2 e3=>?_⟩,λy c e=>?_,I.free,I.freeC,λp hp=>?_,tracked ⟨oL,hoL,I.free⟩ hs,by simpa using I.len⟩ ⟨_,hs,.inl rfl⟩
  ·exact(hs.2 b (cK (eF (bX e) I.ok.above))).trans (I.base.keep b o e n hb hx)
  ·obtain⟨sl,e1⟩:=I.base.slot b o e n hb hx;exact⟨sl,(hs.2 b (cK (eF (bX e) I.ok.above))).trans e1⟩
  ·obtain⟨o',e1⟩:=I.base.there b o e hx;exact⟨o',(hs.2 b (cK (eF (bX e) I.ok.above))).trans e1⟩
  ·by_cases hj:j=i
   ·subst hj;rw[hi]at e1;cases e1;rw[oN hiσ]at e2;cases e2;exact⟨u,r,.inl ⟨hk,by simp⟩⟩
   ·rw[rT (gH hj)]at e2;obtain⟨u',r',q⟩:=hl j y v' e1 e2 e3;refine⟨u',r',?_⟩;rcases q with⟨k,e⟩ | ⟨k,c,e,z⟩
    ·refine .inl ⟨k,?_⟩;have:y≠x:=λe=>hj (xi hN e1 (e ▸ hi));simp[this,e]
    ·exact .inr ⟨k,c,e,z.sameBut hs (cne y c e)⟩
  ·obtain⟨w',z⟩:=I.cell y c e;exact⟨w',z.sameBut hs (cne y c e)⟩
  ·obtain⟨e,n,ne,nf,d⟩:=I.pin p hp;exact⟨(hs.2 p.1 ne).trans e,n,ne,nf,d⟩
 ·have hfn:X.fn x=true:=by
   rcases hf with z | z
   ·exact z
   ·rw[z]at hk;cases hk
  obtain⟨c,hc⟩:=I.ok.has x (.inl hk);obtain⟨w',z⟩:=I.cell x c hc;refine wpAny_storeName_cell I.ok.kind hk hc z (λh' hc' hs=>?_);obtain⟨oc,hoc,hocd⟩:=id z;refine h { s with heap:=h' } ⟨I.ok,I.os,I.bare,⟨λb o e n hb hx=>?_,λb o e n hb hx=>?_,I.base.free,λb o e hx=>?_,I.base.tups,I.base.frzs,I.base.tbls⟩,⟨m,hn.sameBut hs (gH (cne x c hc)),λj y v' e1 e2 e3=>?_⟩,λy c' e=>?_,I.free,I.freeC,λp hp=>?_,tracked ⟨oc,hoc,I.freeC x c hc⟩ hs,by simpa using I.len⟩ ⟨c,hs,.inr hc⟩
  ·exact(hs.2 b (cK (eF (bX e) (I.ok.cab x c hfn hc)))).trans (I.base.keep b o e n hb hx)
  ·obtain⟨sl,e1⟩:=I.base.slot b o e n hb hx;exact⟨sl,(hs.2 b (cK (eF (bX e) (I.ok.cab x c hfn hc)))).trans e1⟩
  ·obtain⟨o',e1⟩:=I.base.there b o e hx;exact⟨o',(hs.2 b (cK (eF (bX e) (I.ok.cab x c hfn hc)))).trans e1⟩
  ·by_cases hj:j=i
   ·subst hj;rw[hi]at e1;cases e1;rw[oN hiσ]at e2;cases e2;exact⟨u,r,.inr ⟨.inl hk,c,hc,hc'⟩⟩
   ·rw[rT (gH hj)]at e2;obtain⟨u',r',q⟩:=hl j y v' e1 e2 e3;refine⟨u',r',?_⟩;rcases q with q | ⟨k,c',e,z'⟩
    ·exact .inl q
    ·refine .inr ⟨k,c',e,z'.sameBut hs ?_⟩;intro h_1;subst h_1;exact hj (xi hN e1 (I.ok.inj _ _ _ e hc ▸ hi))
  ·by_cases hcc:c'=c
   ·subst hcc;exact⟨_,hc'⟩
   ·obtain⟨w2,z2⟩:=I.cell y c' e;exact⟨w2,z2.sameBut hs hcc⟩
  ·obtain⟨e,n,ne,nf,d⟩:=I.pin p hp;refine⟨(hs.2 p.1 ?_).trans e,n,ne,nf,d⟩;intro q;rw[q,hoc]at e;have q':oc=p.2:=eQ e;exact d w' (by rw[<-q'];exact hocd)
theorem tj {M:tJ}{A:cW}{E:aB->aI->Prop}{i:Nat}{x:Str}{v:V}{u:aB}{Q:Unit->aI->Prop}(I:Inv X pins σ H s)(hN:X.N.Nodup)(hi:X.N[i]?=some x)(hx:Loc X.env.scope x)(r:RelV v u)
  (h:∀s',Inv X pins (σ.set i (some v)) H s'->Q () s') (hf:X.fn x=true\/X.env.scope.names.lookup x=some .local:=by first | exact .inl rfl | exact .inr rfl | assumption):aM M A (wL X.env x u) Q E s:=
 Bk I hN hi hx r (λs' I' _=>h s' I') hf
theorem Inv.call' {s':aI}{ch:List Addr}(I:Inv X pins σ H s)(ho:s'.os=s.os)(u:Un (frs X.stack) ch H H' s.heap s'.heap)(hok:HOk X.prog X.w H' s'.heap)(hg:pO s'.gens)
  (hch:∀b∈ch,(b∈X.ex\/X.s₀.heap.objs.size<=b)/\b≠X.env.locals/\(∀x c,X.env.cells.lookup x=some c->c≠b)/\∀p∈X.pn++pins,p.1≠b):Inv X pins σ H' s':=by
 obtain⟨h',g',d',t',o'⟩:=s';have e:o'=s.os:=ho;subst e;exact I.call (g':=g') (t':=t') (d':=d') u hok hg hch
end
abbrev XK:=aB->Option Addr->Hp->Prop
abbrev St:=List (Option V)
abbrev VK:=V->Hp->Prop
abbrev TE:=St->Hp->VK->Prop
abbrev TT:=St->Hp->(Bool->Hp->Prop)->Prop
abbrev TA:=St->Hp->(List V->Hp->Prop)->Prop
structure db where
 nx:St->Hp->Prop
 rt:VK
 bk:St->Hp->Prop:=λ_ _=>False
 ct:St->Hp->Prop:=λ_ _=>False
abbrev TS:=db->St->Hp->Prop
def EP (X:Cx)(pins:List (Addr×Obj))(σ:St)(Q:VK)(u:aB)(s':aI):Prop:=∃v H',Inv X pins σ H' s'/\RelV v u/\Q v H'
def TP (X:Cx)(pins:List (Addr×Obj))(σ:St)(Q:Bool->Hp->Prop)(b:Bool)(s':aI):Prop:=∃H',Inv X pins σ H' s'/\Q b H'
def AP (X:Cx)(pins:List (Addr×Obj))(σ:St)(Q:List V->Hp->Prop)(us:List aB)(s':aI):Prop:=∃vs H',Inv X pins σ H' s'/\Vals vs us/\Q vs H'
def SP (X:Cx)(pins:List (Addr×Obj))(D:db)(f:Flow)(s':aI):Prop:=
 match f with
 | .next=>∃σ' H',Inv X pins σ' H' s'/\D.nx σ' H'
 | .brk=>∃σ' H',Inv X pins σ' H' s'/\D.bk σ' H'
 | .cont=>∃σ' H',Inv X pins σ' H' s'/\D.ct σ' H'
 | .ret u=>∃v σ' H',Inv X pins σ' H' s'/\RelV v u/\D.rt v H'
def PE (X:Cx)(e:Expr)(t:TE):Prop:=
 ∀(pins:List (Addr×Obj))(s:aI) (σ:St) (H:Hp) (Q:VK),Inv X pins σ H s->t σ H Q->aM (aX X.prog X.w) X.A (eval e X.env) (EP X pins σ Q) X.xe s
def PT (X:Cx)(e:Expr)(t:TT):Prop:=
 ∀(pins:List (Addr×Obj))(s:aI) (σ:St) (H:Hp) (Q:Bool->Hp->Prop),Inv X pins σ H s->t σ H Q->aM (aX X.prog X.w) X.A (vR e X.env (eval e X.env)) (TP X pins σ Q) X.xe s
def PW (X:Cx)(e:Expr)(t:TT):Prop:=
 ∀(whole:Sem aB)(pins:List (Addr×Obj)) (s:aI) (σ:St) (H:Hp) (Q:Bool->Hp->Prop),Inv X pins σ H s->t σ H Q->aM (aX X.prog X.w) X.A (vR e X.env whole) (TP X pins σ Q) X.xe s
theorem PW.pt {X:Cx}{e:Expr}{t:TT}(h:PW X e t):PT X e t:=h _
def PA (X:Cx)(es:List Expr)(t:TA):Prop:=
 ∀(pos:Pos)(pins:List (Addr×Obj)) (s:aI) (σ:St) (H:Hp) (Q:List V->Hp->Prop),Inv X pins σ H s->t σ H Q->aM (aX X.prog X.w) X.A (spliced (lE pos (cZ es X.env))) (AP X pins σ Q) X.xe s
def PS (X:Cx)(st:Stmt)(t:TS):Prop:=
 ∀(pins:List (Addr×Obj))(s:aI) (σ:St) (H:Hp) (D:db),Inv X pins σ H s->t D σ H->aM (aX X.prog X.w) X.A (exec st X.env) (SP X pins D) X.xe s
def PSs (X:Cx)(st:List Stmt)(t:TS):Prop:=
 ∀(pins:List (Addr×Obj))(s:aI) (σ:St) (H:Hp) (D:db),Inv X pins σ H s->t D σ H->aM (aX X.prog X.w) X.A (execs st X.env) (SP X pins D) X.xe s
theorem thn {α:Type}{t:Sem α}{Q Q':α->aI->Prop}{M:tJ}{A:cW}{E:aB->aI->Prop}{s:aI}(h:aM M A t Q E s)(hQ:∀a s,Q a s->Q' a s):aM M A t Q' E s:=gC h hQ λ_ _ x=>x
end L2
namespace L2
open PySem PySem.Spec PyProof.Rows
section
variable {X:Cx}
def tm (i:Nat):TE:=λσ H Q=>∃v,σ[i]?=some (some v)/\Q v H
def tC (v:V):TE:=λ_ H Q=>Q v H
theorem Kb {i:Nat}{x:Str}{pos:Pos}(hN:X.N[i]?=some x)(hv:Vis X.env.scope x)(hd:(x == ("__debug__":Str))=false:=by decide)(hcd:(x == ("__classdict__":Str))=false:=by decide):PE X (.Name x pos) (tm i):=by
 intro pins s σ H Q I h;obtain⟨v,e,h⟩:=h;obtain⟨m,hn,hl⟩:=I.loc;obtain⟨u,r,l⟩:=hl i x v hN e hv;have fin:EP X pins σ Q u s:=⟨v,H,I,r,h⟩;rcases l with⟨hk,hm⟩ | ⟨hk,c,hc,hcell⟩
 ·exact xR (wpAny_loadName_local I.ok.kind hk hn hm fin) hd
 ·rcases hk with hk | hk
  ·exact xR (wpAny_loadName_cell I.ok.kind hk hc hcell fin) hd
  ·exact xR (wpAny_loadName_free I.ok.kind hk hc hcell fin hcd) hd
theorem ag {i j pos}:PE X (.Constant (.int i) j pos) (tC (.int i)):=λ_ _ _ H _ I h=>wpAny_Constant_int ⟨.int i,H,I.tok _,⟨_,rfl⟩,h⟩
theorem j6 {b j pos}:PE X (.Constant (.bool b) j pos) (tC (.bl b)):=λ_ _ _ H _ I h=>Constant_bool ⟨.bl b,H,I,rfl,h⟩
theorem Ct {j pos}:PE X (.Constant .none j pos) (tC .non):=λ_ _ _ H _ I h=>Constant_none ⟨.non,H,I,rfl,h⟩
theorem be {x j pos}:PE X (.Constant (.str x) j pos) (tC (.str x)):=λ_ _ _ H _ I h=>Calls.Constant_str ⟨.str x,H,I.tok _,⟨_,rfl⟩,h⟩
def Gl (X:Cx)(x:Str):Prop:=X.env.kindOf x=some .globalImplicit
theorem ko {E:aB->aI->Prop}{pins:List (Addr×Obj)}{s:aI}{σ:St}{H:Hp}{x:Str}{u:aB}{pos:Pos}{Q:aB->aI->Prop}(I:Inv X pins σ H s)(hg:Gl X x)(hm:X.mg x=some u)(h:Q u s)
  (hd:(x == ("__debug__":Str))=false:=by decide):aM (aX X.prog X.w) X.A (eval (.Name x pos) X.env) Q E s:=
 Calls.Name_function_global I.ok.kind hg (Calls.loadGlobal_global (by rw[I.ok.glob];exact I.mod.glob.keeps I.bk) hm h) hd
theorem jy {E:aB->aI->Prop}{pins:List (Addr×Obj)}{s:aI}{σ:St}{H:Hp}{x:Str}{u:aB}{pos:Pos}{Q:aB->aI->Prop}(I:Inv X pins σ H s)(hg:Gl X x)(hm:X.mg x=none)(hv:lQ x=some u)(h:Q u s)
  (hn:x≠"__name__":=by decide) (hd:(x == ("__debug__":Str))=false:=by decide):aM (aX X.prog X.w) X.A (eval (.Name x pos) X.env) Q E s:=by
 obtain⟨mb,h1,h2⟩:=I.mod.blt;exact Calls.Name_function_global I.ok.kind hg (Calls.loadGlobal_builtin (by rw[I.ok.glob];exact I.mod.glob.keeps I.bk) hm (by rw[I.ok.blt];exact h1.keeps I.bk) ((h2 x hn).trans hv) h) hd
theorem ie {x:Str}{v:V}{u:aB}{pos:Pos}(hg:Gl X x)(hm:X.mg x=some u)(r:RelV v u)(hd:(x == ("__debug__":Str))=false:=by decide):PE X (.Name x pos) (tC v):=
 λ_ _ _ H _ I h=>ko I hg hm ⟨v,H,I,r,h⟩ hd
theorem Q7 {x:Str}{v:V}{u:aB}{pos:Pos}(hg:Gl X x)(hm:X.mg x=none)(hv:lQ x=some u)(r:RelV v u)(hn:x≠"__name__":=by decide)(hd:(x == ("__debug__":Str))=false:=by decide):PE X (.Name x pos) (tC v):=
 λ_ _ _ H _ I h=>jy I hg hm hv ⟨v,H,I,r,h⟩ hn hd
variable {a b:Expr}{ta tb:TE}{pos:Pos}
def PC (X:Cx)(op:CmpOp)(a b:Expr)(t:TE):Prop:=
 ∀(pins:List (Addr×Obj))(s:aI) (σ:St) (H:Hp) (Q:VK),Inv X pins σ H s->t σ H Q->
  aM (aX X.prog X.w) X.A (eval a X.env) (λv s₁=>aM (aX X.prog X.w) X.A (eval b X.env) (λu s₂=>aM (aX X.prog X.w) X.A (kZ op v u) (EP X pins σ Q) X.xe s₂) X.xe s₁) X.xe s
def tB (t:TE):TT:=λσ H Q=>t σ H λx H1=>∃c,x=.bl c/\Q c H1
theorem T9 {op:CmpOp}{t:TE}(h:PC X op a b t)(h1:rB op b=false:=by first | exact nobehind _ (by decide) (by decide) | rfl):PT X (.Compare a [op] [b] pos) (tB t):=by
 intro pins s σ H Q I hw;refine wpAny_isTrue_Compare1 (thn (h pins s σ H _ I hw) λv s1 h1=>thn h1 λu s2 h2=>thn h2 λc s3 h0_=>?_) h1;obtain⟨x,H1,I1,r1,q1⟩:=h0_;obtain⟨d,rfl,q⟩:=q1;cases r1;exact jJ ⟨H1,I1,q⟩
theorem jh {e:Expr}{t:TE}(h:PE X e t)(he:∀whole,vR e X.env whole=(do let v <-whole;sV e.pos;oU [v] (truthy v)):=by intro _;rfl):PT X e (tB t):=by
 intro pins s σ H Q I hw;refine isTrue_plain (thn (h pins s σ H _ I hw) λv s1 h0_=>?_) (he _);obtain⟨x,H1,I1,r1,q1⟩:=h0_;obtain⟨d,rfl,q⟩:=q1;cases r1;exact jJ ⟨H1,I1,q⟩
variable {tA tB':TT}{rest:List Expr}
def tAnd (t u:TT):TT:=λσ H Q=>t σ H λc H1=>if c=true then u σ H1 Q else Q false H1
def tOr (t u:TT):TT:=λσ H Q=>t σ H λc H1=>if c=true then Q true H1 else u σ H1 Q
def tNot (t:TT):TT:=λσ H Q=>t σ H λc H1=>Q (!c) H1
theorem pr (ha:PT X a tA):PW X (.BoolOp .And [a] pos) tA:=by
 intro wh pins s σ H Q I h;refine isTrue_and (thn (ha pins s σ H Q I h) λc s1 e=>?_);cases c with
 |true=>exact isTrue_and_nil e
 |false=>exact e
theorem Cu (ha:PT X a tA):PW X (.BoolOp .Or [a] pos) tA:=by
 intro wh pins s σ H Q I h;refine isTrue_or (thn (ha pins s σ H Q I h) λc s1 e=>?_);cases c with
 |false=>exact isTrue_or_nil e
 |true=>exact e
theorem qb (ha:PT X a tA)(hb:PW X (.BoolOp .And (b::rest) pos) tB'):PW X (.BoolOp .And (a::b::rest) pos) (tAnd tA tB'):=by
 intro wh pins s σ H Q I h;refine isTrue_and (thn (ha pins s σ H _ I h) λc s1 h0_=>?_);obtain⟨H1,I1,q1⟩:=h0_;cases c with
 |true=>exact hb wh pins s1 σ H1 Q I1 q1
 |false=>exact⟨H1,I1,q1⟩
theorem Hc (ha:PT X a tA)(hb:PW X (.BoolOp .Or (b::rest) pos) tB'):PW X (.BoolOp .Or (a::b::rest) pos) (tOr tA tB'):=by
 intro wh pins s σ H Q I h;refine isTrue_or (thn (ha pins s σ H _ I h) λc s1 h0_=>?_);obtain⟨H1,I1,q1⟩:=h0_;cases c with
 |true=>exact⟨H1,I1,q1⟩
 |false=>exact hb wh pins s1 σ H1 Q I1 q1
theorem u9 (ha:PT X a tA):PT X (.UnaryOp .Not a pos) (tNot tA):=by
 intro pins s σ H Q I h;exact isTrue_not (ha pins s σ H (λc H1=>Q (!c) H1) I h)
def P4 (ta tb:TE):TE:=λσ H Q=>ta σ H λx H1=>∃c,x=.bl c/\if c=true then tb σ H1 Q else Q (.bl false) H1
def tOrV (ta tb:TE):TE:=λσ H Q=>ta σ H λx H1=>∃c,x=.bl c/\if c=true then Q (.bl true) H1 else tb σ H1 Q
theorem ya {op}{t:TE}(h:PE X a t):PE X (.BoolOp op [a] pos) t:=λpins s σ H Q I hw=>BoolOp_one (h pins s σ H Q I hw)
theorem Cv (ha:PE X a ta)(hb:PE X (.BoolOp .And (b::rest) pos) tb):PE X (.BoolOp .And (a::b::rest) pos) (P4 ta tb):=by
 intro pins s σ H Q I h;refine BoolOp_and (thn (ha pins s σ H _ I h) λv s1 h0_=>?_);obtain⟨x,H1,I1,r1,q1⟩:=h0_;obtain⟨c,rfl,q1⟩:=q1;cases r1;refine jJ ?_;cases c with
 |true=>exact hb pins s1 σ H1 Q I1 q1
 |false=>exact⟨.bl false,H1,I1,rfl,q1⟩
theorem V9 (ha:PE X a ta)(hb:PE X (.BoolOp .Or (b::rest) pos) tb):PE X (.BoolOp .Or (a::b::rest) pos) (tOrV ta tb):=by
 intro pins s σ H Q I h;refine BoolOp_or (thn (ha pins s σ H _ I h) λv s1 h0_=>?_);obtain⟨x,H1,I1,r1,q1⟩:=h0_;obtain⟨c,rfl,q1⟩:=q1;cases r1;refine jJ ?_;cases c with
 |false=>exact hb pins s1 σ H1 Q I1 q1
 |true=>exact⟨.bl true,H1,I1,rfl,q1⟩
def tIf (t:TT)(ta tb:TE):TE:=λσ H Q=>t σ H λc H1=>if c=true then ta σ H1 Q else tb σ H1 Q
theorem tq {c:Expr}(hc:PT X c tA)(ha:PE X a ta)(hb:PE X b tb):PE X (.IfExp c a b pos) (tIf tA ta tb):=by
 intro pins s σ H Q I h;refine wpAny_IfExp (thn (hc pins s σ H _ I h) λd s1 h0_=>?_);obtain⟨H1,I1,q1⟩:=h0_;cases d with
 |true=>exact ha pins s1 σ H1 Q I1 q1
 |false=>exact hb pins s1 σ H1 Q I1 q1
end
end L2
namespace L2
open PySem PySem.Spec PyProof.Rows
def SqL (K:aA)(H:Hp)(a:Addr)(xs:List V):Prop:=
 Rd H a (.lst xs)\/
  ∃(o:Obj)(its:Array aB) (n:Nat),K.lookup a=some o/\o.cls=.type "list"/\o.dict=none/\o.data=.seq its n/\its.size<=sizeLine/\Vals xs its.toList
def SqT (K:aA)(H:Hp)(a:Addr)(xs:List V):Prop:=
 Rd H a (.tup xs)\/
  ∃(o:Obj)(its:Array aB) (n:Nat),K.lookup a=some o/\o.cls=.type "tuple"/\o.data=.seq its n/\its.size<=sizeLine/\Vals xs its.toList
def absV:aB->Option V
 | .none=>some .non
 | .bool b=>some (.bl b)
 | .int i _=>some (.int i)
 | .str x _=>some (.str x)
 | .bytes b _=>some (.byt b)
 | .float b _=>some (.flt b)
 | .ref a=>some (.ref a)
 | .type n=>some (.ty n)
 |_=>none
theorem RelV.abs {x:V}{u:aB}(r:RelV x u):absV u=some x:=by
 cases x with
 |non=>cases r;rfl
 |bl _=>cases r;rfl
 |int _=>obtain⟨t,rfl⟩:=r;rfl
 |str _=>obtain⟨t,rfl⟩:=r;rfl
 |byt _=>obtain⟨t,rfl⟩:=r;rfl
 |flt _=>obtain⟨t,rfl⟩:=r;rfl
 |ref _=>cases r;rfl
 |ty _=>cases r;rfl
theorem RelV.inj {x y:V}{u:aB}(r:RelV x u)(q:RelV y u):x=y:=eQ (r.abs.symm.trans q.abs)
theorem Vals.inj:∀{xs ys:List V}{us:List aB},Vals xs us->Vals ys us->xs=ys
 |_,_,_,.nil,.nil=>rfl
 |_,_,_,.cons r t,.cons r' t'=>by rw[r.inj r',Vals.inj t t']
section
variable {X:Cx}{pins:List (Addr×Obj)}{σ:St}{H:Hp}{s:aI}{a:Addr}{xs ys:List V}
theorem SqL.of {K:aA}(h:H a=some (.lst xs)):SqL K H a xs:=.inl (.inl h)
theorem SqT.of {K:aA}(h:H a=some (.tup xs)):SqT K H a xs:=.inl (.inl h)
theorem Inv.list (I:Inv X pins σ H s)(h:SqL X.K H a xs):∃its:List aB,Vals xs its/\PlainL s.heap a its.toArray/\xs.length<=sizeLine:=by
 rcases h with h | ⟨o,its,n,hk,hc,hd,hs,hz,r⟩
 ·obtain⟨z,its,n,r,e⟩:=h.ok I.hok;exact⟨its,r,⟨_,n,e,rfl,rfl,rfl⟩,z⟩
 ·refine⟨its.toList,r,⟨o,n,I.kIn a o hk,hc,hd,by simpa using hs⟩,?_⟩;have e:=r.length;simp only[lV]at e;lia
theorem Inv.tuple (I:Inv X pins σ H s)(h:SqT X.K H a xs):∃its:List aB,Vals xs its/\xN s.heap a its.toArray/\xs.length<=sizeLine:=by
 rcases h with h | ⟨o,its,n,hk,hc,hs,hz,r⟩
 ·obtain⟨z,its,r,p⟩:=h.ok I.hok;exact⟨its,r,p,z⟩
 ·refine⟨its.toList,r,⟨o,I.kIn a o hk,hc,n,by simpa using hs⟩,?_⟩;have e:=r.length;simp only[lV]at e;lia
theorem Inv.list_inj (I:Inv X pins σ H s)(h:SqL X.K H a xs)(h':SqL X.K H a ys):xs=ys:=by
 obtain⟨its,r,⟨o,n,e,_,_,d⟩,_⟩:=I.list h;obtain⟨its',r',⟨o',n',e',_,_,d'⟩,_⟩:=I.list h';rw[e]at e';cases e';rw[d]at d';injection d' with d1 _;have:its=its':=(by simpa using congrArg Array.toList d1);subst this;exact r.inj r'
theorem Inv.tuple_inj (I:Inv X pins σ H s)(h:SqT X.K H a xs)(h':SqT X.K H a ys):xs=ys:=by
 obtain⟨its,r,⟨o,e,_,n,d⟩,_⟩:=I.tuple h;obtain⟨its',r',⟨o',e',_,n',d'⟩,_⟩:=I.tuple h';rw[e]at e';cases e';rw[d]at d';injection d' with d1 _;have:its=its':=(by simpa using congrArg Array.toList d1);subst this;exact r.inj r'
end
abbrev Cx.wish (X:Cx)(E:aB->aI->Prop):Cx:={ X with xe:=E }
abbrev Cx.nox (X:Cx):Cx:=X.wish λ_ _=>False
theorem Cx.Ok.wish {X:Cx}(ok:X.Ok)(E:aB->aI->Prop):(X.wish E).Ok:=
 ⟨ok.mod,ok.kind,ok.glob,ok.blt,ok.above,ok.inj,ok.has,ok.cab,ok.hd,ok.frames,ok.stk,ok.exf,ok.bs,ok.bsz,ok.noex,ok.exfs,ok.funs,ok.frf⟩
theorem Cx.Ok.unwish {X:Cx}{E:aB->aI->Prop}(ok:(X.wish E).Ok):X.Ok:=
 ⟨ok.mod,ok.kind,ok.glob,ok.blt,ok.above,ok.inj,ok.has,ok.cab,ok.hd,ok.frames,ok.stk,ok.exf,ok.bs,ok.bsz,ok.noex,ok.exfs,ok.funs,ok.frf⟩
section
variable {X:Cx}{pins:List (Addr×Obj)}{σ:St}{H:Hp}{s:aI}{E:aB->aI->Prop}
theorem Inv.wish (I:Inv X pins σ H s)(E:aB->aI->Prop):Inv (X.wish E) pins σ H s:=⟨I.ok.wish E,I.os,I.bare,I.base,I.loc,I.cell,I.free,I.freeC,I.pin,I.hok,I.len⟩
theorem Inv.unwish (I:Inv (X.wish E) pins σ H s):Inv X pins σ H s:=⟨I.ok.unwish,I.os,I.bare,I.base,I.loc,I.cell,I.free,I.freeC,I.pin,I.hok,I.len⟩
theorem SP.unwish {D:db}{f:Flow}{s':aI}(h:SP (X.wish E) pins D f s'):SP X pins D f s':=by
 cases f with
 |next=>obtain⟨σ',H',I,q⟩:=h;exact⟨σ',H',I.unwish,q⟩
 |brk=>obtain⟨σ',H',I,q⟩:=h;exact⟨σ',H',I.unwish,q⟩
 |cont=>obtain⟨σ',H',I,q⟩:=h;exact⟨σ',H',I.unwish,q⟩
 |ret u=>obtain⟨v,σ',H',I,r,q⟩:=h;exact⟨v,σ',H',I.unwish,r,q⟩
theorem PSs.nox {st:List Stmt}{t:TS}(h:PSs X.nox st t):PSs X st t:=λpins s σ H D I hw=>
 gC (h pins s σ H D (I.wish _) hw) (λ_ _ q=>q.unwish) λ_ _ z=>gY z
end
section
variable {X:Cx}{st:Stmt}{rest:List Stmt}{t u:TS}{e:Expr}{te:TE}{pos:Pos}
def tz:TS:=λD σ H=>D.nx σ H
def Ua (t u:TS):TS:=λD σ H=>t { D with nx:=u D } σ H
theorem bo:PSs X [] tz:=λ_ _ σ H _ I h=>pU ⟨σ,H,I,h⟩
theorem ah (h1:PS X st t)(h2:PSs X rest u):PSs X (st::rest) (Ua t u):=by
 intro pins s σ H D I h;refine wpAny_execs_cons (thn (h1 pins s σ H { D with nx:=u D } I h) λf s1 q=>?_);cases f with
 |next=>
  obtain⟨σ',H',I',q⟩:=q;exact h2 pins s1 σ' H' D I' q
 |ret v=>exact q
 |brk=>exact q
 |cont=>exact q
theorem ai (h1:PS X st t):PSs X [st] t:=by
 intro pins s σ H D I h;refine wpAny_execs_cons (thn (h1 pins s σ H D I h) λf s1 q=>?_);cases f with
 |next=>exact pU q
 |ret v=>exact q
 |brk=>exact q
 |cont=>exact q
theorem Inv.quiet {pins:List (Addr×Obj)}{σ:St}{H:Hp}{s:aI}(I:Inv X pins σ H s):interactive X.env=false:=by simp[interactive,I.ok.kind]
def Wa (te:TE):TS:=λD σ H=>te σ H λ_ H1=>D.nx σ H1
theorem bx (he:PE X e te)(hs:qA e none pos.line X.env=pure false:=by rfl):PS X (.Expr e pos) (Wa te):=by
 intro pins s σ H D I h;exact wpAny_Expr_any (thn (he pins s σ H _ I h) λv s1 h0_=>by obtain⟨x,H1,I1,r1,q1⟩:=h0_;exact⟨σ,H1,I1,q1⟩) I.quiet hs
def tRet (te:TE):TS:=λD σ H=>te σ H D.rt
theorem au (he:PE X e te):PS X (.Return (some e) pos) (tRet te):=by
 intro pins s σ H D I h;exact wpAny_Return_some (thn (he pins s σ H _ I h) λv s1 h0_=>by obtain⟨x,H1,I1,r1,q1⟩:=h0_;exact⟨x,σ,H1,I1,r1,q1⟩)
def Nd (c:TT)(t u:TS):TS:=λD σ H=>c σ H λb H1=>if b=true then t D σ H1 else u D σ H1
theorem cj {c:Expr}{a b:List Stmt}{tc:TT}(hc:PT X c tc)(ha:PSs X a t)(hb:PSs X b u):PS X (.If c a b pos) (Nd tc t u):=by
 intro pins s σ H D I h;refine wpAny_If (thn (hc pins s σ H _ I h) λd s1 h0_=>?_);obtain⟨H1,I1,q1⟩:=h0_;cases d with
 |true=>exact ha pins s1 σ H1 D I1 q1
 |false=>exact hb pins s1 σ H1 D I1 q1
end
abbrev TG:=V->St->Hp->(St->Hp->Prop)->Prop
abbrev TGs:=List V->St->Hp->(St->Hp->Prop)->Prop
def PG (X:Cx)(target:Expr)(t:TG):Prop:=
 ∀(pins:List (Addr×Obj))(s:aI) (σ:St) (H:Hp) (v:V) (u:aB) (Q:St->Hp->Prop),Inv X pins σ H s->RelV v u->t v σ H Q->
  aM (aX X.prog X.w) X.A (tP target X.env u) (λ_ s'=>∃σ' H',Inv X pins σ' H' s'/\Q σ' H') X.xe s
def PGs (X:Cx)(ts:List Expr)(t:TGs):Prop:=
 ∀(pins:List (Addr×Obj))(s:aI) (σ:St) (H:Hp) (vs:List V) (us:List aB) (Q:St->Hp->Prop),Inv X pins σ H s->Vals vs us->t vs σ H Q->
  aM (aX X.prog X.w) X.A (assignInOrder ((oZ ts X.env).map (·.2)) us) (λ_ s'=>∃σ' H',Inv X pins σ' H' s'/\Q σ' H') X.xe s
abbrev Nf:=V->V->V->Hp->(Hp->Prop)->Prop
def Ng (X:Cx)(t:Nf):Prop:=
 ∀(pins:List (Addr×Obj))(s:aI) (σ:St) (H:Hp) (o i v:V) (ov iv u:aB) (Q:Hp->Prop),Inv X pins σ H s->RelV o ov->RelV i iv->RelV v u->t o i v H Q->
  aM (aX X.prog X.w) X.A (setItem ov iv u) (λ_ s'=>∃H',Inv X pins σ H' s'/\Q H') X.xe s
abbrev TIp:=V->V->Hp->VK->Prop
def PIp (X:Cx)(op:Operator)(t:TIp):Prop:=
 ∀(pins:List (Addr×Obj))(s:aI) (σ:St) (H:Hp) (x y:V) (v u:aB) (Q:VK),Inv X pins σ H s->RelV x v->RelV y u->t x y H Q->
  aM (aX X.prog X.w) X.A (wM op v u) (EP X pins σ Q) X.xe s
section
variable {X:Cx}{pos:Pos}
def o6 (i:Nat):TG:=λv σ H Q=>Q (σ.set i (some v)) H
theorem ay {i:Nat}{x:Str}(hN:X.N.Nodup)(hi:X.N[i]?=some x)(hx:Loc X.env.scope x)(hf:X.fn x=true\/X.env.scope.names.lookup x=some .local:=by first | exact .inl rfl | exact .inr rfl | assumption):PG X (.Name x pos) (o6 i):=by
 intro pins s σ H v u Q I r h;exact wpAny_assign_Name (tj I hN hi hx r (λs' I'=>⟨_,H,I',h⟩) hf)
def Ub:TGs:=λvs σ H Q=>vs=[]/\Q σ H
def Hd (t:TG)(u:TGs):TGs:=λvs σ H Q=>∃v r,vs=v::r/\t v σ H λσ' H'=>u r σ' H' Q
theorem im:PGs X [] Ub:=by
 intro pins s σ H vs us Q I r h;obtain⟨e,h⟩:=h;subst e;cases r;exact assignInOrder_nil ⟨σ,H,I,h⟩
theorem cn {e:Expr}{es:List Expr}{t:TG}{u:TGs}(h1:PG X e t)(h2:PGs X es u)
  (hs:(oZ (e::es) X.env).map (·.2)=tP e X.env::(oZ es X.env).map (·.2):=by rfl):PGs X (e::es) (Hd t u):=by
 intro pins s σ H vs us Q I r h;obtain⟨v,vr,e1,h⟩:=h;subst e1;cases r with
 |cons r rr=>
  rw[hs];refine assignInOrder_cons (thn (h1 pins s σ H _ _ _ I r h) λ_ s1 h0_=>?_);obtain⟨σ1,H1,I1,q1⟩:=h0_;exact h2 pins s1 σ1 H1 _ _ Q I1 rr q1
def Uc (K:aA)(n:Nat)(t:TGs):TG:=λv σ H Q=>∃a xs,v=.ref a/\SqT K H a xs/\xs.length=n/\t xs σ H Q
theorem jz {es:List Expr}{k:Nat}{t:TGs}{n:Nat}(hc:X.calm=true)(h:PGs X es t)
  (hn:(oZ es X.env).length=n:=by rfl) (hst:(oZ es X.env).findIdx? (·.1)=none:=by rfl):PG X (.Tuple es k pos) (Uc X.K n t):=by
 intro pins s σ H v u Q I r hw;obtain⟨a,xs,e1,hq,hl,hw⟩:=hw;subst e1;cases r;obtain⟨its,rv,ht,hz⟩:=I.tuple hq;refine assign_Tuple_tuple (I.ok.hd hc) ht (by simp[hn,<-hl,rv.length]) hst λh' hx=>?_;have I1:Inv X pins σ H { s with heap:=h' }:=I.kept (t':=s.toks) λb o e=>hx b o (cK (bX e)) e;exact h pins _ σ H xs _ Q I1 (by simpa using rv) hw
def gSub (to ti:TE)(t:Nf):TG:=λv σ H Q=>to σ H λo H1=>ti σ H1 λi H2=>t o i v H2 λH3=>Q σ H3
theorem Cw {o i:Expr}{to ti:TE}{t:Nf}(ho:PE X o to)(hi:PE X i ti)(hs:Ng X t)
  (ha:∀v,tP (.Subscript o i pos) X.env v=(do
    let ov <-oU [v] (eval o X.env)
    let iv <-oU [v,ov] (eval i X.env)
    sV pos
    oU [v,ov,iv] (setItem ov iv v)
    release [v,ov,iv] []):=by intro _;rfl):PG X (.Subscript o i pos) (gSub to ti t):=by
 intro pins s σ H v u Q I r h;rw[ha];refine aC (iK (thn (ho pins s σ H _ I h) λov s1 h0_=>?_));obtain⟨x,H1,I1,r1,q1⟩:=h0_;refine aC (iK (thn (hi pins s1 σ H1 _ I1 q1) λiv s2 h0_=>?_));obtain⟨y,H2,I2,r2,q2⟩:=h0_;refine aC (nG (aC (iK (thn (hs pins s2 σ H2 x y v ov iv u _ I2 r1 r2 r q2) λ_ s3 h0_=>?_))));obtain⟨H3,I3,q3⟩:=h0_;exact wpAny_release ⟨σ,H3,I3,q3⟩
def Ud (te:TE)(g:TG):TS:=λD σ H=>te σ H λx H1=>g x σ H1 D.nx
theorem r8 {tg e:Expr}{te:TE}{g:TG}(he:PE X e te)(hg:PG X tg g)(hs:swapsWithSole [tg] e pos.line X.env=pure false:=by rfl)(hw:swappedStores [tg] e X.env=pure none:=by rfl)
  (h1:(oZ [tg] X.env).map (·.2)=[tP tg X.env]:=by rfl):PS X (.Assign [tg] e pos) (Ud te g):=by
 intro pins s σ H D I h;refine wpAny_Assign_stores (thn (he pins s σ H _ I h) λv s1 h0_=>?_) hs hw;obtain⟨x,H1,I1,r1,q1⟩:=h0_;rw[h1];exact thn (hg pins s1 σ H1 x v _ I1 r1 q1) λ_ s2 q=>q
theorem ax {i:Nat}{x:Str}{e:Expr}{te:TE}{pos':Pos}(hN:X.N.Nodup)(hi:X.N[i]?=some x)(hx:Loc X.env.scope x)(he:PE X e te)(hs:qA e (some (.Name x pos')) pos.line X.env=pure false:=by rfl)(hf:X.fn x=true\/X.env.scope.names.lookup x=some .local:=by first | exact .inl rfl | exact .inr rfl | assumption) :
  PS X (.Assign [.Name x pos'] e pos) (Ud te (o6 i)):=by
 intro pins s σ H D I h;refine wpAny_Assign_Name (thn (he pins s σ H _ I h) λv s1 h0_=>?_) hs;obtain⟨y,H1,I1,r1,q1⟩:=h0_;exact tj I1 hN hi hx r1 (λs2 I2=>⟨_,H1,I2,q1⟩) hf
def tAug (i:Nat)(te:TE)(ti:TIp):TS:=λD σ H=>∃x,σ[i]?=some (some x)/\te σ H λy H1=>ti x y H1 λz H2=>D.nx (σ.set i (some z)) H2
theorem Kc {i:Nat}{x:Str}{e:Expr}{te:TE}{op:Operator}{ti:TIp}{pos':Pos}(hN:X.N.Nodup)(hi:X.N[i]?=some x)(hx:Loc X.env.scope x)(he:PE X e te)(ho:PIp X op ti)(hf:X.fn x=true\/X.env.scope.names.lookup x=some .local:=by first | exact .inl rfl | exact .inr rfl | assumption) :
  PS X (.AugAssign (.Name x pos') op e pos) (tAug i te ti):=by
 intro pins s σ H D I h;obtain⟨v,e1,h⟩:=h;obtain⟨m,hn,hl⟩:=I.loc;have vis:Vis X.env.scope x:=(by rcases hx with k | k;exact .inl k;exact .inr (.inl k));obtain⟨u,r,l⟩:=hl i x v hi e1 vis;refine wpAny_AugAssign_Name ?_;have go:aM (aX X.prog X.w) X.A (eval e X.env) (λw s₂=>aM (aX X.prog X.w) X.A (wM op u w) (λr s₃=>aM (aX X.prog X.w) X.A (wL X.env x r) (λ_=>SP X pins D .next) X.xe s₃) X.xe s₂) X.xe s:=by
  refine thn (he pins s σ H _ I h) λw s1 h0_=>?_;obtain⟨y,H1,I1,r1,q1⟩:=h0_;refine thn (ho pins s1 σ H1 v y u w _ I1 r r1 q1) λz s2 h0_=>?_;obtain⟨zv,H2,I2,r2,q2⟩:=h0_;exact tj I2 hN hi hx r2 (λs3 I3=>⟨_,H2,I3,q2⟩) hf
 rcases l with⟨hk,hm⟩ | ⟨hk,c,hc,hcell⟩
 ·exact wpAny_loadName_local I.ok.kind hk hn hm go
 ·rcases hk with hk | hk
  ·exact wpAny_loadName_cell I.ok.kind hk hc hcell go
  ·rcases hx with k | k
   ·have:X.env.scope.names.lookup x=some .free:=hk;rw[k]at this;cases this
   ·have:X.env.scope.names.lookup x=some .free:=hk;rw[k]at this;cases this
end
section
variable {X:Cx}{pos:Pos}
def Ue (c:TT)(tb:TS):TS:=λD σ H=>∃W:Nat->St->Hp->Prop,(∃m,W m σ H)/\∀m σ H,W m σ H->
 c σ H λb H1=>if b=true then ∃N:St->Hp->Prop,(∀σ' H',N σ' H'->∃m',m' < m/\W m' σ' H')/\tb { D with nx:=N,ct:=N,bk:=D.nx } σ H1 else D.nx σ H1
theorem xj {c:Expr}{body:List Stmt}{tc:TT}{tb:TS}(hp:PassesOwn (aX X.prog X.w) X.A X.env X.xe)(hc:PT X c tc)(hb:PSs X body tb):PS X (.While c body [] pos) (Ue tc tb):=by
 intro pins s σ H D I h;obtain⟨W,⟨m0,w0⟩,turn⟩:=h;refine wpAny_While (codeAny_whileLoop (λn s'=>∃σ' H',Inv X pins σ' H' s'/\W n σ' H') ?_ m0 ⟨σ,H,I,w0⟩);intro n s1 h_1;obtain⟨σ1,H1,I1,w1⟩:=h_1;refine nC hp (thn (hc pins s1 σ1 H1 _ I1 (turn n σ1 H1 w1)) λb s2 h0_=>?_);obtain⟨H2,I2,q2⟩:=h0_;cases b with
 |true=>
  obtain⟨N,hN,q2⟩:=q2;rw[if_pos rfl];refine nC hp (thn (hb pins s2 σ1 H2 _ I2 q2) λf s3 q3=>?_);cases f with
  |next=>
   obtain⟨σ3,H3,I3,n3⟩:=q3;obtain⟨m',hm,w3⟩:=hN σ3 H3 n3;exact⟨m',hm,σ3,H3,I3,w3⟩
  |cont=>
   obtain⟨σ3,H3,I3,n3⟩:=q3;obtain⟨m',hm,w3⟩:=hN σ3 H3 n3;exact⟨m',hm,σ3,H3,I3,w3⟩
  |brk=>exact q3
  |ret v=>exact q3
 |false=>
  rw[if_neg cU];exact pU ⟨σ1,H2,I2,q2⟩
end
structure It where
 go:Nat->Hp->Prop
 yld:Nat->Hp->V->Hp->Prop
 stop:Nat->Hp->Prop
def i8 (X:Cx)(pins:List (Addr×Obj))(H:Hp)(b:Addr):Prop:=
 H b=none/\b≠X.env.locals/\b ∉ X.fs/\(b∈X.ex\/X.s₀.heap.objs.size<=b)/\(∀x c,X.env.cells.lookup x=some c->c≠b)/\∀p∈X.pn++pins,p.1≠b
theorem Inv.fpOk {X:Cx}{pins:List (Addr×Obj)}{σ:St}{H H':Hp}{s:aI}{b:Addr}(I:Inv X pins σ H s)(hb:s.heap.objs.size<=b)(hn:H' b=none):i8 X pins H' b:=by
 refine⟨hn,gT (eF I.lt hb),I.nofs hb,.inr (bK I.sz hb),λx c e z=>?_,λp hp z=>?_⟩
 ·obtain⟨v,q⟩:=I.cell x c e;exact absurd (eF q.lt (by rw[z];exact hb)) (pI _)
 ·exact absurd (eF (bX (I.pin p hp).1) (by rw[z];exact hb)) (pI _)
structure t9 (P:aS)(w:bZ)(K:aA)(tg:Expr)(J:It)(fp:List Addr)(it:Addr)(tn:Nat->Heap->Prop):Prop where
 mem:it∈fp
 obj:∀i h,tn i h->∀b∈fp,∃o,h.get? b=some o/\∀v,o.data≠.cell v
 keep:∀i h h',tn i h->(∀b∈fp,∀o,h.get? b=some o->h'.get? b=some o)->tn i h'
 item:∀(X:Cx),X.prog=P->X.w=w->X.K=K->X.calm=true->∀(i:Nat)(pins:List (Addr×Obj)) (s:aI) (σ:St) (H:Hp) (E:aB->aI->Prop),Inv X pins σ H s->(∀b∈fp,i8 X pins H b)->tn i s.heap->J.go i H->
  aM (aX P w) X.A (mQ (.ref it)) (λr s1=>∃u,r=some u/\aM (aX P w) X.A (rV tg (.ref it) u) (λ_ s2=>∃x H',Inv X pins σ H' s2/\RelV x u/\J.yld i H x H'/\tn (i+1) s2.heap/\∀b∈fp,H' b=none) E s1) E s
 done:∀(X:Cx),X.prog=P->X.w=w->X.K=K->X.calm=true->∀(i:Nat)(pins:List (Addr×Obj)) (s:aI) (σ:St) (H:Hp) (E:aB->aI->Prop),Inv X pins σ H s->(∀b∈fp,i8 X pins H b)->tn i s.heap->J.stop i H->
  aM (aX P w) X.A (mQ (.ref it)) (λr s1=>r=none/\Inv X pins σ H s1) E s
 self:∀(A:cW)(i:Nat) (s:aI) (Q:aB->aI->Prop) (E:aB->aI->Prop),tn i s.heap->Q (.ref it) s->aM (aX P w) A (pyIter (.ref it)) Q E s
abbrev TI:=St->Hp->(It->Hp->Prop)->Prop
def PIE (X:Cx)(pins:List (Addr×Obj))(σ:St)(tg:Expr)(R:It->Hp->Prop)(itv:aB)(s2:aI):Prop:=
 ∃(it:Addr)(fp:List Addr) (tn:Nat->Heap->Prop) (J:It) (H':Hp),itv=.ref it/\Inv X pins σ H' s2/\t9 X.prog X.w X.K tg J fp it tn/\tn 0 s2.heap/\(∀b∈fp,i8 X pins H' b)/\R J H'
def PI (X:Cx)(tg iter:Expr)(wi:TI):Prop:=
 ∀(pins:List (Addr×Obj))(s:aI) (σ:St) (H:Hp) (R:It->Hp->Prop),Inv X pins σ H s->wi σ H R->
  aM (aX X.prog X.w) X.A (eval iter X.env) (λv s1=>aM (aX X.prog X.w) X.A (pyIter v) (PIE X pins σ tg R) X.xe s1) X.xe s
theorem yb {M:tJ}{A:cW}{E:aB->aI->Prop}{s:aI}{tg:Expr}{it:Addr}{u:aB}{o:Obj}{n:String}{vs:Array aB}{Q:Unit->aI->Prop}(ho:s.heap.get? it=some o)(hc:o.cls=.type n)(hd:o.data=.fields vs)
  (hn:["enumerate","zip","dict_itemiterator","dict_reverseitemiterator","odict_iterator","itertools.zip_longest","itertools.pairwise"].contains n=false) (hQ:Q () s):aM M A (rV tg (.ref it) u) Q E s:=by
 unfold rV;cases tg<;>first
  |exact wpAny_pure hQ
  | (cases u<;>first
      |exact wpAny_pure hQ
      | (refine aC (wpAny_load ho ?_)
         rw[hc,hd];show aM M A (if (["enumerate","zip","dict_itemiterator","dict_reverseitemiterator","odict_iterator","itertools.zip_longest","itertools.pairwise"].contains n && vs[0]? == some (jC _))=true then _ else _) Q E s
         rw[if_neg (by intro h;rw[hn,Bool.false_and]at h;cases h)];exact wpAny_pure hQ))
def Itl (K:aA)(a:Addr):It:=
 ⟨λi H=>∃xs x,SqL K H a xs/\xs[i]?=some x,λi H x H'=>H'=H/\∀xs,SqL K H a xs->xs[i]?=some x,λi H=>∃xs,SqL K H a xs/\xs.length<=i⟩
def Itt (K:aA)(a:Addr):It:=
 ⟨λi H=>∃xs x,SqT K H a xs/\xs[i]?=some x,λi H x H'=>H'=H/\∀xs,SqT K H a xs->xs[i]?=some x,λi H=>∃xs,SqT K H a xs/\xs.length<=i⟩
def Itr (lo:Int)(n:Nat):It:=⟨λi _=>i < n,λi H x H'=>H'=H/\x=.int (lo+i),λi _=>n<=i⟩
theorem Ke {P:aS}{w:bZ}{K:aA}{tg:Expr}(a it:Addr):t9 P w K tg (Itl K a) [it] it (λi h=>h.IsListIter it a i) where
 mem:=by simp
 obj:=λi h st b hb=>by
  have e:b=it:=(by simpa using hb);subst e;obtain⟨o,e,c,d⟩:=st;exact⟨o,e,λv z=>by rw[d]at z;cases z⟩
 keep:=λi h h' st k=>st.at λo e=>k it (by simp) o e
 item:=by
  intro X hP hw hK hc i pins s σ H E I hf st hg;subst hP hw hK;obtain⟨xs,x,hq,hx⟩:=hg;obtain⟨its,rv,p,hz⟩:=I.list hq;obtain⟨u,hu,ru⟩:=rv.get hx;obtain⟨f0,f1,f2,f3,f4,f5⟩:=hf it (by simp);refine qX st p.isList (x:=u) (by simpa using hu) λh' st' sb=>?_;have I1:Inv X pins σ H { s with heap:=h' }:=I.turned (t':=s.toks) (λb o hb e=>(sb.2 b hb).trans e) f0 f1 f3 f4 f5;obtain⟨o,e,c,d⟩:=id st';exact⟨u,rfl,yb (s:={ s with heap:=h' }) e c d (by decide) ⟨x,H,I1,ru,⟨rfl,λys hy=>by rw[I.list_inj hy hq];exact hx⟩,st',λb hb=>(hf b hb).1⟩⟩
 done:=by
  intro X hP hw hK hc i pins s σ H E I hf st hg;subst hP hw hK;obtain⟨xs,hq,hx⟩:=hg;obtain⟨its,rv,p,hz⟩:=I.list hq;obtain⟨f0,f1,f2,f3,f4,f5⟩:=hf it (by simp);have hl:=rv.length;exact rG (I.ok.hd hc) st p.isList (by simp;lia) λh' eb=>⟨rfl,I.turned (t':=s.toks) (λb o hb e=>eb b o hb e) f0 f1 f3 f4 f5⟩
 self:=λ_ _ _ _ _ st h=>wpAny_pyIter_listiter st h
theorem He {P:aS}{w:bZ}{K:aA}{tg:Expr}(a it:Addr):t9 P w K tg (Itt K a) [it] it (λi h=>h.IsTupleIter it a i) where
 mem:=by simp
 obj:=λi h st b hb=>by
  have e:b=it:=(by simpa using hb);subst e;obtain⟨o,e,c,d⟩:=st;exact⟨o,e,λv z=>by rw[d]at z;cases z⟩
 keep:=λi h h' st k=>st.at λo e=>k it (by simp) o e
 item:=by
  intro X hP hw hK hc i pins s σ H E I hf st hg;subst hP hw hK;obtain⟨xs,x,hq,hx⟩:=hg;obtain⟨its,rv,p,hz⟩:=I.tuple hq;obtain⟨u,hu,ru⟩:=rv.get hx;obtain⟨f0,f1,f2,f3,f4,f5⟩:=hf it (by simp);refine wpAny_pyNext_tuple_item st (show s.heap.IsTuple a its.toArray from p) (x:=u) (by simpa using hu) λh' st' sb=>?_;have I1:Inv X pins σ H { s with heap:=h' }:=I.turned (t':=s.toks) (λb o hb e=>(sb.2 b hb).trans e) f0 f1 f3 f4 f5;obtain⟨o,e,c,d⟩:=id st';exact⟨u,rfl,yb (s:={ s with heap:=h' }) e c d (by decide) ⟨x,H,I1,ru,⟨rfl,λys hy=>by rw[I.tuple_inj hy hq];exact hx⟩,st',λb hb=>(hf b hb).1⟩⟩
 done:=by
  intro X hP hw hK hc i pins s σ H E I hf st hg;subst hP hw hK;obtain⟨xs,hq,hx⟩:=hg;obtain⟨its,rv,p,hz⟩:=I.tuple hq;obtain⟨f0,f1,f2,f3,f4,f5⟩:=hf it (by simp);have hl:=rv.length;exact wpAny_pyNext_tuple_end (I.ok.hd hc) st (show s.heap.IsTuple a its.toArray from p) (by simp;lia) λh' eb=>⟨rfl,I.turned (t':=s.toks) (λb o hb e=>eb b o hb e) f0 f1 f3 f4 f5⟩
 self:=λ_ _ _ _ _ st h=>wpAny_pyIter_tupleiter st h
theorem Hf {P:aS}{w:bZ}{K:aA}{tg:Expr}(it:Addr)(lo:Int)(n:Nat):t9 P w K tg (Itr lo n) [it] it (λi h=>vL h it (lo+(i:Nat) * 1) ((n:Int) - (i:Nat)) 1) where
 mem:=by simp
 obj:=λi h st b hb=>by
  have e:b=it:=(by simpa using hb);subst e;exact⟨_,st,λv z=>by
    have z':tK _=rH v:=z;cases z'⟩
 keep:=λi h h' st k=>k it (by simp) _ st
 item:=by
  intro X hP hw hK hc i pins s σ H E I hf st hg;subst hP hw hK;obtain⟨f0,f1,f2,f3,f4,f5⟩:=hf it (by simp);have W:=Walks.range (prog:=X.prog) (w:=X.w) (I.ok.hd hc) it lo 1 n;refine W.item i s _ _ hg st λv h' tk hv st' kk=>?_;obtain⟨t,rfl⟩:=hv;have I1:Inv X pins σ H { s with heap:=h',toks:=tk }:=I.turned (λb o hb e=>kk b o (by simpa using hb) e) f0 f1 f3 f4 f5;refine⟨_,rfl,yb (s:={ s with heap:=h',toks:=tk }) (n:="range_iterator") st' rfl rfl (by decide) ⟨.int (lo+i),H,I1,⟨t,?_⟩,⟨rfl,rfl⟩,st',λb hb=>(hf b hb).1⟩⟩;rw[Int.mul_one]
 done:=by
  intro X hP hw hK hc i pins s σ H E I hf st hg;subst hP hw hK;obtain⟨f0,f1,f2,f3,f4,f5⟩:=hf it (by simp);exact wpAny_pyNext_range_end (I.ok.hd hc) st (by have:n<=i:=hg;lia) λh' eb=>⟨rfl,I.turned (t':=s.toks) (λb o hb e=>eb b o hb e) f0 f1 f3 f4 f5⟩
 self:=λ_ _ _ _ _ st h=>wpAny_pyIter_rangeiter st h
end L2
namespace L2
open PySem PySem.Spec PyProof.Rows
section
variable {X:Cx}{tg:Expr}
def Wb (K:aA)(tl:TE):TI:=λσ H R=>tl σ H λx H1=>∃a,x=.ref a/\(∃xs,SqL K H1 a xs)/\R (Itl K a) H1
def iTup (K:aA)(tl:TE):TI:=λσ H R=>tl σ H λx H1=>∃a,x=.ref a/\(∃xs,SqT K H1 a xs)/\R (Itt K a) H1
theorem ck {l:Expr}{tl:TE}(hl:PE X l tl):PI X tg l (Wb X.K tl):=by
 intro pins s σ H R I h;refine thn (hl pins s σ H _ I h) λv s1 h0_=>?_;obtain⟨x,H1,I1,r1,q1⟩:=h0_;obtain⟨a,e,⟨xs,hq⟩,q⟩:=q1;subst e;cases r1;obtain⟨its,rv,p,hz⟩:=I1.list hq;refine hX p.isList ?_;refine⟨s1.heap.objs.size,[s1.heap.objs.size],_,_,H1,rfl,I1.kept (t':=s1.toks) λb o e=>aJ _ e,Ke a _,⟨_,cJ _ rfl,rfl,rfl⟩,λb hb=>?_,q⟩;have e:b=s1.heap.objs.size:=(by simpa using hb);subst e;exact I1.fpOk (aO _) (I1.hok.fresh (aO _))
theorem on {l:Expr}{tl:TE}(hl:PE X l tl):PI X tg l (iTup X.K tl):=by
 intro pins s σ H R I h;refine thn (hl pins s σ H _ I h) λv s1 h0_=>?_;obtain⟨x,H1,I1,r1,q1⟩:=h0_;obtain⟨a,e,⟨xs,hq⟩,q⟩:=q1;subst e;cases r1;obtain⟨its,rv,p,hz⟩:=I1.tuple hq;refine oH (show s1.heap.IsTuple a its.toArray from p) ?_;refine⟨s1.heap.objs.size,[s1.heap.objs.size],_,_,H1,rfl,I1.kept (t':=s1.toks) λb o e=>aJ _ e,He a _,⟨_,cJ _ rfl,rfl,rfl⟩,λb hb=>?_,q⟩;have e:b=s1.heap.objs.size:=(by simpa using hb);subst e;exact I1.fpOk (aO _) (I1.hok.fresh (aO _))
theorem Cy {pins:List (Addr×Obj)}{σ:St}{H:Hp}{s:aI}{R:It->Hp->Prop}{E:aB->aI->Prop}{lo hi:Int}{t u v:Tok}{tk:Nat}(I:Inv X pins σ H s)(h1:-(2 ^ 62)<=lo)(h2:lo < 2 ^ 62)(h3:-(2 ^ 62)<=hi)(h4:hi < 2 ^ 62)
  (q:R (Itr lo (hi - lo).toNat) H):aM (aX X.prog X.w) X.A (pyIter (.ref s.heap.objs.size)) (PIE X pins σ tg R) E { s with heap:=s.heap.push { cls:=.type "range",data:=.fields #[.int lo t,.int hi u,.int 1 v] },toks:=tk }:=by
 refine wpAny_pyIter_range (IsRange.new ..) (small_one h1 h2 h3 h4) ?_;have I1:Inv X pins σ H { s with heap:=s.heap.push { cls:=.type "range",data:=.fields #[.int lo t,.int hi u,.int 1 v] },toks:=tk }:=I.kept λb o e=>aJ _ e;refine⟨(s.heap.push { cls:=.type "range",data:=.fields #[.int lo t,.int hi u,.int 1 v] }).objs.size,[(s.heap.push { cls:=.type "range",data:=.fields #[.int lo t,.int hi u,.int 1 v] }).objs.size],_,_,H,rfl,I1.kept (t':=tk) λb o e=>aJ _ e,Hf _ lo (hi - lo).toNat,?_,λb hb=>?_,q⟩
 ·have e1:lo+((0:Nat):Int) * 1=lo:=(by simp);have e2:(((hi - lo).toNat:Nat):Int) - ((0:Nat):Int)=nZ lo hi 1:=(by rw[rangeSize_one];split<;>lia);show vL _ _ (lo+((0:Nat):Int) * 1) ((((hi - lo).toNat:Nat):Int) - ((0:Nat):Int)) 1;rw[e1,e2];exact cJ _ rfl
 ·have e:b=(s.heap.push { cls:=.type "range",data:=.fields #[.int lo t,.int hi u,.int 1 v] }).objs.size:=(by simpa using hb);subst e;exact I1.fpOk (aO _) (I1.hok.fresh (aO _))
def Wc (ta:TA):TI:=λσ H R=>ta σ H λvs H1=>∃j:Int,vs=[.int j]/\-(2 ^ 62)<=j/\j < 2 ^ 62/\R (Itr 0 j.toNat) H1
def Wd (ta:TA):TI:=λσ H R=>ta σ H λvs H1=>∃i j:Int,vs=[.int i,.int j]/\(-(2 ^ 62)<=i/\i < 2 ^ 62/\-(2 ^ 62)<=j/\j < 2 ^ 62)/\R (Itr i (j - i).toNat) H1
theorem ip {a:Expr}{ta:TA}{p pos:Pos}(hg:Gl X "range")(hm:X.mg "range"=none)(ha:PA X [a] ta)(hs:cZ [a] X.env=[(false,eval a X.env)]:=by rfl):PI X tg (.Call (.Name "range" p) [a] [] pos) (Wc ta):=by
 intro pins s σ H R I h;refine Call_ (jy I hg hm xS (gU (thn (ha pos pins s σ H _ I h) λus s1 h0_=>?_) hs rfl));obtain⟨vs,H1,I1,r1,q1⟩:=h0_;obtain⟨j,e,q1,q2,q⟩:=q1;subst e;cases r1 with
 |cons r rr=>
  cases rr;obtain⟨t,rfl⟩:=r;exact call_range_1 (Cy I1 (by lia) (by lia) q1 q2 (by simpa using q))
theorem Kf {a b:Expr}{ta:TA}{p pos:Pos}(hg:Gl X "range")(hm:X.mg "range"=none)(ha:PA X [a,b] ta)(hs:cZ [a,b] X.env=[(false,eval a X.env),(false,eval b X.env)]:=by rfl)(hs2:cZ [b] X.env=[(false,eval b X.env)]:=by rfl) :
  PI X tg (.Call (.Name "range" p) [a,b] [] pos) (Wd ta):=by
 intro pins s σ H R I h;refine Call_ (jy I hg hm xS (gU (thn (ha pos pins s σ H _ I h) λus s1 ⟨vs,H1,I1,r1,q1⟩=>?_) (by rw[hs,hs2]) (by rw[hs2];rfl)));obtain⟨i,j,e,⟨q1,q2,q3,q4⟩,q⟩:=q1;subst e;cases r1 with
 |cons r rr=>
  cases rr with
  |cons r' rr=>
   cases rr;obtain⟨t,rfl⟩:=r;obtain⟨t',rfl⟩:=r';exact call_range_2 (Cy I1 q1 q2 q3 q4 q)
def tFor (wi:TI)(g:TG)(tb:TS):TS:=λD σ H=>wi σ H λJ H1=>∃W:Nat->Nat->St->Hp->Prop,(∃m,W 0 m σ H1)/\∀i m σ H,W i m σ H->
 (J.stop i H/\D.nx σ H)\/(J.go i H/\∃N:St->Hp->Prop,(∀σ' H',N σ' H'->∃m',m' < m/\W (i+1) m' σ' H')/\∀x H',J.yld i H x H'->g x σ H' λσ2 H2=>tb { D with nx:=N,ct:=N,bk:=D.nx } σ2 H2)
def r9 (fp:List Addr)(h:Heap):List (Addr×Obj):=fp.filterMap λb=>(h.get? b).map λo=>(b,o)
theorem jp {fp:List Addr}{h:Heap}{b:Addr}{o:Obj}(hb:b∈fp)(e:h.get? b=some o):(b,o)∈r9 fp h:=List.mem_filterMap.mpr ⟨b,hb,by rw[e];rfl⟩
theorem Kg {fp:List Addr}{h:Heap}{p:Addr×Obj}(hp:p∈r9 fp h):p.1∈fp/\h.get? p.1=some p.2:=by
 obtain⟨b,hb,e⟩:=qB.mp hp;cases q:h.get? b with
 |none=>rw[q]at e;cases e
 |some o=>
  rw[q]at e;have e':(b,o)=p:=eQ e;subst e';exact⟨hb,q⟩
theorem Inv.pinned {pins:List (Addr×Obj)}{σ:St}{H:Hp}{s:aI}{fp:List Addr}(I:Inv X pins σ H s)(hf:∀b∈fp,i8 X pins H b)(ho:∀b∈fp,∃o,s.heap.get? b=some o/\∀v,o.data≠.cell v):Inv X (pins++r9 fp s.heap) σ H s:=
 I.pins_of λp hp=>(eI.mp hp).elim (λz=>I.pin p (eJ _ z)) λz=>by
  obtain⟨hb,e⟩:=Kg z;obtain⟨f0,f1,f2,_⟩:=hf p.1 hb;obtain⟨o,e',d⟩:=ho p.1 hb;rw[e]at e';cases e';exact⟨e,f0,f1,f2,d⟩
theorem Inv.unpinned {pins pl:List (Addr×Obj)}{σ:St}{H:Hp}{s:aI}(I:Inv X (pins++pl) σ H s):Inv X pins σ H s:=I.pins_of λp hp=>I.pin p (eJ _ (jD _ hp))
theorem de {iter:Expr}{body:List Stmt}{wi:TI}{g:TG}{tb:TS}{pos:Pos}(hp:PassesOwn (aX X.prog X.w) X.A X.env X.xe)(hc:X.calm=true)(hi:PI X tg iter wi)(hg:PG X tg g)(hb:PSs X body tb)
  (hs:∀x,tY iter X.env x=pure x:=by intro _;rfl):PS X (.For tg iter body [] pos) (tFor wi g tb):=by
 intro pins s σ H D I h;refine wpAny_For (thn (hi pins s σ H _ I h) λv s1 h1=>thn h1 λitv s2 h2=>?_) hs;obtain⟨it,fp,tn,J,H2,e,I2,T,st2,f2,W,⟨m0,w0⟩,turn⟩:=h2;subst e;have stat:∀{H':Hp},(∀b∈fp,H' b=none)->∀b∈fp,i8 X pins H' b:=λhn b hb=>⟨hn b hb,(f2 b hb).2⟩;refine codeAny_forLoop_any (λn s'=>∃i σ' H',Inv X pins σ' H' s'/\tn i s'.heap/\(∀b∈fp,H' b=none)/\W i n σ' H') ?_ m0 ⟨0,σ,H2,I2,st2,λb hb=>(f2 b hb).1,w0⟩;intro n s3 h_1;obtain⟨i,σ3,H3,I3,st3,fr3,w3⟩:=h_1;rcases turn i n σ3 H3 w3 with⟨stop,qn⟩ | ⟨go,N,hN,step⟩
 ·refine nC hp (thn (T.done X rfl rfl rfl hc i pins s3 σ3 H3 X.xe I3 (stat fr3) st3 stop) λr s4 h0_=>?_);obtain⟨hr,I4⟩:=h0_;subst hr;exact pU ⟨σ3,H3,I4,qn⟩
 ·refine nC hp (thn (T.item X rfl rfl rfl hc i pins s3 σ3 H3 X.xe I3 (stat fr3) st3 go) λr s4 h0_=>?_);obtain⟨u,hr,h4⟩:=h0_;subst hr;refine nC hp (thn h4 λ_ s5 h0_=>?_);obtain⟨x,H5,I5,r5,y5,st5,fr5⟩:=h0_;have I5':=I5.pinned (stat fr5) (T.obj _ _ st5);refine nC hp (thn (hg _ s5 σ3 H5 x u _ I5' r5 (step x H5 y5)) λ_ s6 h0_=>?_);obtain⟨σ6,H6,I6,q6⟩:=h0_;refine nC hp (thn (hb _ s6 σ6 H6 _ I6 q6) λf s7 q7=>?_);have again:∀{σ7:St}{H7:Hp},Inv X (pins++r9 fp s5.heap) σ7 H7 s7->N σ7 H7->∃m,m < n/\∃i σ' H',Inv X pins σ' H' s7/\tn i s7.heap/\(∀b∈fp,H' b=none)/\W i m σ' H':=λ{σ7 H7} I7 n7=>by
   obtain⟨m',hm,w7⟩:=hN σ7 H7 n7;refine⟨m',hm,i+1,σ7,H7,I7.unpinned,T.keep _ _ _ st5 λb hb o e=>(I7.pin (b,o) (eJ _ (eJ _ (jp hb e)))).1,λb hb=>?_,w7⟩;obtain⟨o,e,d⟩:=T.obj _ _ st5 b hb;exact(I7.pin (b,o) (eJ _ (eJ _ (jp hb e)))).2.1
  cases f with
  |next=>obtain⟨σ7,H7,I7,n7⟩:=q7;exact again I7 n7
  |cont=>obtain⟨σ7,H7,I7,n7⟩:=q7;exact again I7 n7
  |brk=>obtain⟨σ7,H7,I7,q7⟩:=q7;exact⟨σ7,H7,I7.unpinned,q7⟩
  |ret v=>obtain⟨x7,σ7,H7,I7,r7,q7⟩:=q7;exact⟨x7,σ7,H7,I7.unpinned,r7,q7⟩
end
theorem gq {K:aA}{a:Addr}{xs:List V}{g:TG}{tb:TS}{D:db}{σ:St}{H:Hp}(Pv:Nat->St->Hp->Prop)(h0:Pv 0 σ H)(hl:∀i σ H,i<=xs.length->Pv i σ H->SqL K H a xs)
  (hs:∀i x σ H,xs[i]?=some x->Pv i σ H->g x σ H λσ2 H2=>tb { D with nx:=Pv (i+1),ct:=Pv (i+1),bk:=D.nx } σ2 H2) (hd:∀σ H,Pv xs.length σ H->D.nx σ H) :
  ∃W:Nat->Nat->St->Hp->Prop,(∃m,W 0 m σ H)/\∀i m σ H,W i m σ H->
   ((Itl K a).stop i H/\D.nx σ H)\/((Itl K a).go i H/\∃N:St->Hp->Prop,(∀σ' H',N σ' H'->∃m',m' < m/\W (i+1) m' σ' H')/\∀x H',(Itl K a).yld i H x H'->g x σ H' λσ2 H2=>tb { D with nx:=N,ct:=N,bk:=D.nx } σ2 H2):=by
 refine⟨λi m σ H=>m=xs.length - i/\i<=xs.length/\Pv i σ H,⟨xs.length,by simp,jZ _,h0⟩,?_⟩;intro i m σ H h_1;obtain⟨rfl,hi,p⟩:=h_1;have q:=hl i σ H hi p;by_cases hlt:i < xs.length
 ·refine .inr ⟨⟨xs,xs[i],q,by simp[hlt]⟩,Pv (i+1),λσ' H' p'=>⟨xs.length - (i+1),by lia,rfl,hlt,p'⟩,λx H' y=>?_⟩;obtain⟨e,y⟩:=y;subst e;exact hs i x σ _ (y xs q) p
 ·have e:i=xs.length:=(by lia);subst e;exact .inl ⟨⟨xs,q,aO _⟩,hd σ H p⟩
theorem Ae {K:aA}{a:Addr}{xs:List V}{g:TG}{tb:TS}{D:db}{σ:St}{H:Hp}(Pv:Nat->St->Hp->Prop)(h0:Pv 0 σ H)(hl:∀i σ H,i<=xs.length->Pv i σ H->SqT K H a xs)
  (hs:∀i x σ H,xs[i]?=some x->Pv i σ H->g x σ H λσ2 H2=>tb { D with nx:=Pv (i+1),ct:=Pv (i+1),bk:=D.nx } σ2 H2) (hd:∀σ H,Pv xs.length σ H->D.nx σ H) :
  ∃W:Nat->Nat->St->Hp->Prop,(∃m,W 0 m σ H)/\∀i m σ H,W i m σ H->
   ((Itt K a).stop i H/\D.nx σ H)\/((Itt K a).go i H/\∃N:St->Hp->Prop,(∀σ' H',N σ' H'->∃m',m' < m/\W (i+1) m' σ' H')/\∀x H',(Itt K a).yld i H x H'->g x σ H' λσ2 H2=>tb { D with nx:=N,ct:=N,bk:=D.nx } σ2 H2):=by
 refine⟨λi m σ H=>m=xs.length - i/\i<=xs.length/\Pv i σ H,⟨xs.length,by simp,jZ _,h0⟩,?_⟩;intro i m σ H h_1;obtain⟨rfl,hi,p⟩:=h_1;have q:=hl i σ H hi p;by_cases hlt:i < xs.length
 ·refine .inr ⟨⟨xs,xs[i],q,by simp[hlt]⟩,Pv (i+1),λσ' H' p'=>⟨xs.length - (i+1),by lia,rfl,hlt,p'⟩,λx H' y=>?_⟩;obtain⟨e,y⟩:=y;subst e;exact hs i x σ _ (y xs q) p
 ·have e:i=xs.length:=(by lia);subst e;exact .inl ⟨⟨xs,q,aO _⟩,hd σ H p⟩
theorem kq {lo:Int}{n:Nat}{g:TG}{tb:TS}{D:db}{σ:St}{H:Hp}(Pv:Nat->St->Hp->Prop)(h0:Pv 0 σ H)
  (hs:∀i σ H,i < n->Pv i σ H->g (.int (lo+i)) σ H λσ2 H2=>tb { D with nx:=Pv (i+1),ct:=Pv (i+1),bk:=D.nx } σ2 H2) (hd:∀σ H,Pv n σ H->D.nx σ H) :
  ∃W:Nat->Nat->St->Hp->Prop,(∃m,W 0 m σ H)/\∀i m σ H,W i m σ H->
   ((Itr lo n).stop i H/\D.nx σ H)\/((Itr lo n).go i H/\∃N:St->Hp->Prop,(∀σ' H',N σ' H'->∃m',m' < m/\W (i+1) m' σ' H')/\∀x H',(Itr lo n).yld i H x H'->g x σ H' λσ2 H2=>tb { D with nx:=N,ct:=N,bk:=D.nx } σ2 H2):=by
 refine⟨λi m σ H=>m=n - i/\i<=n/\Pv i σ H,⟨n,by simp,jZ _,h0⟩,?_⟩;intro i m σ H h_1;obtain⟨rfl,hi,p⟩:=h_1;by_cases hlt:i < n
 ·refine .inr ⟨hlt,Pv (i+1),λσ' H' p'=>⟨n - (i+1),by lia,rfl,hlt,p'⟩,λx H' y=>?_⟩;obtain⟨e,y⟩:=y;subst e y;exact hs i σ _ hlt p
 ·have e:i=n:=(by lia);subst e;exact .inl ⟨aO _,hd σ H p⟩
end L2
namespace L2
open PySem PySem.Spec PyProof.Rows
abbrev R2:=V->V->Hp->VK->Prop
def OpR (X:Cx)(f:aB->aB->Sem aB)(r:R2):Prop:=
 ∀(pins:List (Addr×Obj))(s:aI) (σ:St) (H:Hp) (x y:V) (v u:aB) (Q:VK),Inv X pins σ H s->RelV x v->RelV y u->r x y H Q->
  aM (aX X.prog X.w) X.A (f v u) (EP X pins σ Q) X.xe s
def UnR (X:Cx)(f:aB->Sem aB)(r:V->Hp->VK->Prop):Prop:=
 ∀(pins:List (Addr×Obj))(s:aI) (σ:St) (H:Hp) (x:V) (v:aB) (Q:VK),Inv X pins σ H s->RelV x v->r x H Q->
  aM (aX X.prog X.w) X.A (f v) (EP X pins σ Q) X.xe s
def i9 (X:Cx)(f:aB)(r:List V->Hp->VK->Prop):Prop:=
 ∀(pins:List (Addr×Obj))(s:aI) (σ:St) (H:Hp) (xs:List V) (us:List aB) (Q:VK),Inv X pins σ H s->Vals xs us->r xs H Q->
  aM (aX X.prog X.w) X.A (call f us) (EP X pins σ Q) X.xe s
def TruR (X:Cx)(r:V->Hp->(Bool->Hp->Prop)->Prop):Prop:=
 ∀(pins:List (Addr×Obj))(s:aI) (σ:St) (H:Hp) (x:V) (v:aB) (Q:Bool->Hp->Prop),Inv X pins σ H s->RelV x v->r x H Q->
  aM (aX X.prog X.w) X.A (truthy v) (TP X pins σ Q) X.xe s
def tOp (r:R2)(ta tb:TE):TE:=λσ H Q=>ta σ H λx H1=>tb σ H1 λy H2=>r x y H2 Q
def tUn (r:V->Hp->VK->Prop)(ta:TE):TE:=λσ H Q=>ta σ H λx H1=>r x H1 Q
def rI (C:Int->Int->Prop)(g:Int->Int->V):R2:=λx y H Q=>∃i j,x=.int i/\y=.int j/\C i j/\Q (g i j) H
def rI0 (g:Int->Int->V):R2:=λx y H Q=>∃i j,x=.int i/\y=.int j/\Q (g i j) H
def rU (g:Int->V):V->Hp->VK->Prop:=λx H Q=>∃i,x=.int i/\Q (g i) H
section
variable {X:Cx}{a b c:Expr}{ta tb tc:TE}{pos:Pos}
theorem Nh (ha:PE X a ta)(hb:PE X b tb){pins:List (Addr×Obj)}{s:aI}{σ:St}{H:Hp}{R:V->V->Hp->Prop}(I:Inv X pins σ H s)
  (h:ta σ H λx H1=>tb σ H1 λy H2=>R x y H2) {Q:aB->aI->Prop}{f:aB->aB->Sem aB}
  (hf:∀v u s2 x y H2,Inv X pins σ H2 s2->RelV x v->RelV y u->R x y H2->aM (aX X.prog X.w) X.A (f v u) Q X.xe s2) :
  aM (aX X.prog X.w) X.A (eval a X.env) (λv s₁=>aM (aX X.prog X.w) X.A (eval b X.env) (λu s₂=>aM (aX X.prog X.w) X.A (f v u) Q X.xe s₂) X.xe s₁) X.xe s:=by
 refine thn (ha pins s σ H _ I h) λv s1 h0_=>?_;obtain⟨x,H1,I1,r1,q1⟩:=h0_;refine thn (hb pins s1 σ H1 _ I1 q1) λu s2 h0_=>?_;obtain⟨y,H2,I2,r2,q2⟩:=h0_;exact hf v u s2 x y H2 I2 r1 r2 q2
theorem bc {op:Operator}{r:R2}(ho:OpR X (jS op) r)(ha:PE X a ta)(hb:PE X b tb):PE X (.BinOp a op b pos) (tOp r ta tb):=by
 intro pins s σ H Q I h;exact wpAny_BinOp (Nh ha hb I h λv u s2 x y H2 I2 rx ry q=>ho pins s2 σ H2 x y v u Q I2 rx ry q)
theorem j7 {op:UnaryOp}{r:V->Hp->VK->Prop}(ho:UnR X (unaryOp op) r)(ha:PE X a ta):PE X (.UnaryOp op a pos) (tUn r ta):=by
 intro pins s σ H Q I h;exact UnaryOp_ (thn (ha pins s σ H _ I h) λv s1 h0_=>by obtain⟨x,H1,I1,r1,q1⟩:=h0_;exact ho pins s1 σ H1 x v Q I1 r1 q1)
theorem opI {f:aB->aB->Sem aB}{C:Int->Int->Prop}{g:Int->Int->Int}
  (rule:∀(i j:Int)(t u:Tok) (s:aI) (Q:aB->aI->Prop) (E:aB->aI->Prop),C i j->Q (.int (g i j) s.toks) { s with toks:=s.toks+1 }->aM (aX X.prog X.w) X.A (f (.int i t) (.int j u)) Q E s) :
  OpR X f (rI C λi j=>.int (g i j)):=by
 intro pins s σ H x y v u Q I rx ry h;obtain⟨i,j,rfl,rfl,hc,q⟩:=h;obtain⟨t,rfl⟩:=rx;obtain⟨t',rfl⟩:=ry;exact rule i j t t' s _ _ hc ⟨.int (g i j),H,I.tok _,⟨_,rfl⟩,q⟩
theorem Af {f:aB->aB->Sem aB}{g:Int->Int->Int}
  (rule:∀(i j:Int)(t u:Tok) (s:aI) (Q:aB->aI->Prop) (E:aB->aI->Prop),Q (.int (g i j) s.toks) { s with toks:=s.toks+1 }->aM (aX X.prog X.w) X.A (f (.int i t) (.int j u)) Q E s) :
  OpR X f (rI0 λi j=>.int (g i j)):=by
 intro pins s σ H x y v u Q I rx ry h;obtain⟨i,j,rfl,rfl,q⟩:=h;obtain⟨t,rfl⟩:=rx;obtain⟨t',rfl⟩:=ry;exact rule i j t t' s _ _ ⟨.int (g i j),H,I.tok _,⟨_,rfl⟩,q⟩
theorem Ni {f:aB->aB->Sem aB}{g:Int->Int->Bool}
  (rule:∀(i j:Int)(t u:Tok) (s:aI) (Q:aB->aI->Prop) (E:aB->aI->Prop),Q (.bool (g i j)) s->aM (aX X.prog X.w) X.A (f (.int i t) (.int j u)) Q E s) :
  OpR X f (rI0 λi j=>.bl (g i j)):=by
 intro pins s σ H x y v u Q I rx ry h;obtain⟨i,j,rfl,rfl,q⟩:=h;obtain⟨t,rfl⟩:=rx;obtain⟨t',rfl⟩:=ry;exact rule i j t t' s _ _ ⟨.bl (g i j),H,I,rfl,q⟩
def CDiv (i j:Int):Prop:=0 < j/\j < 1073741824
def Uf (i j:Int):Prop:=0<=j/\j<=1000000/\i.natAbs < 2 ^ 64
def CMul (i j:Int):Prop:=(-(2 ^ 64) < i/\i < 2 ^ 64)\/(-(2 ^ 64) < j/\j < 2 ^ 64)
theorem CMul.ok {i j:Int}(h:CMul i j):IntMulOk i j:=by
 rcases h with⟨h1,h2⟩ | ⟨h1,h2⟩
 ·exact .of_left (intBits_le_64 h1 h2)
 ·exact .of_right (intBits_le_64 h1 h2)
theorem Hg (k:Nat):(0:Int)<=2 ^ k:=by
 rw[two_pow_cast];exact Int.natCast_nonneg _
theorem iy:OpR X (jS .Add) (rI0 λi j=>.int (i+j)):=Af λ_ _ _ _ _ _ _ q=>add_int q
theorem Cz:OpR X (jS .Sub) (rI0 λi j=>.int (i - j)):=Af λ_ _ _ _ _ _ _ q=>sub_int q
theorem sh:OpR X (jS .Mult) (rI CMul λi j=>.int (i * j)):=opI λ_ _ _ _ _ _ _ hc q=>mul_int q hc.ok
theorem si:OpR X (jS .FloorDiv) (rI CDiv λi j=>.int (i / j)):=opI λi j _ _ _ _ _ hc q=>by
 have h1:(0:Int) < j:=hc.1;have h2:j < 1073741824:=hc.2;exact floordiv_int (by lia) (by rw[Int.fdiv_eq_ediv_of_nonneg i (by lia)];exact q) (.inl (PyProof.noPylong_small (by lia)))
theorem iz:OpR X (jS .Mod) (rI (λ_ j=>0 < j) λi j=>.int (i % j)):=opI λi j _ _ _ _ _ hc q=>by
 have h1:(0:Int) < j:=hc;exact mod_int' (by lia) (by rw[Int.fmod_eq_emod_of_nonneg i (by lia)];exact q)
theorem Ug:OpR X (jS .Pow) (rI Uf λi j=>.int (i ^ j.toNat)):=opI λ_ _ _ _ _ _ _ hc q=>pow_int_small hc.1 hc.2.1 hc.2.2 q
theorem va:OpR X (jS .LShift) (rI Uf λi j=>.int (i * 2 ^ j.toNat)):=opI λ_ _ _ _ _ _ _ hc q=>lshift_int_small hc.1 hc.2.1 hc.2.2 q
theorem Kh:OpR X (jS .RShift) (rI (λ_ j=>0<=j) λi j=>.int (i / 2 ^ j.toNat)):=opI λi j _ _ _ _ _ hc q=>
 rshift_int hc (by rw[Int.fdiv_eq_ediv_of_nonneg i (Hg _)];exact q)
theorem yc:OpR X (jS .BitAnd) (rI0 λi j=>.int (lY i j)):=Af λ_ _ _ _ _ _ _ q=>and_int q
theorem Hh:OpR X (jS .BitOr) (rI0 λi j=>.int (nI i j)):=Af λ_ _ _ _ _ _ _ q=>or_int q
theorem Uh:OpR X (wM .BitOr) (rI0 λi j=>.int (nI i j)):=Af λ_ _ _ _ _ _ _ q=>ior_int q
theorem Q8:OpR X (wM .BitXor) (rI0 λi j=>.int (sW i j)):=Af λ_ _ _ _ _ _ _ q=>ixor_int q
theorem unI {f:aB->Sem aB}{g:Int->Int}
  (rule:∀(i:Int)(t:Tok) (s:aI) (Q:aB->aI->Prop) (E:aB->aI->Prop),Q (.int (g i) s.toks) { s with toks:=s.toks+1 }->aM (aX X.prog X.w) X.A (f (.int i t)) Q E s) :
  UnR X f (rU λi=>.int (g i)):=by
 intro pins s σ H x v Q I rx h;obtain⟨i,rfl,q⟩:=h;obtain⟨t,rfl⟩:=rx;exact rule i t s _ _ ⟨.int (g i),H,I.tok _,⟨_,rfl⟩,q⟩
theorem je:UnR X (unaryOp .USub) (rU λi=>.int (-i)):=unI λ_ _ _ _ _ q=>neg_int q
end
def Ui:V->V->Bool
 | .non,.non=>true | .non,.int _=>true | .int _,.non=>true | .non,.bl _=>true | .bl _,.non=>true | .non,.str _=>true | .str _,.non=>true
 | .int _,.int _=>true | .bl _,.bl _=>true | .str _,.str _=>true | .byt _,.byt _=>true
 | .int _,.str _=>true | .str _,.int _=>true | .bl _,.str _=>true | .str _,.bl _=>true
 |_,_=>false
def rEq:R2:=λx y H Q=>Ui x y=true/\Q (.bl (decide (x=y))) H
def rNe:R2:=λx y H Q=>Ui x y=true/\Q (.bl (!decide (x=y))) H
theorem Fm {i j:Int}:decide (V.int i=V.int j)=(i == j):=by
 rw[jM];simp
theorem Ki {i j:Bool}:decide (V.bl i=V.bl j)=(i == j):=by
 rw[jM];simp
theorem Fn {i j:Str}:decide (V.str i=V.str j)=(i == j):=by
 rw[jM];simp
theorem Fo {i j:Array UInt8}:decide (V.byt i=V.byt j)=(i.toList == j.toList):=by
 rw[jM];cases i;cases j;simp
section
variable {X:Cx}{a b c:Expr}{ta tb tc:TE}{pos:Pos}
theorem cp {pins:List (Addr×Obj)}{σ:St}{H:Hp}{s:aI}{Q:VK}{k k':Bool}(I:Inv X pins σ H s)(q:Q (.bl k) H)(e:k=k'):EP X pins σ Q (.bool k') s:=by
 subst e;exact⟨.bl k,H,I,rfl,q⟩
theorem df:OpR X (kZ .Eq) rEq:=by
 intro pins s σ H x y v u Q I rx ry h;obtain⟨hs,q⟩:=h;cases x with
 |non=>
  cases rx;cases y with
  |non=>cases ry;exact PySem.EqNone.eq_none_none (cp I q (by simp))
  |bl j=>cases ry;exact PySem.EqNone.eq_none_bool (cp I q (by simp))
  |int j=>obtain⟨t',rfl⟩:=ry;exact PySem.EqNone.eq_none_int (cp I q (by simp))
  |str j=>obtain⟨t',rfl⟩:=ry;exact PySem.EqNone.eq_none_str (cp I q (by simp))
  |_=>exact absurd (show false=true from hs) cU
 |bl i=>
  cases rx;cases y with
  |non=>cases ry;exact PySem.EqNone.eq_bool_none (cp I q (by simp))
  |bl j=>cases ry;exact eq_bool (cp I q Ki)
  |str j=>obtain⟨t',rfl⟩:=ry;exact PySem.EqMixed.eq_bool_str (cp I q (by simp))
  |_=>exact absurd (show false=true from hs) cU
 |int i=>
  obtain⟨t,rfl⟩:=rx;cases y with
  |non=>cases ry;exact PySem.EqNone.eq_int_none (cp I q (by simp))
  |int j=>obtain⟨t',rfl⟩:=ry;exact eq_int (cp I q Fm)
  |str j=>obtain⟨t',rfl⟩:=ry;exact PySem.EqMixed.eq_int_str (cp I q (by simp))
  |_=>exact absurd (show false=true from hs) cU
 |str i=>
  obtain⟨t,rfl⟩:=rx;cases y with
  |non=>cases ry;exact PySem.EqNone.eq_str_none (cp I q (by simp))
  |bl j=>cases ry;exact PySem.EqMixed.eq_str_bool (cp I q (by simp))
  |int j=>obtain⟨t',rfl⟩:=ry;exact PySem.EqMixed.eq_str_int (cp I q (by simp))
  |str j=>obtain⟨t',rfl⟩:=ry;exact eq_str (cp I q Fn)
  |_=>exact absurd (show false=true from hs) cU
 |byt i=>
  obtain⟨t,rfl⟩:=rx;cases y with
  |byt j=>obtain⟨t',rfl⟩:=ry;exact PySem.W.eq_bytes (cp I q Fo)
  |_=>exact absurd (show false=true from hs) cU
 |_=>cases y<;>exact absurd (show false=true from hs) cU
theorem We:OpR X (kZ .NotEq) rNe:=by
 intro pins s σ H x y v u Q I rx ry h;obtain⟨hs,q⟩:=h;cases x with
 |non=>
  cases rx;cases y with
  |non=>cases ry;exact PySem.EqNone.ne_none_none (cp I q (by simp))
  |bl j=>cases ry;exact PySem.EqNone.ne_none_bool (cp I q (by simp))
  |int j=>obtain⟨t',rfl⟩:=ry;exact PySem.EqNone.ne_none_int (cp I q (by simp))
  |str j=>obtain⟨t',rfl⟩:=ry;exact PySem.EqNone.ne_none_str (cp I q (by simp))
  |_=>exact absurd (show false=true from hs) cU
 |bl i=>
  cases rx;cases y with
  |non=>cases ry;exact PySem.EqNone.ne_bool_none (cp I q (by simp))
  |bl j=>cases ry;exact ne_bool (cp I q (congrArg not Ki))
  |str j=>obtain⟨t',rfl⟩:=ry;exact PySem.EqMixed.ne_bool_str (cp I q (by simp))
  |_=>exact absurd (show false=true from hs) cU
 |int i=>
  obtain⟨t,rfl⟩:=rx;cases y with
  |non=>cases ry;exact PySem.EqNone.ne_int_none (cp I q (by simp))
  |int j=>obtain⟨t',rfl⟩:=ry;exact ne_int (cp I q (congrArg not Fm))
  |str j=>obtain⟨t',rfl⟩:=ry;exact PySem.EqMixed.ne_int_str (cp I q (by simp))
  |_=>exact absurd (show false=true from hs) cU
 |str i=>
  obtain⟨t,rfl⟩:=rx;cases y with
  |non=>cases ry;exact PySem.EqNone.ne_str_none (cp I q (by simp))
  |bl j=>cases ry;exact PySem.EqMixed.ne_str_bool (cp I q (by simp))
  |int j=>obtain⟨t',rfl⟩:=ry;exact PySem.EqMixed.ne_str_int (cp I q (by simp))
  |str j=>obtain⟨t',rfl⟩:=ry;exact ne_str (cp I q (congrArg not Fn))
  |_=>exact absurd (show false=true from hs) cU
 |byt i=>
  obtain⟨t,rfl⟩:=rx;cases y with
  |byt j=>obtain⟨t',rfl⟩:=ry;exact PySem.W.ne_bytes (cp I q (congrArg not Fo))
  |_=>exact absurd (show false=true from hs) cU
 |_=>cases y<;>exact absurd (show false=true from hs) cU
theorem yd:OpR X (kZ .Lt) (rI0 λi j=>.bl (decide (i < j))):=Ni λ_ _ _ _ _ _ _ q=>lt_int q
theorem ye:OpR X (kZ .Gt) (rI0 λi j=>.bl (decide (j < i))):=Ni λ_ _ _ _ _ _ _ q=>gt_int q
theorem Wf:OpR X (kZ .GtE) (rI0 λi j=>.bl (decide (j<=i))):=Ni λ_ _ _ _ _ _ _ q=>ge_int q
theorem Kj:OpR X (kZ .Is) (λx y H Q=>y=.non/\Q (.bl (decide (x=.non))) H):=by
 intro pins s σ H x y v u Q I rx ry h;obtain⟨rfl,q⟩:=h;cases ry;refine is_none_gen (cp I q ?_);cases x<;>first
  | (cases rx;rfl)
  | (obtain⟨t,rfl⟩:=rx;rfl)
theorem OpR.or {f:aB->aB->Sem aB}{r r':R2}(h:OpR X f r)(h':OpR X f r'):OpR X f (λx y H Q=>r x y H Q\/r' x y H Q):=by
 intro pins s σ H x y v u Q I rx ry q;rcases q with q | q
 ·exact h pins s σ H x y v u Q I rx ry q
 ·exact h' pins s σ H x y v u Q I rx ry q
theorem bn (b:Expr){op:CmpOp}(h:op≠.In:=by decide)(h2:op≠.NotIn:=by decide):rB op b=false:=by
 have e1:(op == CmpOp.In)=false:=by cases op<;>first | rfl | exact absurd rfl h
 have e2:(op == CmpOp.NotIn)=false:=by cases op<;>first | rfl | exact absurd rfl h2
 cases b<;>simp[rB,e1,e2]
theorem fo {op:CmpOp}{r:R2}(ho:OpR X (kZ op) r)(ha:PE X a ta)(hb:PE X b tb)(hm:rB op b=false):PE X (.Compare a [op] [b] pos) (tOp r ta tb):=by
 intro pins s σ H Q I h;exact wpAny_Compare1 (Nh ha hb I h λv u s2 x y H2 I2 rx ry q=>ho pins s2 σ H2 x y v u Q I2 rx ry q) hm
def Wh (t:TE):TT:=λσ H Q=>t σ H λx H'=>∃k,x=.bl k/\Q k H'
theorem bi {op:CmpOp}{r:R2}(ho:OpR X (kZ op) r)(ha:PE X a ta)(hb:PE X b tb)(hm:rB op b=false):PT X (.Compare a [op] [b] pos) (Wh (tOp r ta tb)):=by
 intro pins s σ H Q I h;refine wpAny_isTrue_Compare1 (thn (ha pins s σ H _ I h) λv s1 ⟨x,H1,I1,r1,q1⟩=>thn (hb pins s1 σ H1 _ I1 q1) λu s2 ⟨y,H2,I2,r2,q2⟩=>
   thn (ho pins s2 σ H2 x y v u _ I2 r1 r2 q2) λc s3 ⟨z,H3,I3,r3,k,e,q3⟩=>?_) hm
 subst e;cases r3;exact jJ ⟨H3,I3,q3⟩
def Nj (K:aA)(x:V)(H:Hp)(k:Bool):Prop:=
 match x with
 | .non=>k=false
 | .bl b=>k=b
 | .int i=>k=(i != 0)
 | .str y=>y.length<=sizeLine/\k=((y.length:Int) != 0)
 | .byt y=>y.size<=sizeLine/\k=((y.size:Int) != 0)
 | .ref p=>(∃xs,SqL K H p xs/\k=!xs.isEmpty)\/(∃xs,SqT K H p xs/\k=!xs.isEmpty)\/∃kvs,H p=some (.dK kvs)/\k=!kvs.isEmpty
 |_=>False
theorem Hi {κ:Type}{kvs:List (κ×V)}{vs:List (κ×aB)}(r:KV kvs vs):(!vs.isEmpty)=!kvs.isEmpty:=by
 cases r<;>rfl
theorem yf {xs:List V}{its:List aB}(r:Vals xs its):(!its.toArray.isEmpty)=!xs.isEmpty:=by
 cases r<;>simp
theorem qc:(sizeLine:Nat) < 2 ^ 63:=by rw[lF];decide
theorem Uj:TruR X (λx H Q=>∃k,Nj X.K x H k/\Q k H):=by
 intro pins s σ H x v Q I rx h;obtain⟨k,e,q⟩:=h;have hl:=qc;have hs:sizeLine=16777216:=lF;cases x with
 |non=>
  cases rx;have e':k=false:=e;subst e';exact truthy_none ⟨H,I,q⟩
 |bl b=>
  cases rx;have e':k=b:=e;subst e';exact jJ ⟨H,I,q⟩
 |int i=>
  obtain⟨t,rfl⟩:=rx;have e':k=(i != 0):=e;subst e';exact PySem.P.truthy_int ⟨H,I,q⟩
 |str y=>
  obtain⟨t,rfl⟩:=rx;obtain⟨hy,e'⟩:y.length<=sizeLine/\k=((y.length:Int) != 0):=e;subst e';exact PySem.P.truthy_str (by lia) ⟨H,I.tok _,q⟩
 |byt y=>
  obtain⟨t,rfl⟩:=rx;obtain⟨hy,e'⟩:y.size<=sizeLine/\k=((y.size:Int) != 0):=e;subst e';exact PySem.W.truthy_bytes (by lia) ⟨H,I.tok _,q⟩
 |ref p=>
  cases rx;have e':(∃xs,SqL X.K H p xs/\k=!xs.isEmpty)\/(∃xs,SqT X.K H p xs/\k=!xs.isEmpty)\/∃kvs,H p=some (.dK kvs)/\k=!kvs.isEmpty:=e;rcases e' with⟨xs,hx,e'⟩ | ⟨xs,hx,e'⟩ | ⟨kvs,hx,e'⟩
  ·subst e';obtain⟨its,r,pl,hz⟩:=I.list hx;have hlen:=r.length;exact wpAny_truthy_list pl.isList (by simp only[aY];lia) ⟨H,I.tok _,by rw[yf r];exact q⟩
  ·subst e';obtain⟨its,r,pl,hz⟩:=I.tuple hx;have hlen:=r.length;exact truthy_tuple pl (by simp only[aY];lia) ⟨H,I.tok _,by rw[yf r];exact q⟩
  ·subst e';obtain⟨hz,hS,vs,r,m⟩:kvs.length<=sizeLine/\(p == kK)=false/\∃vs,KV kvs vs/\s.heap.DictOf (gh X.prog X.w) p vs:=I.hok p _ hx;have hlen:kvs.length=vs.length:=Paired.length r;exact wpAny_truthy_dict hS m (by lia) ⟨H,I.tok _,by rw[Hi r];exact q⟩
 |_=>exact(show False from e).elim
theorem j9 (ha:PE X a ta)(he:∀whole,vR a X.env whole=(do let v <-whole;sV a.pos;oU [v] (truthy v))) :
  PT X a (λσ H Q=>ta σ H λx H'=>∃k,Nj X.K x H' k/\Q k H'):=by
 intro pins s σ H Q I h;exact isTrue_plain (thn (ha pins s σ H _ I h) λv s1 h0_=>by obtain⟨x,H1,I1,r1,q1⟩:=h0_;exact Uj pins s1 σ H1 x v Q I1 r1 q1) (he _)
theorem ua:OpR X (jS .Add) (λx y H Q=>∃i j,x=.str i/\y=.str j/\i.length+j.length<=sizeLine/\Q (.str (i++j)) H):=by
 intro pins s σ H x y v u Q I rx ry h;obtain⟨i,j,rfl,rfl,hz,q⟩:=h;obtain⟨t,rfl⟩:=rx;obtain⟨t',rfl⟩:=ry;exact add_str (λt' tk=>⟨.str (i++j),H,I.tok _,⟨_,rfl⟩,q⟩) hz
theorem jg {x:V}{us:List aB}(r:Vals [x] us):∃u,us=[u]/\RelV x u:=by
 cases r with
 |cons r1 r2=>cases r2;exact⟨_,rfl,r1⟩
theorem ub {x y:V}{us:List aB}(r:Vals [x,y] us):∃u w',us=[u,w']/\RelV x u/\RelV y w':=by
 cases r with
 |cons r1 r2=>
  cases r2 with
  |cons r3 r4=>cases r4;exact⟨_,_,rfl,r1,r3⟩
theorem Nk:i9 X (.builtin "abs") (λxs H Q=>∃i,xs=[.int i]/\Q (.int (if i < 0 then -i else i)) H):=by
 intro pins s σ H xs us Q I r h;obtain⟨i,rfl,q⟩:=h;obtain⟨u,rfl,t,rfl⟩:=jg r;exact call_abs_int λu tk=>⟨.int (if i < 0 then -i else i),H,I.tok _,⟨_,rfl⟩,q⟩
theorem Bl (hc:X.calm=true):i9 X (.builtin "max") (λxs H Q=>∃i j,xs=[.int i,.int j]/\Q (.int (if j > i then j else i)) H):=by
 intro pins s σ H xs us Q I r h;obtain⟨i,j,rfl,q⟩:=h;obtain⟨u,w',rfl,⟨t,rfl⟩,⟨t',rfl⟩⟩:=ub r;refine max_two_ints (I.ok.hd hc) λh' tk k=>⟨_,H,I.kept k,?_,q⟩;by_cases hj:j > i
 ·rw[if_pos hj,if_pos hj];exact⟨_,rfl⟩
 ·rw[if_neg hj,if_neg hj];exact⟨_,rfl⟩
theorem Kk (hc:X.calm=true):i9 X (.builtin "min") (λxs H Q=>∃i j,xs=[.int i,.int j]/\Q (.int (if j < i then j else i)) H):=by
 intro pins s σ H xs us Q I r h;obtain⟨i,j,rfl,q⟩:=h;obtain⟨u,w',rfl,⟨t,rfl⟩,⟨t',rfl⟩⟩:=ub r;refine min_two_ints (I.ok.hd hc) λh' tk k=>⟨_,H,I.kept k,?_,q⟩;by_cases hj:j < i
 ·rw[if_pos hj,if_pos hj];exact⟨_,rfl⟩
 ·rw[if_neg hj,if_neg hj];exact⟨_,rfl⟩
theorem Kl:i9 X (.type "int") (λxs H Q=>(∃i,xs=[.int i]/\Q (.int i) H)\/∃k,xs=[.bl k]/\Q (.int (if k then 1 else 0)) H):=by
 intro pins s σ H xs us Q I r h;rcases h with⟨i,rfl,q⟩ | ⟨k,rfl,q⟩
 ·obtain⟨u,rfl,t,rfl⟩:=jg r;exact call_int_int ⟨.int i,H,I,⟨_,rfl⟩,q⟩
 ·obtain⟨u,rfl,r1⟩:=jg r;cases r1;exact call_int_bool ⟨.int (if k then 1 else 0),H,I.tok _,⟨_,rfl⟩,q⟩
end
end L2
namespace L2
open PySem PySem.Spec PyProof.Rows
structure ObjM (h:Heap)(x dx C:Addr)(mA:Str->Option aB):Prop where
 obj:h.get? x=some (lP C dx)
 ns:h.Ns1 dx mA
 ne:dx≠x
theorem Km {h:Heap}{dx:Addr}{mA:Str->Option aB}(n:h.Ns1 dx mA):∃od,h.get? dx=some od/\∀name,sX name od=some (mA name):=by
 obtain⟨o,es,ep,ho,hd,hk,_,hm⟩:=n;refine⟨o,ho,λname=>?_⟩;have e:=hm name;unfold nsFind findBy at e;rw[<-Array.find?_toList]at e;unfold sX;rw[hd];dsimp only
 split
 ·rename_i y q
  rw[q]at e;exact congrArg some e
 ·rename_i q
  rw[q]at e;have a:es.toList.any (·.refKey)=false:=by
   rw[List.any_eq_false];intro y hy;obtain⟨z,t,hkey⟩:=hk y (Array.mem_toList_iff.mp hy);simp[DictEntry.refKey,hkey]
  have a':¬es.toList.any (·.refKey)=true:=(by rw[a];exact cU);rw[if_neg a'];exact congrArg some e
theorem ObjM.look {h:Heap}{x dx C:Addr}{mA:Str->Option aB}(I:ObjM h x dx C mA):∃od,PySem.W.InstAt h x (lP C dx) C (some od)/\∀name,sX name od=some (mA name):=
 let ⟨od,ho,hl⟩:=Km I.ns
 ⟨od,⟨I.obj,rfl,rfl,ho⟩,hl⟩
section
variable {prog:aS}{w:bZ}{A:cW}{E:aB->aI->Prop}{s:aI}{K:aA}{x dx C f:Addr}{mA:Str->Option aB}{name:Str}{v:aB}
theorem Q9 {expr:Bool}{Q:aB->aI->Prop}(X:K.In s.heap)(I:ObjM s.heap x dx C mA)(hg:pA K C name=true)(hh:qS K C=true)
  (ha:aW K (.ref C) name=some none) (hv:mA name=some v) (hv':PySem.W.handedIn v=true) (h:Q v { s with toks:=s.toks+1 }) :
  aM (aX prog w) A (xE (.ref x) name expr) Q E s:=by
 obtain⟨od,J,hl⟩:=I.look;exact PySem.W.get_value X J (sS hg).1 (PySem.W.findObj_own hh ha rfl (by rw[hl,hv])) hv' h
theorem Nl {pl:Sem Bool}{Q:aB×List aB->aI->Prop}(X:K.In s.heap)(I:ObjM s.heap x dx C mA)(hg:pA K C name=true)
  (hf:aW K (.ref C) name=some (some (.ref f))) (ht:lG K (.ref f)=true) (hv:mA name=none) (h:Q (.ref f,[.ref x]) s) :
  aM (aX prog w) A (tQ (.ref x) name pl) Q E s:=by
 obtain⟨od,J,hl⟩:=I.look;exact PySem.W.method_fn X J (sS hg).1 (sS hg).2 hf (beq_iff_eq.mp ht) (by show(sX name od).map (·.isSome)=some false;rw[hl,hv];rfl) h
theorem Ra {ns:List Str}{Q:Unit->aI->Prop}(X:K.In s.heap)(I:ObjM s.heap x dx C mA)
  (hs:aW K (.ref C) "__setattr__"=some (some (.builtin "object.__setattr__"))) (hp:tZ K C=true) (ht:vD K C name=some none) (hh:qS K C=true)
  (hw:wK mA ns) (hsz:ns.length<=sizeLine)
  (h:∀h',ObjM h' x dx C (λy=>if y=name then some v else mA y)->gI dx s.heap h'->Q () { s with heap:=h',toks:=s.toks+2 }) :
  aM (aX prog w) A (yD (.ref x) name v) Q E s:=by
 obtain⟨od,J,hl⟩:=I.look;refine PySem.W.set_plain X J hs (PySem.W.osa_open (s:={ s with toks:=s.toks+1 }) (r:=none) X J hp ht λb=>?_);obtain⟨cd,hc,hd'⟩:=PySem.W.any_some hh;have hx:s.heap.get? x=some ⟨.ref C,some dx,.plain,#[]⟩:=I.obj;refine aC (wpAny_pure (aC (aC (wpAny_loadPart hx (aC (PySem.W.Looks.here (s:={ s with toks:=s.toks+1 }) (PySem.W.looks_clsIn X hc) ?_))))));rw[hd'];refine wpAny_pure (a:=some dx) (aC (wpAny_pure (aC ?_)));refine wN (s:={ s with toks:=s.toks+1 }) I.ns λh' hn2 hs2=>?_;obtain⟨oD,esD,epD,hoD,hdD,hcD⟩:=hn2.count (PySem.Within.cons name v hw);refine aC (uM hoD (by rw[hdD];exact uN (bK hcD (by rw[dX];lia))) ?_);exact wpAny_pure (h _ ⟨(hs2.2 _ (gH I.ne)).trans I.obj,hn2,I.ne⟩ hs2)
theorem Nm {R:wO->aI->Prop}{vs:List aB}{kw:List (Str×aB)}(X:K.In s.heap)(hm:vE K C=true)
  (hi:aW K (.ref C) "__init__"=some (some (.ref f))) (hf:PySem.W.typeIn K (.ref f)=some (.type "function"))
  (h:nQ (aX prog w) (A.under (.builtin "type.__call__" ⟨.ref C::vs,kw⟩)) (.call (.ref f) ⟨.ref (s.heap.objs.size+1)::vs,kw⟩) (PySem.W.InitBack (s.heap.objs.size+1) R) { s with heap:=(s.heap.push jK).push (lP C s.heap.objs.size) }) :
  nQ (aX prog w) A (.call (.ref C) ⟨vs,kw⟩) R s:=by
 obtain⟨hh,g,d,t,os⟩:=s;exact PySem.W.make_core (PySem.W.makes_of X hm) (iA X hi) (λself=>PySem.W.bind_fn X self hf) (.inl rfl) h
end
def iq (f:Str)(v:V):List (Str×V)->List (Str×V)
 | []=>[(f,v)]
 | (g,x)::r=>if g=f then (g,v)::r else (g,x)::iq f v r
theorem rg (f g:Str)(v:V):∀fs:List (Str×V),(iq f v fs).lookup g=if g=f then some v else fs.lookup g
 | []=>by
  show lH g [(f,v)]=_;by_cases h:g=f
  ·have hb:(g == f)=true:=beq_iff_eq.mpr h;simp only[lH,hb,if_pos h]
  ·have hb:(g == f)=false:=beq_eq_false_iff_ne.mpr h;simp only[lH,hb,if_neg h]
 | (k,x)::r=>by
  have ih:=rg f g v r;rw[show iq f v ((k,x)::r)=(if k=f then (k,v)::r else (k,x)::iq f v r)from rfl]
  by_cases hk:k=f
  ·rw[if_pos hk];by_cases h:g=k
   ·have hb:(g == k)=true:=beq_iff_eq.mpr h;simp only[lH,hb,if_pos (h.trans hk)]
   ·have hb:(g == k)=false:=beq_eq_false_iff_ne.mpr h;simp only[lH,hb,if_neg (λe:g=f=>h (e.trans hk.symm))]
  ·rw[if_neg hk];by_cases h:g=k
   ·have hb:(g == k)=true:=beq_iff_eq.mpr h;simp only[lH,hb,if_neg (λe:g=f=>hk (h.symm.trans e))]
   ·have hb:(g == k)=false:=beq_eq_false_iff_ne.mpr h;simp only[lH,hb];exact ih
theorem vb (f:Str)(v:V):∀fs:List (Str×V),f∈(iq f v fs).map (·.1)/\∀g,g∈fs.map (·.1)->g∈(iq f v fs).map (·.1)
 | []=>⟨by simp[iq],λg h=>by simp at h⟩
 | (k,x)::r=>by
  obtain⟨i1,i2⟩:=vb f v r;rw[show iq f v ((k,x)::r)=(if k=f then (k,v)::r else (k,x)::iq f v r)from rfl]
  by_cases hk:k=f
  ·rw[if_pos hk];subst hk;exact⟨by simp,λg h=>by simpa using h⟩
  ·rw[if_neg hk];refine⟨?_,λg h=>?_⟩
   ·rw[fZ];exact cY _ i1
   ·rw[fZ]at h ⊢;rcases cD.mp h with e | e
    ·exact cD.mpr (.inl e)
    ·exact cY _ (i2 g e)
theorem wv (f:Str)(v:V):∀fs:List (Str×V),(iq f v fs).length<=fs.length+1
 | []=>by simp[iq]
 | (k,x)::r=>by
  have ih:=wv f v r;rw[show iq f v ((k,x)::r)=(if k=f then (k,v)::r else (k,x)::iq f v r)from rfl]
  by_cases hk:k=f
  ·rw[if_pos hk,dX,dX];lia
  ·rw[if_neg hk,dX,dX];lia
theorem RelO.some_of {v:V}{o:Option aB}(r:RelO (some v) o):∃u,o=some u/\RelV v u:=by
 cases o with
 |none=>exact(show False from r).elim
 |some u=>exact⟨u,rfl,r⟩
theorem RelO.none_of {o:Option aB}(r:RelO none o):o=none:=by
 cases o with
 |none=>rfl
 |some u=>exact(show False from r).elim
theorem Bm {v:V}{u:aB}(r:RelV v u):PySem.W.handedIn u=true:=by
 cases v with
 |non=>cases(show u=iS from r);rfl
 |bl b=>cases(show u=uG b from r);rfl
 |int i=>obtain⟨t,e⟩:=(show ∃t,u=pZ i t from r);cases e;rfl
 |str x=>obtain⟨t,e⟩:=(show ∃t,u=vA x t from r);cases e;rfl
 |byt b=>obtain⟨t,e⟩:=(show ∃t,u=Value.bytes b t from r);cases e;rfl
 |flt b=>obtain⟨t,e⟩:=(show ∃t,u=Value.float b t from r);cases e;rfl
 |ref a=>cases(show u=cH a from r);rfl
 |ty n=>cases(show u=rS n from r);rfl
section
variable {P:aS}{w:bZ}{H H':Hp}{h h':Heap}{a C dx:Addr}{fs fs':List (Str×V)}
theorem Ag (hok:HOk P w H h)(e:H a=some (.ins C dx fs)):∃mA,ObjM h a dx C mA/\(∀f,RelO (fs.lookup f) (mA f))/\wK mA (fs.map (·.1))/\fs.length<=1000/\H dx=some (.own a):=by
 obtain⟨d,z,ne,ob,mA,n,r,q⟩:=(show ObjOk P w H h a (.ins C dx fs)from hok a _ e);exact⟨mA,⟨ob,n,ne⟩,r,q,z,d⟩
end
structure Cls (K:aA)(C:Addr):Prop where
 pg:pA K C wP=true
 hd:qS K C=true
 po:tZ K C=true
 sa:aW K (.ref C) "__setattr__"=some (some (.builtin "object.__setattr__"))
theorem Cls.get {K:aA}{C:Addr}(c:Cls K C)(f:Str):pA K C f=true:=c.pg
def NoAttr (K:aA)(C:Addr)(f:Str):Prop:=aW K (.ref C) f=some none
theorem NoAttr.taker {K:aA}{C:Addr}{f:Str}(n:NoAttr K C f):vD K C f=some none:=by
 unfold vD;rw[show aW K (.ref C) f=some none from n];rfl
structure Hj (K:aA)(C:Addr)(m:Str)(f:Addr):Prop where
 at_:aW K (.ref C) m=some (some (.ref f))
 fn:lG K (.ref f)=true
 kp:aU K (.ref f)=true
section
variable {X:Cx}{pins:List (Addr×Obj)}{σ:St}{H:Hp}{s:aI}{a C dx:Addr}{fs:List (Str×V)}{f:Str}{v:V}{A:cW}{E:aB->aI->Prop}
theorem Hk {b:Bool}{Q:aB->aI->Prop}(I:Inv X pins σ H s)(e:H a=some (.ins C dx fs))(c:Cls X.K C)(n:NoAttr X.K C f)(l:fs.lookup f=some v)
  (h:∀u s',Inv X pins σ H s'->RelV v u->Q u s'):aM (aX X.prog X.w) A (xE (.ref a) f b) Q E s:=by
 obtain⟨mA,O,r,_,_,_⟩:=Ag I.hok e;obtain⟨u,hu,ru⟩:=RelO.some_of (v:=v) (o:=mA f) (by rw[<-l];exact r f);exact Q9 I.kIn O (c.get f) c.hd n hu (Bm ru) (h u _ (I.tok _) ru)
theorem yg {m:Str}{g:Addr}{pl:Sem Bool}{Q:aB×List aB->aI->Prop}(I:Inv X pins σ H s)(e:H a=some (.ins C dx fs))(c:Cls X.K C)(k:Hj X.K C m g)(l:fs.lookup m=none)
  (h:Q (.ref g,[.ref a]) s):aM (aX X.prog X.w) A (tQ (.ref a) m pl) Q E s:=by
 obtain⟨mA,O,r,_,_,_⟩:=Ag I.hok e;have hn:mA m=none:=RelO.none_of (by rw[<-l];exact r m);exact Nl I.kIn O (c.get m) k.at_ k.fn hn h
theorem Hl {y:V}{u:aB}{Q:Unit->aI->Prop}(I:Inv X pins σ H s)(e:H a=some (.ins C dx fs))(c:Cls X.K C)(n:NoAttr X.K C f)(hl:fs.length < 1000)(ry:RelV y u)
  (h:∀s',Inv X pins σ (upd H a (.ins C dx (iq f y fs))) s'->Q () s'):aM (aX X.prog X.w) A (yD (.ref a) f u) Q E s:=by
 obtain⟨mA,O,r,wi,_,ho⟩:=Ag I.hok e;have hz:(fs.map (·.1)).length<=sizeLine:=(by rw[aG,lF];lia);refine Ra I.kIn O c.sa c.po n.taker c.hd wi hz λh' O' sb=>h _ ?_;have hd:∃o,h'.get? dx=some o:=let ⟨o,_,_,e',_⟩:=O'.ns;⟨o,e'⟩;refine I.write (x:=a) (e:=dx) (by rw[e];exact oJ) (.inr ho) (λb q hb z=>(sb.2 b hb).trans z) hd ?_;refine⟨by rw[al O.ne];exact ho,?_,O.ne,O'.obj,_,O'.ns,λg=>?_,λg hg=>?_⟩
 ·have:=wv f y fs;lia
 ·show RelO ((iq f y fs).lookup g) (if g=f then some u else mA g)
  rw[rg];by_cases q:g=f
  ·rw[if_pos q,if_pos q];exact ry
  ·rw[if_neg q,if_neg q];exact r g
 ·by_cases q:g=f
  ·rw[q];exact(vb f y fs).1
  ·refine(vb f y fs).2 g (wi g λz=>hg ?_);show(if g=f then some u else mA g)=none
   rw[if_neg q];exact z
theorem Inv.made (I:Inv X pins σ H s):Inv X pins σ (upd (upd H s.heap.objs.size (.own (s.heap.objs.size+1))) (s.heap.objs.size+1) (.ins C s.heap.objs.size []))
  { s with heap:=(s.heap.push jK).push (lP C s.heap.objs.size) }:=by
 have e1:(s.heap.push jK).get? s.heap.objs.size=some jK:=cJ s.heap rfl;have e2:((s.heap.push jK).push (lP C s.heap.objs.size)).get? (s.heap.objs.size+1)=some (lP C s.heap.objs.size):=by
  have:=cJ (s.heap.push jK) (o:=lP C s.heap.objs.size) rfl
  rwa [gP]at this
 have e3:(s.heap.push jK).Ns s.heap.objs.size (λ_=>none):=⟨jK,#[],_,e1,rfl,(λe he=>absurd he (by simp)),λ_=>rfl⟩;have I1:=I.laid (a:=s.heap.objs.size) (o:=.own (s.heap.objs.size+1)) (h':=s.heap.push jK) (t':=s.toks) (λb u q=>aJ _ q) (aO _) ⟨_,e1⟩;refine I1.laid (a:=s.heap.objs.size+1) (o:=.ins C s.heap.objs.size []) (t':=s.toks) (λb u q=>aJ _ q) (Nat.le_of_eq (gP _ _)) ?_;have ne:s.heap.objs.size≠s.heap.objs.size+1:=cK (pB _);refine⟨by rw[al ne,ae],jZ _,ne,e2,λ_=>none,(Heap.Ns1.of_empty e3).at λo q=>aJ _ q,λ_=>oJ,λy hy=>absurd rfl hy⟩
theorem Fp {prog:aS}{w:bZ}{env:Env}{e:Expr}{f:Str}{pos:Pos}{s:aI}{Q:aB->aI->Prop}(hb:nJ e f env (eval e env)=eval e env)
  (h:aM (aX prog w) A (eval e env) (λo s₁=>aM (aX prog w) A (xE o f true) Q E s₁) E s):aM (aX prog w) A (eval (.Attribute e f pos) env) Q E s:=
 Attribute_any_ h (by rw[arm_eval_Attribute,hb])
end
def tFld (K:aA)(ta:TE)(f:Str):TE:=λσ H Q=>ta σ H λx H1=>∃a C dx fs v,x=.ref a/\H1 a=some (.ins C dx fs)/\Cls K C/\NoAttr K C f/\fs.lookup f=some v/\Q v H1
def sFld (K:aA)(ta tv:TE)(f:Str):TS:=λD σ H=>tv σ H λy H1=>ta σ H1 λx H2=>∃a C dx fs,x=.ref a/\H2 a=some (.ins C dx fs)/\Cls K C/\NoAttr K C f/\fs.length < 1000/\
 D.nx σ (upd H2 a (.ins C dx (iq f y fs)))
section
variable {X:Cx}{o e value:Expr}{f:Str}{pos pos' tpos:Pos}{ta tv:TE}
theorem qd (he:PE X e ta)(hb:nJ e f X.env (eval e X.env)=eval e X.env):PE X (.Attribute e f pos) (tFld X.K ta f):=by
 intro pins s σ H Q I h;refine Fp hb (thn (he pins s σ H _ I h) λu s1 h0_=>?_);obtain⟨x,H1,I1,rx,a,C,dx,fs,v,ex,ea,c,n,l,q⟩:=h0_;subst ex;obtain rfl:u=cH a:=rx;exact Hk I1 ea c n l λu' s2 I2 ru=>⟨v,H1,I2,ru,q⟩
theorem Kn (ha:PE X o ta)(hv:PE X value tv)(hs:qA value (some (.Attribute o f pos')) pos.line X.env=pure false):PS X (.Assign [.Attribute o f pos'] value pos) (sFld X.K ta tv f):=by
 intro pins s σ H D I h;refine plainObj_wpAny_Assign_Attribute (thn (hv pins s σ H _ I h) λu s1 h0_=>?_) hs;obtain⟨y,H1,I1,ry,q⟩:=h0_;refine thn (ha pins s1 σ H1 _ I1 q) λov s2 h0_=>?_;obtain⟨x,H2,I2,rx,a,C,dx,fs,ex,ea,c,n,l,q2⟩:=h0_;subst ex;obtain rfl:ov=cH a:=rx;exact Hl I2 ea c n l ry λs3 I3=>⟨σ,_,I3,q2⟩
end
section
variable {X:Cx}{pins:List (Addr×Obj)}{σ:St}{H:Hp}{s:aI}{A:cW}{E:aB->aI->Prop}{Q:aB->aI->Prop}{c:aB}{b:Bool}
end
end L2
namespace L2
open PySem PySem.Spec PyProof.Rows
structure Room (k:Nat)(A:cW):Prop where
 hd:A.handled=none
 dp:A.depth+3 * k+5 < recursionLimit
 un:A.units+16 * k+200 < iJ
theorem Room.mono {j k:Nat}{A:cW}(r:Room k A)(h:j<=k):Room j A:=⟨r.hd,by have:=r.dp;lia,by have:=r.un;lia⟩
theorem Room.deeper {k:Nat}{A:cW}(r:Room (k+1) A)(env:Env):Room k (A.deeper env):=
 ⟨r.hd,by have:=r.dp;show A.depth+1+3 * k+5 < _;lia,by have:=r.un;show A.units+3+16 * k+200 < _;lia⟩
theorem Hm {A:cW}{C:Addr}{us:List aB}{kw:List (Str×aB)}:(A.under (.builtin "type.__call__" ⟨.ref C::us,kw⟩)).depth=A.depth+1:=by
 first | rfl | simp[wQ,Code.weight,Code.isCreation,Code.isGuard,Code.isCaller,Code.frames,wR,guardIds]
theorem Hn {A:cW}{C:Addr}{us:List aB}{kw:List (Str×aB)}:(A.under (.builtin "type.__call__" ⟨.ref C::us,kw⟩)).units=A.units+1:=by
 first | rfl | simp[wQ,Code.cUnits,Code.frames,wR]
theorem Room.make {k:Nat}{A:cW}(r:Room (k+1) A)(C:Addr)(us:List aB)(kw:List (Str×aB)):Room k (A.under (.builtin "type.__call__" ⟨.ref C::us,kw⟩)):=
 ⟨r.hd,by have:=r.dp;rw[Hm];lia,by have:=r.un;rw[Hn];lia⟩
theorem Room.depth {k:Nat}{A:cW}(r:Room k A):A.depth < recursionLimit:=by have:=r.dp;lia
theorem Room.units {k:Nat}{A:cW}(r:Room k A):A.units+64 < iJ:=by have:=r.un;lia
def No:TA:=λ_ H Q=>Q [] H
def yh (ta:TE)(tr:TA):TA:=λσ H Q=>ta σ H λx H1=>tr σ H1 λxs H2=>Q (x::xs) H2
section
variable {X:Cx}{e:Expr}{es:List Expr}{te:TE}{t:TA}{pos:Pos}
theorem af:PA X [] No:=λ_ _ _ _ H Q I h=>Calls.spliced_nil ⟨[],H,I,.nil,h⟩
theorem ac (ha:PE X e te)(hr:PA X es t)(hs:cZ (e::es) X.env=(false,eval e X.env)::cZ es X.env:=by rfl):PA X (e::es) (yh te t):=by
 intro pos pins s σ H Q I h;rw[hs];show aM _ _ (spliced ((false,eval e X.env)::lE pos (cZ es X.env))) _ _ s;refine Calls.spliced_cons (thn (ha pins s σ H _ I h) λu s1 h0_=>?_);obtain⟨x,H1,I1,r1,q1⟩:=h0_;exact thn (hr pos pins s1 σ H1 _ I1 q1) λus s2 h0_=>by obtain⟨xs,H2,I2,r2,q2⟩:=h0_;exact⟨x::xs,H2,I2,.cons r1 r2,q2⟩
def Uk (t:TA):TE:=λσ H Q=>t σ H λxs H1=>xs.length<=sizeLine/\∀p,H1 p=none->Q (.ref p) (upd H1 p (.tup xs))
def tLst (t:TA):TE:=λσ H Q=>t σ H λxs H1=>xs.length<=sizeLine/\∀p,H1 p=none->Q (.ref p) (upd H1 p (.lst xs))
theorem bq {x1}(h:PA X es t):PE X (.Tuple es x1 pos) (Uk t):=by
 intro pins s σ H Q I hq;refine wpAny_Tuple_spliced (thn (h pos pins s σ H _ I hq) λus s1 ⟨xs,H1,I1,r,z,q⟩=>⟨by rw[<-r.length];exact z,?_⟩);have hf:H1 s1.heap.objs.size=none:=I1.hok.fresh (aO _);refine⟨.ref s1.heap.objs.size,upd H1 s1.heap.objs.size (.tup xs),I1.laid (t':=s1.toks) (λb u e=>aJ _ e) (aO _) ?_,rfl,q _ hf⟩;exact⟨z,us,r,⟨_,cJ _ rfl,rfl,_,rfl⟩⟩
theorem av (h:PA X es t):PE X (.List es pos) (tLst t):=by
 intro pins s σ H Q I hq;refine wpAny_List_spliced (thn (h pos pins s σ H _ I hq) λus s1 ⟨xs,H1,I1,r,z,q⟩=>⟨by rw[<-r.length];exact z,?_⟩);have hf:H1 s1.heap.objs.size=none:=I1.hok.fresh (aO _);refine⟨.ref s1.heap.objs.size,upd H1 s1.heap.objs.size (.lst xs),I1.laid (t':=s1.toks) (λb u e=>aJ _ e) (aO _) ?_,rfl,q _ hf⟩;exact⟨z,us,0,r,cJ _ rfl⟩
end
abbrev Sp:=List V->Hp->VK->XK->Prop
abbrev CXT:=List Env->Hp->aI->XK->aB->aI->Prop
structure Env0 (P:aS)(w:bZ)(K:aA)(mg:Str->Option aB)(base:Heap)(A:cW)(outer:List Env)(s:aI)(H:Hp):Prop where
 frames:A.frames=some outer
 mod:Mod K mg base
 bs:∀b o,base.get? b=some o->s.heap.get? b=some o/\H b=none
 bsz:base.objs.size<=s.heap.objs.size
 funs:s.heap.FunFrames base outer
 frf:∀b∈frs outer,H b=none
 hok:HOk P w H s.heap
 bare:pO s.gens
def CE (outer:List Env)(P:aS)(w:bZ)(H:Hp)(s:aI)(Q:VK)(u:aB)(s':aI):Prop:=
 ∃v H',s'.os=s.os/\pO s'.gens/\Un (frs outer) [] H H' s.heap s'.heap/\HOk P w H' s'.heap/\RelV v u/\Q v H'
def CR (CX:CXT)(outer:List Env)(P:aS)(w:bZ)(H:Hp)(s:aI)(Q:VK)(E:XK)(r:wO)(s':aI):Prop:=
 match r with
 | .ok (.ret u)=>CE outer P w H s Q u s'
 | .ok _=>False
 | .error e=>CX outer H s E e s'
structure FnOk (P:aS)(w:bZ)(K:aA)(mg:Str->Option aB)(base:Heap)(CX:CXT)(k:Nat)(f:Addr)(fd:cC)(ps:List Str)(sp:Sp):Prop where
 len:∀vs H Q E,sp vs H Q E->vs.length=ps.length
 run:∀(A:cW)(outer:List Env) (s:aI) (H:Hp) (args:Args) (us:List aB) (vs:List V) (Q:VK) (E:XK),Room k A->Env0 P w K mg base A outer s H->vS s fd args (ps.zip us)->Vals vs us->sp vs H Q E->
  nQ (aX P w) A (.call (.ref f) args) (CR CX outer P w H s Q E) s
theorem Env0.make {P:aS}{w:bZ}{K:aA}{mg:Str->Option aB}{base:Heap}{A:cW}{outer:List Env}{s:aI}{H:Hp}(e:Env0 P w K mg base A outer s H)(C:Addr)(us:List aB)(kw:List (Str×aB)) :
  Env0 P w K mg base (A.under (.builtin "type.__call__" ⟨.ref C::us,kw⟩)) outer s H:=⟨by first | exact e.frames | (simpa[wQ,Code.envs,wR,pushEnvs]using e.frames),e.mod,e.bs,e.bsz,e.funs,e.frf,e.hok,e.bare⟩
section
variable {X:Cx}{pins:List (Addr×Obj)}{σ:St}{H:Hp}{s s':aI}
theorem Inv.env0 (I:Inv X pins σ H s):Env0 X.prog X.w X.K X.mg X.base X.A X.stack s H:=
 ⟨I.ok.frames,I.ok.mod,I.bs,bK I.ok.bsz I.sz,I.stack,I.stkFree,I.hok,I.bare⟩
theorem Inv.after {Q:VK}{u:aB}(I:Inv X pins σ H s)(h:CE X.stack X.prog X.w H s Q u s'):EP X pins σ Q u s':=by
 obtain⟨v,H',os,bare,un,hok,r,q⟩:=h;obtain⟨hh,g,d,t,os'⟩:=s';obtain rfl:os'=s.os:=os;exact⟨v,H',I.call (h':=hh) (g':=g) (d':=d) (t':=t) (ch:=[]) un hok bare (λb z=>absurd z (by simp)),r,q⟩
end
def P5 (sp:Sp)(dvs:List V)(E:XK)(t:TA):TE:=λσ H Q=>t σ H λvs H1=>sp (vs++dvs) H1 Q E
def P6 (C:Addr)(m:Str)(sp:Sp)(dvs:List V)(E:XK)(ta:TE)(t:TA):TE:=λσ H Q=>ta σ H λx H1=>∃a dx fs,x=.ref a/\H1 a=some (.ins C dx fs)/\fs.lookup m=none/\
 t σ H1 λvs H2=>sp (x::(vs++dvs)) H2 Q E
def Wi (C:Addr)(sp:Sp)(dvs:List V)(E:XK)(t:TA):TE:=λσ H Q=>t σ H λvs H1=>∀x dx,H1 x=none->H1 dx=none->dx≠x->
 sp (.ref x::(vs++dvs)) (upd (upd H1 dx (.own x)) x (.ins C dx [])) (λv H2=>v=.non/\Q (.ref x) H2) E
def Binds (K:aA)(fd:cC)(ps:List Str)(ds:List aB):Prop:=
 ∀(s:aI)(us:List aB),K.In s.heap->(us++ds).length=ps.length->vS s fd ⟨us,[]⟩ (ps.zip (us++ds))
theorem Binds.all {K:aA}{fd:cC}{ps:List Str}(h:∀us:List aB,us.length=ps.length->uO fd ⟨us,[]⟩=pure (ps.zip us)):Binds K fd ps []:=λs us _ hl=>by
 rw[iM]at hl ⊢;exact .of_eq (h us hl)
def lq (CX:CXT)(X:Cx)(E:XK):Prop:=∀(pins:List (Addr×Obj))(σ:St) (H:Hp) (s:aI) (e:aB) (s':aI),Inv X pins σ H s->CX X.stack H s E e s'->X.xe e s'
section
variable {X:Cx}{CX:CXT}{k:Nat}{f C:Addr}{fd:cC}{ps:List Str}{sp:Sp}{dvs:List V}{ds:List aB}{E:XK}{x m:Str}{p pos apos:Pos}{e o:Expr}{es:List Expr}{ta:TE}{t:TA}
theorem yi {pins:List (Addr×Obj)}{σ:St}{H:Hp}{s:aI}{Q:VK}{us:List aB}{vs:List V}(F:FnOk X.prog X.w X.K X.mg X.base CX k f fd ps sp)(hr:Room k X.A)(hb:Binds X.K fd ps ds)(hd:Vals dvs ds)(hx:lq CX X E)
  (I:Inv X pins σ H s) (r:Vals vs us) (h:sp (vs++dvs) H Q E):aM (aX X.prog X.w) X.A (call (.ref f) us) (EP X pins σ Q) X.xe s:=by
 have r2:Vals (vs++dvs) (us++ds):=r.append hd;have hl:(us++ds).length=ps.length:=(by rw[<-r2.length];exact F.len _ _ _ _ h);refine rW (nR (F.run X.A X.stack s H ⟨us,[]⟩ (us++ds) (vs++dvs) Q E hr I.env0 (hb s us I.kIn hl) r2 h) λr s' hq=>?_);cases r with
 |error e=>exact hx pins σ H s e s' I hq
 |ok fl=>
  cases fl with
  |ret u=>exact I.after hq
  |next=>exact gY hq
  |brk=>exact gY hq
  |cont=>exact gY hq
theorem ao (F:FnOk X.prog X.w X.K X.mg X.base CX k f fd ps sp)(hr:Room k X.A)(hg:Gl X x)(hm:X.mg x=some (.ref f))(hk:aU X.K (.ref f)=true)(hb:Binds X.K fd ps ds)(hd:Vals dvs ds)(hx:lq CX X E)
  (ha:PA X (e::es) t) (hdb:(x == ("__debug__":Str))=false:=by decide) (he:cZ (e::es) X.env=(false,eval e X.env)::cZ es X.env:=by rfl) (hpl:(lE pos (cZ es X.env)).any (·.1)=false:=by rfl) :
  PE X (.Call (.Name x p) (e::es) [] pos) (P5 sp dvs E t):=by
 intro pins s σ H Q I h;refine mX (ko I hg hm ?_ hdb);refine mZ (h₀:=X.base) I.ok.mod.kin hk (thn (ha pos pins s σ H _ I h) λus s1 h0_=>?_) he hpl;obtain⟨vs,H1,I1,r,q⟩:=h0_;refine⟨I1.kIn,?_⟩;exact yi F hr hb hd hx I1 r q
theorem jf {pl:Sem Bool}(he:PE X o ta)(c:Cls X.K C)(hm:Hj X.K C m f)(F:FnOk X.prog X.w X.K X.mg X.base CX k f fd ps sp)(hr:Room k X.A)(hb:Binds X.K fd ps ds)(hd:Vals dvs ds)(hx:lq CX X E)(ha:PA X (e::es) t)
  (hst:cZ (e::es) X.env=(false,eval e X.env)::cZ es X.env:=by rfl) (hpl:(lE pos (cZ es X.env)).any (·.1)=false:=by rfl)
  (ht:eval (.Call (.Attribute o m apos) (e::es) [] pos) X.env=(do
    let ov <-eval o X.env
    sV apos.atName
    let (f,first) <-oU [ov] (tQ ov m pl)
    xL pos f first (lE pos (cZ (e::es) X.env)) (sY pos (pP [] X.env))):=by rfl) :
  PE X (.Call (.Attribute o m apos) (e::es) [] pos) (P6 C m sp dvs E ta t):=by
 intro pins s σ H Q I h;refine oV (pl:=pl) (thn (he pins s σ H _ I h) λu s1 h0_=>?_) ht;obtain⟨x,H1,I1,rx,a,dx,fs,ex,ea,l,q⟩:=h0_;subst ex;obtain rfl:u=cH a:=rx;refine yg I1 ea c hm l ?_;refine mZ (first:=[.ref a]) (h₀:=X.base) I.ok.mod.kin hm.kp (thn (ha pos pins s1 σ H1 _ I1 q) λus s2 h0_=>?_) hst hpl
 obtain⟨vs,H2,I2,r,q2⟩:=h0_;refine⟨I2.kIn,?_⟩;exact yi (us:=.ref a::us) (vs:=.ref a::vs) F hr hb hd hx I2 (.cons rfl r) q2
theorem Np {pl:Sem Bool}(he:PE X o ta)(c:Cls X.K C)(hm:Hj X.K C m f)(F:FnOk X.prog X.w X.K X.mg X.base CX k f fd ps sp)(hr:Room k X.A)(hb:Binds X.K fd ps ds)(hd:Vals dvs ds)(hx:lq CX X E)
  (ht:eval (.Call (.Attribute o m apos) [] [] pos) X.env=(do
    let ov <-eval o X.env
    sV apos.atName
    let (f,first) <-oU [ov] (tQ ov m pl)
    xL pos f first (lE pos (cZ [] X.env)) (sY pos (pP [] X.env))):=by rfl) :
  PE X (.Call (.Attribute o m apos) [] [] pos) (P6 C m sp dvs E ta No):=by
 intro pins s σ H Q I h;refine oV (pl:=pl) (thn (he pins s σ H _ I h) λu s1 h0_=>?_) ht;obtain⟨x,H1,I1,rx,a,dx,fs,ex,ea,l,q⟩:=h0_;subst ex;obtain rfl:u=cH a:=rx;refine yg I1 ea c hm l ?_;exact PySem.W.callWith_K0 (first:=[.ref a]) I1.kIn hm.kp (yi (us:=[.ref a]) (vs:=[.ref a]) F hr hb hd hx I1 (.cons rfl .nil) q)
structure Mk (K:aA)(C f:Addr):Prop where
 makes:vE K C=true
 init:aW K (.ref C) "__init__"=some (some (.ref f))
 fn:lG K (.ref f)=true
 kp:aU K (.ref C)=true
theorem Nq {pins:List (Addr×Obj)}{σ:St}{H:Hp}{s:aI}{Q:VK}{us:List aB}{vs:List V}(M:Mk X.K C f)(F:FnOk X.prog X.w X.K X.mg X.base CX k f fd ps sp)(hr:Room (k+1) X.A)(hb:Binds X.K fd ps ds)(hd:Vals dvs ds)
  (hx:lq CX X E) (I:Inv X pins σ H s) (r:Vals vs us)
  (h:∀x dx,H x=none->H dx=none->dx≠x->sp (.ref x::(vs++dvs)) (upd (upd H dx (.own x)) x (.ins C dx [])) (λv H2=>v=.non/\Q (.ref x) H2) E) :
  aM (aX X.prog X.w) X.A (call (.ref C) us) (EP X pins σ Q) X.xe s:=by
 have hq:=h (s.heap.objs.size+1) s.heap.objs.size (I.hok.fresh (vM _)) (I.hok.fresh (aO _)) (cK (pB _));have I2:=Inv.made (C:=C) I;have r2:Vals (V.ref (s.heap.objs.size+1)::(vs++dvs)) (cH (s.heap.objs.size+1)::(us++ds)):=.cons rfl (r.append hd);have hl:(cH (s.heap.objs.size+1)::us++ds).length=ps.length:=by
  have e:=r2.length;rw[F.len _ _ _ _ hq]at e;exact e.symm
 refine rW (Nm (f:=f) I.kIn M.makes M.init (beq_iff_eq.mp M.fn) (nR (F.run _ X.stack _ _ ⟨cH (s.heap.objs.size+1)::us,[]⟩ (cH (s.heap.objs.size+1)::(us++ds)) _ _ E (hr.make C us []) (I2.env0.make C us []) (hb _ (cH (s.heap.objs.size+1)::us) I2.kIn hl) r2 hq) λr s' hq'=>?_));cases r with
 |error e=>exact hx pins σ _ _ e s' I2 hq'
 |ok fl=>
  cases fl with
  |ret u=>
   obtain⟨v,H',I3,rv,ev,q3⟩:=I2.after hq';subst ev;exact⟨rv,⟨V.ref (s.heap.objs.size+1),H',I3,rfl,q3⟩⟩
  |next=>exact gY hq'
  |brk=>exact gY hq'
  |cont=>exact gY hq'
theorem Ah (M:Mk X.K C f)(F:FnOk X.prog X.w X.K X.mg X.base CX k f fd ps sp)(hr:Room (k+1) X.A)(hg:Gl X x)(hm:X.mg x=some (.ref C))(hb:Binds X.K fd ps ds)(hd:Vals dvs ds)(hx:lq CX X E)
  (ha:PA X (e::es) t) (hdb:(x == ("__debug__":Str))=false:=by decide) (he:cZ (e::es) X.env=(false,eval e X.env)::cZ es X.env:=by rfl) (hpl:(lE pos (cZ es X.env)).any (·.1)=false:=by rfl) :
  PE X (.Call (.Name x p) (e::es) [] pos) (Wi C sp dvs E t):=by
 intro pins s σ H Q I h;refine mX (ko I hg hm ?_ hdb);refine mZ (h₀:=X.base) I.ok.mod.kin M.kp (thn (ha pos pins s σ H _ I h) λus s1 h0_=>?_) he hpl;obtain⟨vs,H1,I1,r,q⟩:=h0_;refine⟨I1.kIn,?_⟩;exact Nq M F hr hb hd hx I1 r q
end
section
variable {X:Cx}{CX:CXT}{k:Nat}{f C:Addr}{fd:cC}{ps ks:List Str}{sp:Sp}{E:XK}{x m:Str}{p pos apos kpos:Pos}{e o:Expr}{es:List Expr}{kws:List uI}{te ta:TE}{t tk:TA}{nm:Option Str}
variable {g:List aB->List aB->List aB}{gV:List V->List V->List V}
end
structure ar (N P:List Str)(sc:gG):Prop where
 kind:sc.kind=.function
 co:sc.isCoroutine=false
 gen:sc.isGenerator=false
 nd:N.Nodup
 pre:N.take P.length=P
 par:∀x∈P,sc.names.lookup x=some .local\/sc.names.lookup x=some .cell
 nofree:∀y∈sc.names,y.2≠.free
theorem Bn {kindOf:Str->Option uP}{x:Str}:∀{binds:List (Str×aB)}{m:Str->Option aB},(∀v,(x,v) ∉ binds)->wA kindOf binds m x=m x
 | [],_,_=>rfl
 | (n,v)::r,m,h=>by
  unfold wA;rw[Bn λw hw=>h w (cY _ hw)]
  split
  ·have:x≠n:=(by rintro rfl;exact h v eG);simp[this]
  ·rfl
theorem Bo {kindOf:Str->Option uP}{x:Str}:∀{binds:List (Str×aB)}{m:Str->Option aB},(∀v,(x,v) ∉ binds)->wB kindOf binds m x=m x
 | [],_,_=>rfl
 | (n,v)::r,m,h=>by
  unfold wB;rw[Bo λw hw=>h w (cY _ hw)]
  split
  ·rfl
  ·have:x≠n:=(by rintro rfl;exact h v eG);simp[this]
theorem Bp {kindOf:Str->Option uP}{x:Str}{v:aB}:∀{P:List Str}{vs:List aB}{i:Nat}{m:Str->Option aB},P.Nodup->P[i]?=some x->vs[i]?=some v->kindOf x=some .local->
  wA kindOf (P.zip vs) m x=some v
 | [],_,_,_,_,h,_,_=>by simp at h
 |_::_,[],_,_,_,_,h,_=>by simp at h
 |p::P,w::vs,0,m,nd,h1,h2,hk=>by
  simp at h1 h2;subst h1;subst h2;show wA kindOf ((p,w)::P.zip vs) m p=_;unfold wA;rw[Bn λv hv=>(lB.mp nd).1 (vG hv).1,if_pos hk];simp
 |p::P,w::vs,i+1,m,nd,h1,h2,hk=>by
  show wA kindOf ((p,w)::P.zip vs) m x=_;unfold wA;exact Bp (i:=i) (lB.mp nd).2 (by simpa using h1) (by simpa using h2) hk
theorem Bq {kindOf:Str->Option uP}{x:Str}{v:aB}:∀{P:List Str}{vs:List aB}{i:Nat}{m:Str->Option aB},P.Nodup->P[i]?=some x->vs[i]?=some v->kindOf x≠some .local->
  wB kindOf (P.zip vs) m x=some v
 | [],_,_,_,_,h,_,_=>by simp at h
 |_::_,[],_,_,_,_,h,_=>by simp at h
 |p::P,w::vs,0,m,nd,h1,h2,hk=>by
  simp at h1 h2;subst h1;subst h2;show wB kindOf ((p,w)::P.zip vs) m p=_;unfold wB;rw[Bo λv hv=>(lB.mp nd).1 (vG hv).1,if_neg hk];simp
 |p::P,w::vs,i+1,m,nd,h1,h2,hk=>by
  show wB kindOf ((p,w)::P.zip vs) m x=_;unfold wB;exact Bq (i:=i) (lB.mp nd).2 (by simpa using h1) (by simpa using h2) hk
def start (N:List Str)(vs:List V):St:=vs.map some++dQ (N.length - vs.length) none
def bf (CX:CXT)(P:aS)(w:bZ)(K:aA)(mg:Str->Option aB)(base:Heap)(N:List Str)(qual:Str)(scope:gG)(f:Addr)(cd:aB)(A:cW)(outer:List Env)(s:aI)(H:Hp)(E:XK):Cx where
 prog:=P
 w:=w
 K:=K
 mg:=mg
 base:=base
 A:=A.deeper (qY qual scope s.heap.objs.size f cd)
 N:=N
 s₀:=s
 H₀:=H
 env:=qY qual scope s.heap.objs.size f cd
 outer:=outer
 stack:=qY qual scope s.heap.objs.size f cd::outer
 ex:=[]
 calm:=true
 fn:=λ_=>true
 pn:=[]
 xe:=λe s'=>aM (aX P w) (A.deeper (qY qual scope s.heap.objs.size f cd)) (leaving (qY qual scope s.heap.objs.size f cd) e) (λ_ s''=>CX outer H s E e s'') (λe' s''=>CX outer H s E e' s'') s'
theorem C0 {sc:gG}{n:Nat}{x:Str}(h:sc.names.lookup x=some .cell):∃c,(cellsFrom n sc.names []).lookup x=some c:=by
 have q:=PySem.W.cellsFrom_some sc.names n [] (.inl h);exact nS.mp q
theorem Ko {CX:CXT}{P:aS}{w:bZ}{K:aA}{mg:Str->Option aB}{base:Heap}{N ps:List Str}{qual:Str}{scope:gG}{f:Addr}{cd:aB}{A:cW}{outer:List Env}{s s1:aI}{H:Hp}{E:XK}{us:List aB}{vs:List V}
  (S:ar N ps scope) (hd:A.handled=none) (e0:Env0 P w K mg base A outer s H) (hl:vs.length=ps.length) (r:Vals vs us)
  (x:InCallC s s.heap.objs.size (wA (qY qual scope s.heap.objs.size f cd).kindOf (ps.zip us) λ_=>none) (cellsFrom (s.heap.objs.size+1) scope.names []) (wB (qY qual scope s.heap.objs.size f cd).kindOf (ps.zip us) λ_=>none) s1) :
  Inv (bf CX P w K mg base N qual scope f cd A outer s H E) [] (start N vs) H s1:=by
 have hpl:ps.length<=N.length:=(by have:=congrArg List.length S.pre;rw[cQ]at this;lia);obtain⟨h1,tk,rfl,hk⟩:=x.done;have noA:∀b:Addr,b ∉ (bf CX P w K mg base N qual scope f cd A outer s H E).ex:=λb z=>absurd (show b∈([]:List Addr)from z) (by simp);refine⟨⟨e0.mod,S.kind,rfl,rfl,aO _,λy z c h1 h2=>?_,λy hy=>?_,λy c _ h=>?_,λ_=>hd,Around.frames_deeper e0.frames,.inr ⟨rfl,rfl⟩,λb z=>absurd z (noA b),e0.bs,e0.bsz,λb _ _=>noA b,λb z=>absurd z (noA b),e0.funs,e0.frf⟩,
   rfl,e0.bare,Un.kept hk,⟨_,x.toInCall.ns,λi y v h1 h2 h3=>?_⟩,λy c h=>⟨_,x.cell y c h⟩,e0.hok.fresh (aO _),λy c h=>?_,λp hp=>absurd (show p∈([]:List (Addr×Obj))from hp) (by simp),e0.hok.kept hk,?_⟩
 ·exact name_of_addr x.apart (lW h1) (lW h2)
 ·have hy:scope.names.lookup y=some .cell\/scope.names.lookup y=some .free:=hy;rcases hy with hy | hy
  ·exact C0 hy
  ·exact absurd rfl (S.nofree _ (lW hy))
 ·exact iE (x.above y c (lW h))
 ·have hi:i < vs.length:=by
   unfold start at h2;by_cases hi:i < vs.length
   ·exact hi
   ·rw[gB (by simpa using hi)]at h2;rw[kX]at h2
    split at h2<;>cases h2
  have ha:vs[i]?=some v:=by
   unfold start at h2;rw[eP (by simpa using hi),eK]at h2;cases e:vs[i]? with
   |none=>rw[e]at h2;cases h2
   |some a=>rw[e]at h2;cases h2;rfl
  obtain⟨u,hu,rv⟩:=r.get ha;have hp:ps[i]?=some y:=by
   rw[<-S.pre,List.getElem?_take_of_lt (by lia)];exact h1
  have ndP:ps.Nodup:=(by rw[<-S.pre];exact S.nd.sublist (List.take_sublist _ _));refine⟨u,rv,?_⟩;rcases S.par y (bQ hp)with k | k
  ·exact .inl ⟨k,Bp ndP hp hu k⟩
  ·obtain⟨c,e⟩:=C0 (n:=s.heap.objs.size+1) k;refine .inr ⟨.inl k,c,e,?_⟩;have q:=x.cell y c e;rw[Bq ndP hp hu (by show scope.names.lookup y≠_;rw[k];decide)]at q;exact q
 ·exact e0.hok.fresh (iE (x.above y c (lW h)))
 ·unfold start;show _=N.length;rw[aN,aG,gN];lia
theorem P7 {CX:CXT}{P:aS}{w:bZ}{K:aA}{mg:Str->Option aB}{base:Heap}{k:Nat}{f:Addr}{name qual:Str}{params:Arguments}{body:List Stmt}{scope:gG}{dV kV doc pm cdv ct oc:aB}{an od:Option Addr}
  {osl:Array (Option aB)}{N ps:List Str}{sp:Sp}(lk:K.lookup f=some ⟨oc,od,.func (gS name qual params body scope dV kV doc pm an cdv ct),osl⟩) (hcd:jG K cdv qual=true) (S:ar N ps scope)
  (len:∀vs H Q E,sp vs H Q E->vs.length=ps.length)
  (hbody:∀(A:cW)(outer:List Env) (s:aI) (H:Hp) (vs:List V) (Q:VK) (E:XK),Room k (A.deeper (qY qual scope s.heap.objs.size f cdv))->sp vs H Q E->∃t,PSs (bf CX P w K mg base N qual scope f cdv A outer s H E) body t/\t { nx:=λ_ H'=>Q .non H',rt:=Q } (start N vs) H) :
  FnOk P w K mg base CX (k+1) f (gS name qual params body scope dV kV doc pm an cdv ct) ps sp:=by
 refine⟨len,λA outer s H args us vs Q E hr e0 hb r hsp=>?_⟩;have hl:=len _ _ _ _ hsp;have KX:K.In s.heap:=e0.mod.kin.keeps λb o e=>(e0.bs b o e).1;have lim:s.heap.NoLimit:=e0.mod.nolimit.keeps λb o e=>(e0.bs b o e).1;have hkind:∀y∈ps.zip us,scope.names.lookup y.1=some .local\/(scope.names.lookup y.1=some .cell/\((cellsFrom (s.heap.objs.size+1) scope.names []).lookup y.1).isSome=true):=λ⟨n,v⟩ hy=>by
  rcases S.par n (vG hy).1 with q | q
  ·exact .inl q
  ·exact .inr ⟨q,PySem.W.cellsFrom_some _ _ _ (.inl q)⟩
 refine codeAny_call_function hr.depth (KX _ _ lk) rfl S.co S.gen rfl (PySem.W.codeRec_of KX hcd) (hb _ _ _ _ ?_);refine wpAny_newFunctionEnv_cells S.kind hkind λenv he s1 x=>?_;subst he;refine⟨lim.keeps x.toInCall.keep,codeAny_func ?_⟩;obtain⟨t,ht,hq⟩:=hbody A outer s H vs Q E (hr.deeper _) hsp;have I:Inv (bf CX P w K mg base N qual scope f cdv A outer s H E) [] (start N vs) H s1:=Ko S hr.hd e0 hl r x;refine gC (ht [] s1 (start N vs) H _ I hq) (λfl s' hs=>?_) λe s' hs=>hs;have fin:∀{σ':St}{H':Hp}{v:V}{u:aB},Inv (bf CX P w K mg base N qual scope f cdv A outer s H E) [] σ' H' s'->RelV v u->Q v H'->CE outer P w H s Q u s':=
  λ{σ' H' v u} J rv q=>⟨v,H',J.os,J.bare,J.base,J.hok,rv,q⟩
 cases fl with
 |ret u=>
  obtain⟨v,σ',H',J,rv,q⟩:=hs;exact fin J rv q
 |next=>
  obtain⟨σ',H',J,q⟩:=hs;exact fin (v:=V.non) (u:=iS) J rfl q
 |brk=>
  obtain⟨_,_,_,q⟩:=hs;exact gY q
 |cont=>
  obtain⟨_,_,_,q⟩:=hs;exact gY q
end L2
namespace L2
open PySem PySem.Spec PyProof.Rows
section
variable {X:Cx}{x:Str}{p pos:Pos}{e:Expr}{es:List Expr}{t:TA}{id T:String}{r:List V->Hp->VK->Prop}
def tCB (r:List V->Hp->VK->Prop)(t:TA):TE:=λσ H Q=>t σ H λvs H1=>r vs H1 Q
theorem bp (hc:i9 X (.builtin id) r)(hg:Gl X x)(hm:X.mg x=none)(hv:lQ x=some (.builtin id))(ha:PA X (e::es) t)(hn:x≠"__name__":=by decide)(hdb:(x == ("__debug__":Str))=false:=by decide)
  (he:cZ (e::es) X.env=(false,eval e X.env)::cZ es X.env:=by rfl) (hpl:(lE pos (cZ es X.env)).any (·.1)=false:=by rfl):PE X (.Call (.Name x p) (e::es) [] pos) (tCB r t):=by
 intro pins s σ H Q I h;refine mX (jy I hg hm hv ?_ hn hdb);exact PyProof.Rows.callWith_builtin1 (thn (ha pos pins s σ H _ I h) λus s1 h0_=>by obtain⟨vs,H1,I1,r1,q1⟩:=h0_;exact hc pins s1 σ H1 vs us Q I1 r1 q1) he hpl
theorem ku (hc:i9 X (.type T) r)(hg:Gl X x)(hm:X.mg x=none)(hv:lQ x=some (.type T))(ha:PA X (e::es) t)(hn:x≠"__name__":=by decide)(hdb:(x == ("__debug__":Str))=false:=by decide)
  (he:cZ (e::es) X.env=(false,eval e X.env)::cZ es X.env:=by rfl) (hpl:(lE pos (cZ es X.env)).any (·.1)=false:=by rfl):PE X (.Call (.Name x p) (e::es) [] pos) (tCB r t):=by
 intro pins s σ H Q I h;refine mX (jy I hg hm hv ?_ hn hdb);exact gU (thn (ha pos pins s σ H _ I h) λus s1 h0_=>by obtain⟨vs,H1,I1,r1,q1⟩:=h0_;exact hc pins s1 σ H1 vs us Q I1 r1 q1) he hpl
end
end L2
namespace HT
open PySem PyProof.Rows
def lexLt:List Int->List Int->Bool
 | [],[]=>false
 | [],_::_=>true
 |_::_,[]=>false
 |x::xs,y::ys=>if x=y then lexLt xs ys else decide (x < y)
theorem lexLt_cons (x y:Int)(xs ys:List Int):lexLt (x::xs) (y::ys)=if x=y then lexLt xs ys else decide (x < y):=rfl
section
open PySem.SeqAt
open PySem.AutoSeq1 (wpAny_loadPart')
open PySem.MeetsSeq PySem.MeetsSeq2 PySem.MeetsSeq3
end
section
variable {prog:aS}{w:bZ}{A:cW}{E:aB->aI->Prop}{s:aI}
theorem cat_tup {t b:Addr}{vs ws:List aB}{Q:aB->aI->Prop}(ht:xN s.heap t vs.toArray)(hb:xN s.heap b ws.toArray)(hv:vs≠[])
  (h1:ws=[]->Q (.ref t) s) (h2:ws≠[]->Q (.ref s.heap.objs.size) { s with heap:=s.heap.push { cls:=.type "tuple",data:=.seq (vs++ws).toArray } })
  (hsz:vs.length+ws.length<=sizeLine):aM (aX prog w) A (jS .Add (.ref t) (.ref b)) Q E s:=by
 obtain⟨⟨cls,dd,data,sl⟩,ho,hc,n,hd⟩:=id ht;obtain⟨⟨cls2,dd2,data2,sl2⟩,ho2,hc2,n2,hd2⟩:=id hb;simp only at hc hd hc2 hd2;subst hc hd hc2 hd2;have e:vs.toArray++ws.toArray=(vs++ws).toArray:=(by simp);by_cases hw:ws=[]
 ·exact wS ⟨_,ho,rfl⟩ ⟨_,ho2,rfl⟩ uQ wG qZ qQ (qC _ _)
   (tuple_addW1 t b vs.toArray ws.toArray n n2 dd dd2 sl sl2 (by simpa using hv) (by simp[hw])) ⟨ho,ho2,h1 hw⟩
 ·refine wS ⟨_,ho,rfl⟩ ⟨_,ho2,rfl⟩ uQ wG qZ qQ (qC _ _)
   (tuple_addW2 t b vs.toArray ws.toArray n n2 dd dd2 sl sl2 (by simpa using hv) (by simpa using hw) (by rw[aY,aY];exact hsz)) ⟨ho,ho2,?_⟩
  rw[e];exact h2 hw
def sIx (n d:Nat):Option Int->Nat
 |none=>d
 |some v=>if v < 0 then (v+(n:Int)).toNat else min v.toNat n
theorem sIx_none (n d:Nat):sIx n d none=d:=rfl
theorem sIx_nat (n d k:Nat):sIx n d (some (k:Int))=min k n:=by
 show(if (k:Int) < 0 then ((k:Int)+(n:Int)).toNat else min (k:Int).toNat n)=min k n
 rw[if_neg (by lia),eY]
theorem Ul (n d:Nat)(hd:d<=n)(o:Option Int):sIx n d o<=n:=by
 cases o with
 |none=>exact hd
 |some v=>
  show(if v < 0 then (v+(n:Int)).toNat else min v.toNat n)<=n
  by_cases hv:v < 0
  ·rw[if_pos hv];lia
  ·rw[if_neg hv];exact Nat.min_le_right _ _
theorem Fq (v:Int)(n d:Nat):(if v < 0 then max (v+(n:Int)) 0 else min v (n:Int))=((sIx n d (some v):Nat):Int):=by
 show(if v < 0 then max (v+(n:Int)) 0 else min v (n:Int))=(((if v < 0 then (v+(n:Int)).toNat else min v.toNat n):Nat):Int)
 by_cases hv:v < 0
 ·simp only[if_pos hv];lia
 ·simp only[if_neg hv];lia
theorem Ho (lo hi:Option Int)(n:Nat):jN lo hi 1 (n:Int)=(((sIx n 0 lo:Nat):Int),((sIx n n hi:Nat):Int)):=by
 have h1:¬((1:Int) < 0):=(by lia);unfold jN;simp only[h1,if_false];refine Prod.ext ?_ ?_
 ·cases lo with
  |none=>rfl
  |some v=>exact Fq v n 0
 ·cases hi with
  |none=>rfl
  |some v=>exact Fq v n n
theorem Hq (i j:Nat):iB (i:Int) (j:Int) 1=j - i:=by
 unfold iB;have h1:(1:Int) > 0:=(by lia);simp only[h1,if_true,wT]
 split<;>lia
theorem yj {v:aB}{o:Option Int}{Q:Option Int->aI->Prop}(p:uR v o)(h:Q o s):aM (aX prog w) A (Builtin.Slice.slicePartIndex v) Q E s:=by
 cases p with
 |none=>exact sZ h
 |int i t=>exact slicePart_int h
theorem xk {sl:Addr}{vl vu:aB}{lo hi:Option Int}{n:Nat}{Q:Int×Int×Nat->aI->Prop}(hs:s.heap.IsSliceOf sl vl vu .none)(pl:uR vl lo)(pu:uR vu hi)
  (h:Q (((sIx n 0 lo:Nat):Int),1,sIx n n hi - sIx n 0 lo) s):aM (aX prog w) A (nK (.ref sl) (pure (n:Int))) Q E s:=by
 obtain⟨os,hos,hcs,hds⟩:=id hs;unfold nK Builtin.Slice.sliceFields;refine aC (aC (eC hos hds (x:=vl) rfl (aC (eC hos hds (x:=vu) rfl (aC (eC hos hds (x:=.none) rfl (wpAny_pure ?_)))))));refine aC (sZ ?_);show aM _ _ (if ((1:Int) == 0)=true then _ else _) _ _ s
 rw[if_neg (by decide)];refine aC (yj pl (aC (yj pu (aC (wpAny_pure ?_)))));show aM _ _ (match jN lo hi 1 (n:Int)with | (lo,hi)=>pure (lo,(1:Int),iB lo hi 1)) _ _ s
 rw[Ho lo hi n];show aM _ _ (pure (((sIx n 0 lo:Nat):Int),(1:Int),iB ((sIx n 0 lo:Nat):Int) ((sIx n n hi:Nat):Int) 1)) _ _ s;rw[Hq];exact wpAny_pure h
theorem Nr (xs:Array aB)(i k:Nat):((fK k).filterMap λ(m:Nat)=>xs[((i:Int)+(m:Int) * 1).toNat]?).toArray=((xs.toList.drop i).take k).toArray:=by
 have e:(λ(m:Nat)=>xs[((i:Int)+(m:Int) * 1).toNat]?)=λm=>xs[i+m]?:=by
  funext m
  have:((i:Int)+(m:Int) * 1).toNat=i+m:=(by lia);rw[this]
 rw[e];have:=pick_run xs i k;rw[List.filterMap_map]at this;have e2:((λx=>xs[x]?)∘λx=>i+x)=λm=>xs[i+m]?:=rfl;rw[e2]at this;rw[this]
theorem getItem_tuple_cut {t sl:Addr}{items:Array aB}{vl vu:aB}{lo hi:Option Int}{Q:aB->aI->Prop}(ht:xN s.heap t items)(hs:s.heap.IsSliceOf sl vl vu .none)(pl:uR vl lo)(pu:uR vu hi)
  (hw:¬(sIx items.size 0 lo=0/\sIx items.size items.size hi=items.size))
  (h:Q (.ref s.heap.objs.size) { s with heap:=s.heap.push { cls:=.type "tuple",data:=.seq ((items.toList.drop (sIx items.size 0 lo)).take (sIx items.size items.size hi - sIx items.size 0 lo)).toArray } })
  (hsz:items.size<=sizeLine):aM (aX prog w) A (qM (.ref t) (.ref sl)) Q E s:=by
 have htake:sizeOk (.seq ((items.toList.drop (sIx items.size 0 lo)).take (sIx items.size items.size hi - sIx items.size 0 lo)).toArray):=by
  show((items.toList.drop (sIx items.size 0 lo)).take (sIx items.size items.size hi - sIx items.size 0 lo)).toArray.size<=sizeLine;rw[aY,cQ,iH,lV];lia
 have hj:sIx items.size items.size hi<=items.size:=Ul _ _ (aO _) hi;obtain⟨os,hos,hcs,hds⟩:=id hs;have hTs:s.TypeIs (.ref sl) "slice":=⟨os,hos,hcs⟩;unfold qM
 try with_reducible refine iK ?_
 first | refine aC (wpAny_pure ?_) | skip
 refine aC (wpAny_sequenceKey ht.typeIs (by decide) ?_);refine aC (gQ (name:=iN "__getitem__") ht.typeIs lO (iI lO ht.typeIs entry_tuple_getitem ?_ (args_tuple_getitem _ _)));show aM _ _ (pJ (.ref t) >>= _) _ _ s;refine aC (tupleItemsOf_ ht ?_);refine aC (qD hTs ?_);rw[if_pos (by decide)];refine aC (xk hs pl pu ?_);have hno:¬((((sIx items.size 0 lo:Nat):Int) == 0 && (1:Int) == 1 && (sIx items.size items.size hi - sIx items.size 0 lo) == items.size)=true):=by
  intro q;rw[iO,iO]at q;have q1:((sIx items.size 0 lo:Nat):Int)=0:=eq_of_beq q.1.1;have q2:sIx items.size items.size hi - sIx items.size 0 lo=items.size:=eq_of_beq q.2;exact hw ⟨by lia,by lia⟩
 show aM _ _ (if (((sIx items.size 0 lo:Nat):Int) == 0 && (1:Int) == 1 && (sIx items.size items.size hi - sIx items.size 0 lo) == items.size)=true then _ else _) _ _ s
 rw[if_neg hno,Nr]
 first
  |exact aC (m:=iX _) (hZ (wpAny_pure ⟨_,rfl,wpAny_pure h⟩) htake)
  |exact aC (m:=iX _) (hZ (aC (wpAny_pure (wpAny_pure ⟨_,rfl,wpAny_pure h⟩))) htake)
  |exact aC (aC (m:=iX _) (hZ (wpAny_pure (wpAny_pure ⟨_,rfl,wpAny_pure h⟩)) htake))
  |exact aC (aC (m:=iX _) (hZ (wpAny_pure ⟨_,rfl,wpAny_pure h⟩) htake))
end
end HT
namespace L2
open PySem PySem.Spec PyProof.Rows
abbrev TO:=St->Hp->(Option Int->Hp->Prop)->Prop
def PO (X:Cx)(e:Option Expr)(t:TO):Prop:=
 ∀(pins:List (Addr×Obj))(s:aI) (σ:St) (H:Hp) (Q:Option Int->Hp->Prop),Inv X pins σ H s->t σ H Q->
  aM (aX X.prog X.w) X.A (evalPart e X.env) (λu s'=>∃o H',Inv X pins σ H' s'/\uR u o/\Q o H') X.xe s
def we:TO:=λ_ H Q=>Q none H
def Cd (t:TE):TO:=λσ H Q=>t σ H λx H1=>∃i,x=.int i/\Q (some i) H1
section
variable {X:Cx}{e:Expr}{te:TE}{lo hi:Option Expr}{tl th:TO}{pos p2:Pos}
theorem dh:PO X none we:=by
 intro pins s σ H Q I h;rw[wH];exact wpAny_pure ⟨none,H,I,.none,h⟩
theorem c7 (h:PE X e te):PO X (some e) (Cd te):=by
 intro pins s σ H Q I hw;rw[evalPart_some];refine thn (h pins s σ H _ I hw) λu s1 h0_=>?_;obtain⟨x,H1,I1,r1,q1⟩:=h0_;obtain⟨i,rfl,q⟩:=q1;obtain⟨t,rfl⟩:=r1;exact⟨some i,H1,I1,.int i t,q⟩
def SlR (X:Cx)(r:V->Option Int->Option Int->Hp->VK->Prop):Prop:=
 ∀(pins:List (Addr×Obj))(s:aI) (σ:St) (H:Hp) (x:V) (v vl vu:aB) (lo hi:Option Int) (sl:Addr) (Q:VK),Inv X pins σ H s->RelV x v->s.heap.IsSliceOf sl vl vu .none->uR vl lo->uR vu hi->r x lo hi H Q->
  ∃T id,iU (.type T) "__getitem__"=pure (some (.builtin id))/\s.TypeIs v T/\aM (aX X.prog X.w) X.A (qM v (.ref sl)) (EP X pins σ Q) X.xe s
def tSl (r:V->Option Int->Option Int->Hp->VK->Prop)(te:TE)(tl th:TO):TE:=λσ H Q=>te σ H λx H1=>tl σ H1 λl H2=>th σ H2 λu H3=>r x l u H3 Q
theorem cq {r:V->Option Int->Option Int->Hp->VK->Prop}(hr:SlR X r)(he:PE X e te)(hl:PO X lo tl)(hu:PO X hi th):PE X (.Subscript e (.Slice lo hi none p2) pos) (tSl r te tl th):=by
 intro pins s σ H Q I h;refine Subscript_ (thn (he pins s σ H _ I h) λv s1 h0_=>?_);obtain⟨x,H1,I1,r1,q1⟩:=h0_;refine wpAny_Slice (thn (hl pins s1 σ H1 _ I1 q1) λvl s2 h0_=>?_);obtain⟨l,H2,I2,pl,q2⟩:=h0_;refine thn (hu pins s2 σ H2 _ I2 q2) λvu s3 h0_=>?_;obtain⟨u,H3,I3,pu,q3⟩:=h0_;rw[wH];refine wpAny_pure ?_;have I4:Inv X pins σ H3 { s3 with heap:=s3.heap.push { cls:=.type "slice",data:=.fields #[vl,vu,.none] } }:=I3.kept (t':=s3.toks) λb ob q=>aJ _ q;obtain⟨T,id,hT,ht,hg⟩:=hr pins { s3 with heap:=s3.heap.push { cls:=.type "slice",data:=.fields #[vl,vu,.none] } } σ H3 x v vl vu l u s3.heap.objs.size Q I4 r1 (Heap.IsSliceOf.new ..) pl pu q3;show aM (aX X.prog X.w) X.A (tV e (.Slice lo hi none p2) v (.ref s3.heap.objs.size)) (EP X pins σ Q) X.xe { s3 with heap:=s3.heap.push { cls:=.type "slice",data:=.fields #[vl,vu,.none] } };exact tail_any (ops:=[.ref s3.heap.objs.size,v]) ht hT hg (by with_unfolding_all rfl)
def fq (xs:List V)(lo hi:Option Int):List V:=(xs.drop (HT.sIx xs.length 0 lo)).take (HT.sIx xs.length xs.length hi - HT.sIx xs.length 0 lo)
theorem wx (xs:List V)(lo hi:Option Int):(fq xs lo hi).length<=xs.length:=by
 unfold fq;rw[cQ,iH];lia
def Ai (K:aA):V->Option Int->Option Int->Hp->VK->Prop:=λx lo hi H Q=>∃a xs,x=.ref a/\SqT K H a xs/\
 ¬(HT.sIx xs.length 0 lo=0/\HT.sIx xs.length xs.length hi=xs.length)/\∀p,H p=none->Q (.ref p) (upd H p (.tup (fq xs lo hi)))
theorem vc:SlR X (Ai X.K):=by
 intro pins s σ H x v vl vu lo hi sl Q I rx hs pl pu h;obtain⟨a,xs,rfl,hx,hw,q⟩:=h;cases rx;obtain⟨its,r,ht,hz⟩:=I.tuple hx;have hlen:its.toArray.size=xs.length:=(by rw[aY];exact r.length.symm);refine⟨"tuple",_,PyProof.Rows.slot_tuple_getitem.lookup,ht.typeIs,?_⟩;refine HT.getItem_tuple_cut ht hs pl pu (by rw[hlen];exact hw) ?_ (by rw[hlen];exact hz);rw[hlen];refine⟨.ref s.heap.objs.size,_,I.laid (t':=s.toks) (o:=.tup (fq xs lo hi)) (λb ob q=>aJ _ q) (aO _) ?_,rfl,q _ (I.hok.fresh (aO _))⟩;exact⟨bK (wx xs lo hi) hz,_,(r.drop (HT.sIx xs.length 0 lo)).take (HT.sIx xs.length xs.length hi - HT.sIx xs.length 0 lo),wU _ _⟩
def mf (K:aA):R2:=λx y H Q=>∃a b xs ys,x=.ref a/\y=.ref b/\SqT K H a xs/\SqT K H b ys/\xs≠[]/\xs.length+ys.length<=sizeLine/\
 (ys=[]->Q (.ref a) H)/\(ys≠[]->∀p,H p=none->Q (.ref p) (upd H p (.tup (xs++ys))))
theorem Vals.nil_iff {xs:List V}{us:List aB}(r:Vals xs us):us=[]↔xs=[]:=by
 cases r with
 |nil=>simp
 |cons _ _=>simp
theorem Rb:OpR X (jS .Add) (mf X.K):=by
 intro pins s σ H x y v u Q I rx ry h;obtain⟨a,b,xs,ys,rfl,rfl,ha,hb,hx,hz,q1,q2⟩:=h;cases rx;cases ry;obtain⟨its,r1,p1,_⟩:=I.tuple ha;obtain⟨its2,r2,p2,_⟩:=I.tuple hb;refine HT.cat_tup p1 p2 (λz=>hx (r1.nil_iff.mp z)) (λz=>⟨.ref a,H,I,rfl,q1 (r2.nil_iff.mp z)⟩) (λz=>?_) (by rw[<-r1.length,<-r2.length];exact hz);refine⟨.ref s.heap.objs.size,_,I.laid (t':=s.toks) (o:=.tup (xs++ys)) (λb ob q=>aJ _ q) (aO _) ?_,rfl,q2 (λw=>z (r2.nil_iff.mpr w)) _ (I.hok.fresh (aO _))⟩;exact⟨by rw[aN];exact hz,_,r1.append r2,wU _ _⟩
end
end L2
namespace L2
open PySem PySem.Spec PyProof.Rows
def ixN (n:Nat)(i:Int):Option Nat:=if 0<=i then (if i < n then some i.toNat else none)else if -(n:Int)<=i then some (i+n).toNat else none
def atI {α:Type}(xs:List α)(i:Int):Option α:=(ixN xs.length i).bind λj=>xs[j]?
theorem Fr {n:Nat}{i:Int}{j:Nat}(h:ixN n i=some j):seqIndex? i n=some j/\j < n/\-(n:Int)<=i/\i < n:=by
 unfold ixN at h;by_cases h0:0<=i
 ·rw[if_pos h0]at h;by_cases h1:i < n
  ·rw[if_pos h1]at h;have e:i.toNat=j:=eQ h;exact⟨by rw[xI h0 h1,e],by lia,by lia,h1⟩
  ·rw[if_neg h1]at h;cases h
 ·rw[if_neg h0]at h;by_cases h1:-(n:Int)<=i
  ·rw[if_pos h1]at h;have e:(i+n).toNat=j:=eQ h;exact⟨by rw[seqIndex_neg (by lia) h1,e],by lia,h1,by lia⟩
  ·rw[if_neg h1]at h;cases h
theorem Aj {α:Type}{xs:List α}{i:Int}{v:α}(h:atI xs i=some v):∃j,seqIndex? i xs.length=some j/\xs[j]?=some v/\j < xs.length/\-(xs.length:Int)<=i/\i < xs.length:=by
 unfold atI at h;cases e:ixN xs.length i with
 |none=>rw[e]at h;cases h
 |some j=>
  rw[e]at h;obtain⟨h1,h2,h3,h4⟩:=Fr e;exact⟨j,h1,h,h2,h3,h4⟩
theorem bh {α:Type}{xs:List α}{j:Nat}{v:α}(h:xs[j]?=some v):atI xs (j:Int)=some v:=by
 have hj:j < xs.length:=(aK.mp h).1;have e:ixN xs.length (j:Int)=some j:=by
  unfold ixN;rw[if_pos (by lia),if_pos (by lia)];simp
 unfold atI;rw[e];exact h
theorem Nt {α:Type}(xs:List α)(v:α):atI (xs++[v]) (-1)=some v:=by
 have hl:(xs++[v]).length=xs.length+1:=(by simp);have e:ixN (xs++[v]).length (-1)=some xs.length:=by
  unfold ixN;rw[hl,if_neg (by decide),if_pos (by lia)];congr 1;lia
 unfold atI;rw[e];show(xs++[v])[xs.length]?=some v;simp
def Rc (b:Expr):Prop:=∀o i,vN b false o i=operate [o,i] (qM o i)
def IxR (X:Cx)(r:R2):Prop:=
 ∀(value slice:Expr)(pins:List (Addr×Obj)) (s:aI) (σ:St) (H:Hp) (x y:V) (v u:aB) (Q:VK),Inv X pins σ H s->RelV x v->RelV y u->r x y H Q->
  vN slice false v u=operate [v,u] (qM v u)->aM (aX X.prog X.w) X.A (tV value slice v u) (EP X pins σ Q) X.xe s
def MtR (X:Cx)(id:String)(r:V->List V->Hp->VK->Prop):Prop:=
 ∀(pins:List (Addr×Obj))(s:aI) (σ:St) (H:Hp) (x:V) (xs:List V) (v:aB) (us:List aB) (Q:VK),Inv X pins σ H s->RelV x v->Vals xs us->r x xs H Q->
  aM (aX X.prog X.w) X.A (call (.builtin id) (v::us)) (EP X pins σ Q) X.xe s
section
variable {X:Cx}{a b:Expr}{ta tb:TE}{pos:Pos}
theorem aq {r:R2}(hr:IxR X r)(ha:PE X a ta)(hb:PE X b tb)(hs:Rc b):PE X (.Subscript a b pos) (tOp r ta tb):=by
 intro pins s σ H Q I h;exact Subscript_ (Nh ha hb I h λv u s2 x y H2 I2 rx ry q=>hr a b pins s2 σ H2 x y v u Q I2 rx ry q (hs _ _))
def xm (K:aA):R2:=λx y H Q=>∃p xs i v,x=.ref p/\y=.int i/\SqL K H p xs/\atI xs i=some v/\Q v H
def Ak (K:aA):R2:=λx y H Q=>∃p xs i v,x=.ref p/\y=.int i/\SqT K H p xs/\atI xs i=some v/\Q v H
def rIxS:R2:=λx y H Q=>∃z i c,x=.str z/\y=.int i/\z.length<=sizeLine/\atI z.cps.toList i=some c/\Q (.str ⟨#[c]⟩) H
theorem aw:IxR X (xm X.K):=by
 intro value slice pins s σ H x y v u Q I rx ry h hs;obtain⟨p,xs,i,z,rfl,rfl,hq,he,q⟩:=h;cases rx;obtain⟨t,rfl⟩:=ry;obtain⟨its,r,pl,hz⟩:=I.list hq;obtain⟨j,h1,h2,h3,h4,h5⟩:=Aj he;obtain⟨w,ew,rw'⟩:=r.get h2;have hl:=r.length;have hn:=qc;have fin:EP X pins σ Q w s:=⟨z,H,I,rw',q⟩;by_cases h0:0<=i
 ·have hj:i.toNat=j:=by
   rw[xI h0 h5]at h1;exact eQ h1
  exact item_listR pl.isList h0 (by lia) (by rw[hj];simpa using ew) fin hs
 ·have hj:(i+(its.toArray.size:Int)).toNat=j:=by
   rw[seqIndex_neg (by lia) h4]at h1;rw[aY,<-hl];exact eQ h1
  exact subscriptTail_builtinR (x:=w) pl.isList.typeIs slot_list_getitem.lookup
   (wpAny_getItem_list_neg (Q:=λr s'=>r=w/\EP X pins σ Q r s') pl.isList (by lia) (by rw[aY]<;>lia) (by lia) (by rw[hj];simpa using ew) ⟨rfl,fin⟩) hs
theorem cf:IxR X (Ak X.K):=by
 intro value slice pins s σ H x y v u Q I rx ry h hs;obtain⟨p,xs,i,z,rfl,rfl,hq,he,q⟩:=h;cases rx;obtain⟨t,rfl⟩:=ry;obtain⟨its,r,pl,hz⟩:=I.tuple hq;obtain⟨j,h1,h2,h3,h4,h5⟩:=Aj he;obtain⟨w,ew,rw'⟩:=r.get h2;have hl:=r.length;have hn:=qc;have fin:EP X pins σ Q w s:=⟨z,H,I,rw',q⟩;exact subscriptTail_builtinR (x:=w) pl.typeIs slot_tuple_getitem.lookup
  (getItem_tuple (j:=j) (Q:=λr s'=>r=w/\EP X pins σ Q r s') pl (by lia) (by lia) (by rw[aY,<-hl];exact h1) (by simpa using ew) ⟨rfl,fin⟩) hs
theorem Um:IxR X rIxS:=by
 intro value slice pins s σ H x y v u Q I rx ry h hs;obtain⟨z,i,c,rfl,rfl,hz,he,q⟩:=h;obtain⟨t,rfl⟩:=rx;obtain⟨t',rfl⟩:=ry;obtain⟨j,h1,h2,h3,h4,h5⟩:=Aj he;have hl:z.cps.toList.length=z.length:=(by simp[Str.length]);rw[hl]at h1 h4 h5;have hn:=qc;exact tail_any (xU s z t) slot_str_getitem.lookup (getItem_str (c:=c) (by
   have e1:decide (i < -(2 ^ 63:Int))=false:=decide_eq_false (by lia);have e2:decide (i>=2 ^ 63)=false:=decide_eq_false (by lia);rw[e1,e2,wI]) (by rw[h1];simpa using h2) ⟨.str ⟨#[c]⟩,H,I.tok _,⟨_,rfl⟩,q⟩) hs
theorem Hr (its:List aB)(n j:Nat)(u:aB):rX (·.setIfInBounds j u) { cls:=.type "list",data:=.seq its.toArray n }={ cls:=.type "list",data:=.seq (its.set j u).toArray n }:=by
 simp[rX]
theorem Inv.lst {pins:List (Addr×Obj)}{σ:St}{H:Hp}{s:aI}{p:Addr}{xs:List V}(I:Inv X pins σ H s)(h:H p=some (.lst xs)) :
  ∃(its:List aB)(n:Nat),Vals xs its/\s.heap.get? p=some { cls:=.type "list",data:=.seq its.toArray n }/\xs.length<=sizeLine:=by
 obtain⟨z,its,n,r,e⟩:=I.hok p _ h;exact⟨its,n,r,e,z⟩
theorem Inv.lstUpd {pins:List (Addr×Obj)}{σ:St}{H:Hp}{s:aI}{p:Addr}{xs ys:List V}{its its':List aB}{n n':Nat}{f:Obj->Obj}(I:Inv X pins σ H s)(h:H p=some (.lst xs))
  (ho:s.heap.get? p=some { cls:=.type "list",data:=.seq its.toArray n }) (hf:f { cls:=.type "list",data:=.seq its.toArray n }={ cls:=.type "list",data:=.seq its'.toArray n' }) (r:Vals ys its') (hz:ys.length<=sizeLine) (t:Nat) :
  Inv X pins σ (upd H p (.lst ys)) { s with heap:=s.heap.update p f,toks:=t }:=by
 have e:(s.heap.update p f).get? p=some { cls:=.type "list",data:=.seq its'.toArray n' }:=by
  rw[jP f ho (by rw[hf]<;>rfl),hf]
 refine I.write (x:=p) (e:=p) (by rw[h];trivial) (.inl rfl) (λb u hb q=>(jH _ _ (gH hb)).trans q) ⟨_,e⟩ ?_;exact⟨hz,its',n',r,e⟩
def Wj:V->V->V->Hp->(Hp->Prop)->Prop:=λo i v H Q=>∃p xs k j,o=.ref p/\i=.int k/\H p=some (.lst xs)/\ixN xs.length k=some j/\Q (upd H p (.lst (xs.set j v)))
theorem C1:Ng X Wj:=by
 intro pins s σ H o i v ov iv u Q I ro ri rv h;obtain⟨p,xs,k,j,rfl,rfl,hp,hj,q⟩:=h;cases ro;obtain⟨t,rfl⟩:=ri;obtain⟨its,n,r,ho,hz⟩:=I.lst hp;obtain⟨h1,h2,h3,h4⟩:=Fr hj;have hl:=r.length;have hn:=qc;have I':Inv X pins σ (upd H p (.lst (xs.set j v))) { s with heap:=s.heap.update p (rX (·.setIfInBounds j u)) }:=
  I.lstUpd hp ho (Hr its n j u) (r.set rv j) (by rw[vH];exact hz) s.toks
 by_cases h0:0<=k
 ·have hk:k.toNat=j:=by
   rw[xI h0 h4]at h1;exact eQ h1
  exact PySem.W.ki_setAt ho h0 (by lia) (by rw[aY,<-hl];exact h4) (by rw[hk];exact⟨_,I',q⟩)
 ·have hk:(k+(its.toArray.size:Int)).toNat=j:=by
   rw[seqIndex_neg (by lia) h3]at h1;rw[aY,<-hl];exact eQ h1
  exact PySem.W.ki_setBack ho (by lia) (by rw[aY,<-hl];exact h3) (by lia) (by rw[hk];exact⟨_,I',q⟩)
theorem C3 (lo hi:Option Int)(n:Nat):(pQ lo hi none n).1=((HT.sIx n 0 lo:Nat):Int)/\(pQ lo hi none n).2.1=((HT.sIx n n hi:Nat):Int)/\(pQ lo hi none n).2.2=1:=by
 refine⟨?_,?_,rfl⟩
 ·cases lo with
  |none=>simp[pQ,HT.sIx]
  |some i=>
   simp only[pQ,HT.sIx,Option.getD_none,show(1:Int) > 0 by decide,if_true];by_cases h:i < 0
   ·simp only[h,if_true]<;>lia
   ·simp only[h,if_false]<;>lia
 ·cases hi with
  |none=>simp[pQ,HT.sIx]
  |some i=>
   simp only[pQ,HT.sIx,Option.getD_none,show(1:Int) > 0 by decide,if_true];by_cases h:i < 0
   ·simp only[h,if_true]<;>lia
   ·simp only[h,if_false]<;>lia
theorem Cc (its:List aB)(lo hi:Option Int):slicePick its.toArray lo hi none=((its.drop (HT.sIx its.length 0 lo)).take (HT.sIx its.length its.length hi - HT.sIx its.length 0 lo)).toArray:=by
 obtain⟨h1,h2,h3⟩:=C3 lo hi its.toArray.size;unfold slicePick;rw[h1,h2,h3];simp only[sliceRange_one,pick_run,aY]<;>rfl
def Nu (K:aA):V->Option Int->Option Int->Hp->VK->Prop:=λx lo hi H Q=>∃a xs,x=.ref a/\SqL K H a xs/\∀p,H p=none->Q (.ref p) (upd H p (.lst (fq xs lo hi)))
theorem fj:SlR X (Nu X.K):=by
 intro pins s σ H x v vl vu lo hi sl Q I rx hs pl pu h;obtain⟨a,xs,rfl,hx,q⟩:=h;cases rx;obtain⟨its,r,ht,hz⟩:=I.list hx;have hlen:=r.length;refine⟨"list",_,slot_list_getitem.lookup,ht.isList.typeIs,?_⟩;refine wpAny_getItem_list_slice ht.isList hs pl pu .none (by simp) ?_ (by rw[aY]<;>lia);rw[Cc,<-hlen];refine⟨.ref s.heap.objs.size,_,I.laid (t':=s.toks) (o:=.lst (fq xs lo hi)) (λb ob q=>aJ _ q) (aO _) ?_,rfl,q _ (I.hok.fresh (aO _))⟩;exact⟨bK (wx xs lo hi) hz,_,0,(r.drop (HT.sIx xs.length 0 lo)).take (HT.sIx xs.length xs.length hi - HT.sIx xs.length 0 lo),cJ _ rfl⟩
def oh:V->Bool
 | .non=>true
 | .bl _=>true
 | .int _=>true
 | .str _=>true
 |_=>false
def eqV:V->V->Bool
 | .non,.non=>true
 | .bl a,.bl b=>a == b
 | .bl a,.int b=>(if a then 1 else 0) == b
 | .int a,.bl b=>a == (if b then 1 else 0)
 | .int a,.int b=>a == b
 | .str a,.str b=>a == b
 |_,_=>false
theorem Kp {A:cW}{s:aI}{y x:V}{u v:aB}(ry:RelV y u)(rx:RelV x v)(fy:oh y=true)(fx:oh x=true):xW A s u v (eqV y x):=by
 cases y with
 |non=>
  cases ry;cases x with
  |non=>cases rx;exact SeqAt.EqAt.same _
  |bl b=>cases rx;exact SeqAt.EqAt.none_bool b
  |int b=>obtain⟨t,rfl⟩:=rx;exact SeqAt.EqAt.none_int b t
  |str b=>obtain⟨t,rfl⟩:=rx;exact SeqAt.EqAt.none_str b t
  |_=>exact absurd (show false=true from fx) cU
 |bl a=>
  cases ry;cases x with
  |non=>cases rx;exact SeqAt.EqAt.bool_none a
  |bl b=>cases rx;exact SeqAt.EqAt.bool_bool a b
  |int b=>obtain⟨t,rfl⟩:=rx;exact SeqAt.EqAt.bool_int a b t
  |str b=>obtain⟨t,rfl⟩:=rx;exact SeqAt.EqAt.bool_str a b t
  |_=>exact absurd (show false=true from fx) cU
 |int a=>
  obtain⟨t',rfl⟩:=ry;cases x with
  |non=>cases rx;exact SeqAt.EqAt.int_none a t'
  |bl b=>cases rx;exact SeqAt.EqAt.int_bool a t' b
  |int b=>obtain⟨t,rfl⟩:=rx;exact SeqAt.EqAt.int_int a t' b t
  |str b=>obtain⟨t,rfl⟩:=rx;exact SeqAt.EqAt.int_str a t' b t
  |_=>exact absurd (show false=true from fx) cU
 |str a=>
  obtain⟨t',rfl⟩:=ry;cases x with
  |non=>cases rx;exact SeqAt.EqAt.str_none a t'
  |bl b=>cases rx;exact SeqAt.EqAt.str_bool a t' b
  |int b=>obtain⟨t,rfl⟩:=rx;exact SeqAt.EqAt.str_int a t' b t
  |str b=>obtain⟨t,rfl⟩:=rx;exact SeqAt.EqAt.str_str a t' b t
  |_=>exact absurd (show false=true from fx) cU
 |_=>exact absurd (show false=true from fy) cU
def eqU (x:V)(u:aB):Bool:=match u with
 | .none=>eqV .non x
 | .bool b=>eqV (.bl b) x
 | .int i _=>eqV (.int i) x
 | .str z _=>eqV (.str z) x
 |_=>false
theorem Kq {x y:V}{u:aB}(r:RelV y u)(f:oh y=true):eqU x u=eqV y x:=by
 cases y with
 |non=>cases r;rfl
 |bl b=>cases r;rfl
 |int i=>obtain⟨t,rfl⟩:=r;rfl
 |str z=>obtain⟨t,rfl⟩:=r;rfl
 |_=>exact absurd (show false=true from f) cU
theorem Al {x:V}:∀{xs:List V}{us:List aB},Vals xs us->xs.all oh=true->us.any (eqU x)=xs.any λy=>eqV y x
 |_,_,.nil,_=>rfl
 |y::xs,u::us,.cons r t,f=>by
  rw[wJ,iO]at f;rw[oC,oC,Kq r f.1,Al t f.2]
theorem xn {A:cW}{s:aI}{x:V}{v:aB}(rx:RelV x v)(fx:oh x=true):∀{xs:List V}{us:List aB},Vals xs us->xs.all oh=true->∀u∈us,xW A s u v (eqU x u)
 |_,_,.nil,_=>λu hu=>by cases hu
 |y::xs,u::us,.cons r t,f=>λu' hu=>by
  rw[wJ,iO]at f;rcases cD.mp hu with rfl | hu
  ·rw[Kq r f.1];exact Kp r rx f.1 fx
  ·exact xn rx fx t f.2 u' hu
def inV (x:V)(xs:List V):Bool:=xs.any λy=>eqV y x
def rIn (K:aA)(neg:Bool):R2:=λx y H Q=>∃p xs,y=.ref p/\(SqL K H p xs\/SqT K H p xs)/\oh x=true/\xs.all oh=true/\Q (.bl (if neg then !inV x xs else inV x xs)) H
theorem lg:OpR X (kZ .In) (rIn X.K false):=by
 intro pins s σ H x y v u Q I rx ry h;obtain⟨p,xs,rfl,hq,fx,fs,q⟩:=h;cases ry;rcases hq with hq | hq
 ·obtain⟨its,r,pl,hz⟩:=I.list hq;refine SeqAt.in_listAt (eqU x) pl.isList (λw hw=>xn rx fx r fs w (by simpa using hw)) ⟨.bl _,H,I,rfl,?_⟩;rw[show its.toArray.any (eqU x)=its.any (eqU x)by simp,Al r fs];exact q
 ·obtain⟨its,r,pl,hz⟩:=I.tuple hq;refine SeqAt.in_tupleAt (eqU x) pl (λw hw=>xn rx fx r fs w (by simpa using hw)) ⟨.bl _,H,I,rfl,?_⟩;rw[show its.toArray.any (eqU x)=its.any (eqU x)by simp,Al r fs];exact q
theorem br:i9 X (.builtin "len") (λxs H Q=>∃p ys,xs=[.ref p]/\(SqL X.K H p ys\/SqT X.K H p ys)/\Q (.int ys.length) H):=by
 intro pins s σ H xs us Q I r h;obtain⟨p,ys,rfl,hq,q⟩:=h;obtain⟨u,rfl,rx⟩:=jg r;cases rx;have hn:=qc;rcases hq with hq | hq
 ·obtain⟨its,r',pl,hz⟩:=I.list hq;have hlen:=r'.length;exact Calls.call_len_list pl.isList (by simp only[aY]<;>lia) ⟨.int ys.length,H,I.tok _,⟨s.toks+1,by rw[aY,hlen]⟩,q⟩
 ·obtain⟨its,r',pl,hz⟩:=I.tuple hq;have hlen:=r'.length;exact len_tuple pl (by simp only[aY]<;>lia) ⟨.int ys.length,H,I.tok _,⟨s.toks+1,by rw[aY,hlen]⟩,q⟩
theorem oy:i9 X (.type "tuple") (λxs H Q=>∃p ys,xs=[.ref p]/\((SqL X.K H p ys/\∀l,H l=none->Q (.ref l) (upd H l (.tup ys)))\/(SqT X.K H p ys/\Q (.ref p) H))):=by
 intro pins s σ H xs us Q I r h;obtain⟨p,ys,rfl,h⟩:=h;obtain⟨u,rfl,rx⟩:=jg r;cases rx;rcases h with⟨hq,q⟩ | ⟨hq,q⟩
 ·obtain⟨its,r',pl,hz⟩:=I.list hq;have hlen:=r'.length;refine call_tuple_list pl.isList (λh' kp=>?_) (by simp only[aY]<;>lia);have I1:Inv X pins σ H { s with heap:=h' }:=I.kept (t':=s.toks) kp;have I2:Inv X pins σ (upd H h'.objs.size (.tup ys)) { s with heap:=h'.push { cls:=.type "tuple",data:=.seq its.toArray } }:=
   I1.laid (t':=s.toks) (λb o e=>aJ _ e) (aO _) (show ObjOk X.prog X.w _ _ _ (.tup ys)from⟨hz,its,r',wU _ _⟩)
  exact⟨.ref h'.objs.size,_,I2,rfl,q _ (I1.hok.fresh (aO _))⟩
 ·obtain⟨its,r',pl,hz⟩:=I.tuple hq;exact call_tuple_same pl ⟨.ref p,H,I,rfl,q⟩
def tyV (K:aA)(T:String)(x:V)(H:Hp):Prop:=match x with
 | .str _=>T="str"
 | .int _=>T="int"
 | .ref p=>(T="list"/\∃xs,SqL K H p xs)\/(T="tuple"/\∃o,K.lookup p=some o/\o.cls=.type "tuple"/\o.dict=none)\/
   (T="dict"/\((∃kvs,H p=some (.dK kvs))\/∃kvs,H p=some (.dT kvs)))\/(T="set"/\∃S n,H p=some (.set S n))
 |_=>False
theorem Kr {pins:List (Addr×Obj)}{σ:St}{H:Hp}{s:aI}{T:String}{x:V}{v:aB}(I:Inv X pins σ H s)(r:RelV x v)(ty:tyV X.K T x H) :
  s.TypeIs v T/\∀a,v=.ref a->∃ob,s.heap.get? a=some ob/\ob.dict=none:=by
 cases x with
 |str z=>
  obtain⟨t,rfl⟩:=r;cases(show T="str" from ty);exact⟨xU s z t,λ_ e=>nomatch e⟩
 |int i=>
  obtain⟨t,rfl⟩:=r;cases(show T="int" from ty);exact⟨uH s i t,λ_ e=>nomatch e⟩
 |ref p=>
  cases r;rcases ty with⟨rfl,xs,hq⟩ | ⟨rfl,o,hk,hc,hd⟩ | ⟨rfl,hk⟩ | ⟨rfl,S,n,hk⟩
  ·obtain⟨its,_,pl,_⟩:=I.list hq;refine⟨pl.isList.typeIs,λa e=>?_⟩;cases e;obtain⟨o,n,e,c,hd,_⟩:=pl;exact⟨o,e,hd⟩
  ·refine⟨⟨o,I.kIn p o hk,hc⟩,λa e=>?_⟩;cases e;exact⟨o,I.kIn _ o hk,hd⟩
  ·have z:∃o,s.heap.get? p=some o/\o.ExactDict:=by
    rcases hk with⟨kvs,hk⟩ | ⟨kvs,hk⟩
    ·obtain⟨_,_,_,_,o,_,_,e,ex,_⟩:=I.hok p _ hk;exact⟨o,e,ex⟩
    ·obtain⟨_,_,_,_,o,_,_,e,ex,_⟩:=I.hok p _ hk;exact⟨o,e,ex⟩
   obtain⟨o,e,ex⟩:=z;refine⟨⟨o,e,ex.1⟩,λa e2=>?_⟩;cases e2;exact⟨o,e,ex.2.1⟩
  ·obtain⟨o,_,_,_,e,ex,_⟩:=I.hok p _ hk;refine⟨⟨o,e,ex.1⟩,λa e2=>?_⟩;cases e2;exact⟨o,e,ex.2.1⟩
 |_=>exact gY ty
def Uo (K:aA)(T:String)(r:V->List V->Hp->VK->Prop)(to:TE):TE:=λσ H Q=>to σ H λx H1=>tyV K T x H1/\r x [] H1 Q
def tBM (K:aA)(T:String)(r:V->List V->Hp->VK->Prop)(to:TE)(t:TA):TE:=λσ H Q=>to σ H λx H1=>tyV K T x H1/\t σ H1 λxs H2=>r x xs H2 Q
variable {o e:Expr}{es:List Expr}{to:TE}{t:TA}{name:Str}{apos cpos:Pos}{T id:String}{r:V->List V->Hp->VK->Prop}
theorem yk (pa:wC T)(slot:Slot T name id)(hty:xX (.builtin id)=pure (.type "method_descriptor"))(hm:MtR X id r)(ho:PE X o to)
  (hbase:nJ o name X.env (eval o X.env)=eval o X.env:=by rfl) (hline:(apos.endLine == cpos.line)=true:=by rfl):PE X (.Call (.Attribute o name apos) [] [] cpos) (Uo X.K T r to):=by
 intro pins s σ H Q I h;refine wpAny_Call_method0_late hbase hline (thn (ho pins s σ H _ I h) λv s1 h0_=>?_);obtain⟨x,H1,I1,r1,ty,q1⟩:=h0_;obtain⟨h1,h2⟩:=Kr I1 r1 ty;exact⟨T,id,pa,slot,hty,h1,h2,Calls.callWith_builtin rfl (PySem.evalArgs_none (hm pins s1 σ H1 x [] v [] Q I1 r1 .nil q1))⟩
theorem gi (pa:wC T)(slot:Slot T name id)(hty:xX (.builtin id)=pure (.type "method_descriptor"))(hm:MtR X id r)(ho:PE X o to)(ha:PA X (e::es) t)
  (hbase:nJ o name X.env (eval o X.env)=eval o X.env:=by rfl)
  (hfew:((lE cpos (cZ (e::es) X.env)).all (λx=>!x.1) && (sY cpos (pP [] X.env)).all (λx=>x.1.isSome) && decide ((e::es).length+([]:List uI).length+(if ([]:List uI).isEmpty then 0 else 1) < 30))=true:=by rfl)
  (hline:(apos.endLine == cpos.line)=true:=by rfl) (hs:cZ (e::es) X.env=(false,eval e X.env)::cZ es X.env:=by rfl) (hplain:(lE cpos (cZ es X.env)).any (·.1)=false:=by rfl) :
  PE X (.Call (.Attribute o name apos) (e::es) [] cpos) (tBM X.K T r to t):=by
 intro pins s σ H Q I h;refine wpAny_Call_method_late hbase hfew hline rfl (thn (ho pins s σ H _ I h) λv s1 h0_=>?_);obtain⟨x,H1,I1,r1,ty,q1⟩:=h0_;obtain⟨h1,h2⟩:=Kr I1 r1 ty;refine⟨T,id,pa,slot,hty,h1,h2,?_⟩;have hA:=ha cpos pins s1 σ H1 _ I1 q1;rw[hs]at hA ⊢;refine Calls.callWith_builtin (by show(false || (lE cpos (cZ es X.env)).any (·.1))=false;rw[hplain]<;>rfl) (Calls.evalArgs_plain ?_);exact thn hA λus s2 h0_=>by obtain⟨vs,H2,I2,r2,q2⟩:=h0_;exact hm pins s2 σ H2 x vs v us Q I2 r1 r2 q2
end
end L2
namespace L2
open PySem PySem.Spec PyProof.Rows
def MtM (X:Cx)(id:String)(r:V->List V->Hp->VK->Prop):Prop:=
 ∀(pins:List (Addr×Obj))(s:aI) (σ:St) (H:Hp) (x:V) (xs:List V) (v:aB) (us:List aB) (Q:VK),Inv X pins σ H s->RelV x v->Vals xs us->r x xs H Q->
  aM (aX X.prog X.w) X.A (call (.builtin id) (v::us)) (EP X pins σ Q) X.xe s
theorem Vals.one:∀{x:V}{us:List aB},Vals [x] us->∃u,us=[u]/\RelV x u
 |_,_,.cons r .nil=>⟨_,rfl,r⟩
theorem Vals.zero:∀{us:List aB},Vals [] us->us=[]
 |_,.nil=>rfl
theorem Vals.dropLast {xs:List V}{us:List aB}(h:Vals xs us):Vals xs.dropLast us.dropLast:=by
 induction h with
 |nil=>exact .nil
 |cons r t ih=>
  cases t with
  |nil=>exact .nil
  |cons q t'=>exact .cons r ih
theorem Vals.reverse {xs:List V}{us:List aB}(h:Vals xs us):Vals xs.reverse us.reverse:=by
 induction h with
 |nil=>exact .nil
 |cons r t ih=>rw[lT,lT];exact Vals.append ih (.cons r .nil)
theorem Vals.rep {xs:List V}{us:List aB}(h:Vals xs us):∀k:Nat,Vals (dQ k xs).flatten (dQ k us).flatten
 |0=>.nil
 |k+1=>by
  rw[iQ,iQ,nL,nL];exact Vals.append h (Vals.rep h k)
theorem Hs {α:Type}(l:List α):l.eraseIdx (l.length - 1)=l.dropLast:=by
 induction l with
 |nil=>rfl
 |cons a r ih=>
  cases r with
  |nil=>rfl
  |cons b r=>
   have e:(a::b::r).length - 1=((b::r).length - 1)+1:=by
    have h1:(a::b::r).length=r.length+2:=rfl;have h2:(b::r).length=r.length+1:=rfl;lia
   rw[e,List.eraseIdx_cons_succ,ih]
   all_goals rfl
theorem Br (its:List aB):∀(k:Nat)(acc:List aB),
  xY (λx1 x2=>x1++x2) acc.toArray (dQ k its.toArray)=(acc++(dQ k its).flatten).toArray
 |0,acc=>by simp
 |k+1,acc=>by
  have e:acc.toArray++its.toArray=(acc++its).toArray:=(by simp);have e2:(acc++its)++(dQ k its).flatten=acc++(dQ (k+1) its).flatten:=by
   rw[iQ,nL,lU]
  rw[<-e2,<-Br its k (acc++its),<-e,iQ,List.foldl_cons]
section
variable {X:Cx}{pins:List (Addr×Obj)}{σ:St}{H:Hp}{s:aI}{l b:Addr}{xs ys zs:List V}
theorem Inv.lset {its its':List aB}{n:Nat}{f:Array aB->Array aB}{t':Nat}(I:Inv X pins σ H s)(hH:H l=some (.lst xs))
  (e:s.heap.get? l=some { cls:=.type "list",data:=.seq its.toArray n }) (hf:f its.toArray=its'.toArray) (hv:Vals ys its') (hz:ys.length<=sizeLine) :
  Inv X pins σ (upd H l (.lst ys)) { s with heap:=s.heap.update l (rX f),toks:=t' }:=by
 have q:=PySem.IsL.update e f;rw[hf]at q;refine I.write (x:=l) (e:=l) (by rw[hH];exact trivial) (.inl rfl) (λb' u hb hu=>(jH s.heap (rX f) (gH hb)).trans hu) ⟨_,q⟩ ?_;exact⟨hz,its',_,hv,q⟩
theorem Inv.lnew {its:List aB}{t':Nat}(I:Inv X pins σ H s)(hv:Vals ys its)(hz:ys.length<=sizeLine) :
  Inv X pins σ (upd H s.heap.objs.size (.lst ys)) { s with heap:=s.heap.push { cls:=.type "list",data:=.seq its.toArray },toks:=t' }:=
 I.laid (λ_ _ q=>aJ _ q) (aO _) ⟨hz,its,0,hv,cJ _ rfl⟩
theorem Inv.fresh (I:Inv X pins σ H s):H s.heap.objs.size=none:=I.hok.fresh (aO _)
theorem Inv.lstM (I:Inv X pins σ H s)(hH:H l=some (.lst xs)):xs.length<=sizeLine/\∃(its:List aB)(n:Nat),Vals xs its/\xs.length=its.length/\s.heap.get? l=some { cls:=.type "list",data:=.seq its.toArray n }:=by
 obtain⟨z,its,n,r,e⟩:=I.hok l _ hH;exact⟨z,its,n,r,r.length,e⟩
theorem xo {n:Nat}(h:n<=sizeLine):jT n=false:=by
 unfold jT;exact decide_eq_false (by lia)
end
section
variable {X:Cx}
def Re:V->List V->Hp->VK->Prop:=λx vs H Q=>∃l xs y,x=.ref l/\vs=[y]/\H l=some (.lst xs)/\xs.length < sizeLine/\Q .non (upd H l (.lst (xs++[y])))
theorem dy:MtM X "list.append" Re:=by
 intro pins s σ H x vs v us Q I rx rv h;obtain⟨l,xs,y,rfl,rfl,hH,hz,q⟩:=h;cases rx;obtain⟨u,rfl,ru⟩:=rv.one;obtain⟨z,its,n,r,hl,e⟩:=I.lstM hH;refine pC F.slot_list_append ⟨_,e,rfl⟩ F.entry_list_append (F.args_list_append_2 _ _) (PySem.list_append l its.toArray n u (by rw[aY];lia)) ⟨e,?_⟩;refine⟨.non,_,I.lset (its':=its++[u]) hH e (by simp) (r.append (.cons ru .nil)) ?_,rfl,q⟩;rw[aN,gF];lia
def Rf:V->List V->Hp->VK->Prop:=λx vs H Q=>∃l b xs zs,x=.ref l/\vs=[.ref b]/\H l=some (.lst xs)/\H b=some (.lst zs)/\xs.length+zs.length<=sizeLine/\Q .non (upd H l (.lst (xs++zs)))
theorem oq:MtM X "list.extend" Rf:=by
 intro pins s σ H x vs v us Q I rx rv h;obtain⟨l,b,xs,zs,rfl,rfl,hH,hB,hz,q⟩:=h;cases rx;obtain⟨u,rfl,ru⟩:=rv.one;cases ru;obtain⟨z,its,n,r,hl,e⟩:=I.lstM hH;obtain⟨z2,its2,n2,r2,hl2,e2⟩:=I.lstM hB;have hsz:its.toArray.size+its2.toArray.size<=sizeLine:=(by rw[aY,aY];lia);have hlong:¬(!its.toArray.isEmpty && jT (its.toArray.size+its2.toArray.size))=true:=by
  rw[xo hsz,vU];exact cU
 refine pC F.slot_list_extend ⟨_,e,rfl⟩ F.entry_list_extend (F.args_list_extend_2 _ _)
  (AutoSeq1.list_extend_list_list_0 l its.toArray n b its2.toArray n2 hlong (by rw[aY];lia) (by lia)) ⟨e,e2,?_⟩
 refine⟨.non,_,I.lset (its':=its++its2) hH e (by simp) (r.append r2) ?_,rfl,q⟩;rw[aN];lia
def rPop:V->List V->Hp->VK->Prop:=λx vs H Q=>∃l xs y,x=.ref l/\vs=[]/\H l=some (.lst xs)/\xs[xs.length - 1]?=some y/\Q y (upd H l (.lst xs.dropLast))
theorem C4:MtM X "list.pop" rPop:=by
 intro pins s σ H x vs v us Q I rx rv h;obtain⟨l,xs,y,rfl,rfl,hH,hy,q⟩:=h;cases rx;have hus:=rv.zero;subst hus;obtain⟨z,its,n,r,hl,e⟩:=I.lstM hH;obtain⟨u,hu,ru⟩:=r.get hy;have hy':its.toArray[its.toArray.size - 1]?=some u:=by
  show its.toArray[its.length - 1]?=some u;rw[<-Array.getElem?_toList,<-hl];exact hu
 refine pC F.slot_list_pop ⟨_,e,rfl⟩ F.entry_list_pop (F.args_list_pop_1 _) (MeetsSeq.list_pop_last l its.toArray n u hy' (by rw[aY];lia)) ⟨e,?_⟩;refine⟨y,_,I.lset (its':=its.dropLast) hH e ?_ r.dropLast ?_,ru,q⟩
 ·show its.toArray.eraseIdxIfInBounds (its.toArray.size - 1)=its.dropLast.toArray;rw[aY,List.eraseIdxIfInBounds_toArray,Hs]
 ·rw[List.length_dropLast];lia
def rCat:R2:=λx y H Q=>∃l b xs zs,x=.ref l/\y=.ref b/\H l=some (.lst xs)/\H b=some (.lst zs)/\xs.length+zs.length<=sizeLine/\∀p,H p=none->Q (.ref p) (upd H p (.lst (xs++zs)))
theorem gf:OpR X (jS .Add) rCat:=by
 intro pins s σ H x y v u Q I rx ry h;obtain⟨l,b,xs,zs,rfl,rfl,hH,hB,hz,q⟩:=h;cases rx;cases ry;obtain⟨z,its,n,r,hl,e⟩:=I.lstM hH;obtain⟨z2,its2,n2,r2,hl2,e2⟩:=I.lstM hB;refine PySem.P.add_list e e2 ?_ (by rw[aY,aY];lia);have ea:its.toArray++its2.toArray=(its++its2).toArray:=(by simp);rw[ea];exact⟨.ref _,_,I.lnew (t':=s.toks) (r.append r2) (by rw[aN];lia),rfl,q _ I.fresh⟩
def rRep:R2:=λx y H Q=>∃l k xs,x=.ref l/\y=.int k/\H l=some (.lst xs)/\-(2 ^ 63)<=k/\k < 2 ^ 63/\xs.length * k.toNat<=sizeLine/\
 ∀p,H p=none->Q (.ref p) (upd H p (.lst (dQ k.toNat xs).flatten))
theorem Rg {α:Type}(xs:List α)(k:Nat):(dQ k xs).flatten.length=k * xs.length:=by
 induction k with
 |zero=>simp
 |succ k ih=>rw[iQ,nL,aN,ih,wV,iY]
theorem C5:OpR X (jS .Mult) rRep:=by
 intro pins s σ H x y v u Q I rx ry h;obtain⟨l,k,xs,rfl,rfl,hH,h1,h2,hz,q⟩:=h;cases rx;obtain⟨t,rfl⟩:=ry;obtain⟨z,its,n,r,hl,e⟩:=I.lstM hH;have hlen:its.toArray.size * k.toNat<=sizeLine:=(by rw[aY,<-hl];exact hz);have hcap:¬its.toArray.size * k.toNat > (2 ^ 63 - 1) / 8:=by
  have:(sizeLine:Nat)<=(2 ^ 63 - 1) / 8:=(by decide);lia
 have hfit:¬(!Builtin.List.listFitsIndex k)=true:=by
  rw[fitsIndex_both h1 h2];exact cU
 have hlong:¬jT (its.toArray.size * k.toNat)=true:=by
  rw[xo hlen];exact cU
 have hnew:xY (λx1 x2=>x1++x2) #[] (dQ (if its.toArray.isEmpty=true then 0 else k.toNat) its.toArray)=(dQ k.toNat its).flatten.toArray:=by
  have f0:∀m:Nat,xY (λx1 x2=>x1++x2) #[] (dQ m its.toArray)=(dQ m its).flatten.toArray:=λm=>by
   have:=Br its m [];rw[List.nil_append]at this;exact this
  rw[f0];cases its with
  |nil=>simp
  |cons a r'=>rw[if_neg (by simp)]
 refine wpAny_binaryOp_repeat_ref (T:="list") (U:="int") (by decide) ⟨_,e,rfl⟩ (λs'=>uH s' k t) noFill_list_mul F.fills_int_mul F.slot_int_rmul repeat_list F.slot_int_index.lookup
  (pC F.slot_int_rmul (uH s k t) F.entry_int_rmul (F.args_int_rmul_2 _ _) (int___rmul___int_list k t l its.toArray n) ⟨e,rfl,⟨_,e,rfl⟩,pC F.slot_list_mul ⟨_,e,rfl⟩ F.entry_list_mul (F.args_list_mul_2 _ _) (AutoListH.list___mul___list_int_3 l its.toArray n k t hfit hcap hlong) ⟨e,?_⟩⟩)
 rw[hnew];exact⟨.ref _,_,I.lnew (t':=s.toks) (r.rep k.toNat) (by rw[Rg,wW];exact hz),rfl,q _ I.fresh⟩
end
section
variable {prog:aS}{w:bZ}{A:cW}{E:aB->aI->Prop}{s:aI}
set_option maxRecDepth 100000 in
end
section
variable {X:Cx}
end
end L2
namespace Att
open PySem PySem.W PySem.Calls PyProof.Rows
theorem ym {P:Params}{h:Heap}:∀(ns:List Int)(vs:List aB),WellAll P h vs (ns.map WData.int)->xH vs ns:=by
 intro ns
 induction ns with
 |nil=>
  intro vs w;rw[wX]at w;cases w;exact .nil
 |cons n ns ih=>
  intro vs w;rw[fZ]at w;cases w with
  |cons a b=>
   cases a;exact .cons _ _ (ih _ b)
theorem Ks {l:rA}{n:Nat}(hn:l.most=some n){P:Params}{h:Heap}{args:List WData}{vals:List aB}
  (hpre:l.row.toRowW.claim.pre args=true) (hwl:WellAll P h vals args) :
  ∃a vs ns,vals=[cH a]/\args=[WData.list (ns.map WData.int)]/\h.get? a=some { cls:=.type "list",data:=.seq vs.toArray }/\xH vs ns/\ns.length<=n:=by
 have hsh:WShape.hasAll [] args [.list .int]=true:=(pre_splitW hpre).1;have hc:l.pre.holds [] { args:=args }=true:=(pre_splitW hpre).2;obtain⟨d,r,rfl,h1,h2⟩:=hasAllW_cons hsh;obtain rfl:=hasAllW_nil h2;obtain⟨xs,rfl,h3⟩:=hasW_list h1;obtain⟨ns,rfl⟩:=items_int h3;have hlen:ns.length<=n:=by
  unfold OpenLaw.pre at hc;have h4:(WTm.not (.lt (.lit (.int (n:Int))) (.len (.arg 0)))).holds [] { args:=[.list (ns.map .int)] }=true:=by
   have h4:=(holds_andW hc).1;rw[hn]at h4;exact h4
  have h5:=condW_of h4 (w_not (w_lt w_lit (w_len_list (w_arg rfl))));rw[aG]at h5;refine rE λq=>?_;have q':(n:Int) < ((ns.length:Nat):Int):=by lia
  first
   | (rw[decide_eq_true q']at h5;exact absurd h5 (by decide))
   | (simp at h5;lia)
 cases hwl with
 |cons w1 w2=>
  cases w2;cases w1 with
  |list ho hall=>exact⟨_,_,ns,rfl,rfl,ho,ym ns _ hall,hlen⟩
theorem Kt (l:rA)(args:List WData):l.row.toRowW.claim.post args (.bool true) args=true:=
 postW_of (r:=l.row.toRowW) (X:=(true == true))
  (show WShape.has [] (.bool true) .bool=true by first | rfl | decide | simp[WShape.has,WShape.arms,WShape.armsAll])
  (show(WTm.eq .res (.lit (.bool true))).value [] { args:=args,res:=some (.bool true),after:=args }=some (.bool (true == true))from w_eq_bool (w_res rfl) w_lit) rfl
theorem attach_call {l:rA}{n:Nat}{q:aS}{loose:List Str}{XP:(Str->Option aB)->Heap->Prop}{YP:bZ->Heap->Prop}{d:DefRec}
  (hn:l.most=some n) (hdf:d.params.defaults=[])
  (call:∀(w:bZ)(s₀ s₁:aI) (mg mb:Str->Option aB) (fa:Addr) (o:Obj) (pm cd doc:aB) (a:Addr) (vs:List aB) (ns:List Int),Ground q loose [] XP w s₀ mg mb s₁.heap->YP w s₁.heap->s₁.heap.get? fa=some o->o.data=.func (docDef d.name d.params d.body d.scope pm cd doc)->s₁.heap.CodeRec cd d.name->mg d.name=some (.ref fa)->s₁.heap.get? a=some { cls:=.type "list",data:=.seq vs.toArray }->xH vs ns->ns.length<=n->s₁.gens=#[]->nQ (aX l.prog w) uJ (.call (.ref fa) ⟨[.ref a],[]⟩) (λr s'=>r=.ok (.ret (.bool true))/\OldK s₁.heap s'.heap/\s'.os=s₁.os/\pO s'.gens) s₁) :
  WalkO q loose XP YP l.row.toRowW d [] (λf vs=>xZ f vs):=by
 intro w s₀ s₁ mg mb G Y fa o pm cd doc dV kV ho hd hcd hD hmg hg args vals as hpre hlay hrd hwl hlo;obtain rfl:dV=.none:=Dflts.none hD hdf;obtain rfl:kV=.none:=Dflts.noKw hD;obtain⟨a,vs,ns,rfl,rfl,hobj,hints,hlen⟩:=Ks hn hpre hwl;refine enter_call (nR (call w s₀ s₁ mg mb fa o pm cd doc a vs ns G Y ho (fd_plain hd) hcd hmg hobj hints hlen hg) λr s' hq=>?_);obtain⟨rfl,h2,h3,h4⟩:=hq;exact⟨.inl ⟨.bool true,.bool true,[],rfl,λ_=>rfl,.bool true,Kt l _,λ_=>⟨List.Pairwise.nil,λ_ hm=>(nomatch hm)⟩⟩,h2,h3,h4⟩
section
variable {prog:aS}{w:bZ}{A:cW}{E:aB->aI->Prop}{s:aI}{K:Frag}
def ledger (h:Heap)(L d:Addr):List (Addr×Obj):=(fK h.objs.size).filterMap λa=>if a=L\/a=d then none else (h.get? a).map λo=>(a,o)
end
end Att
namespace L2
open PySem PySem.Spec PyProof.Rows
theorem Bs:∀{vs:List aB}{ns:List Int},xH vs ns->Vals (ns.map V.int) vs
 |_,_,.nil=>.nil
 |_,_,.cons n t h=>.cons ⟨t,rfl⟩ (Bs h)
def Nv (H:Hp):Prop:=∀b,H b=none\/∃o xs,H b=some (.frz o (.lst xs))
theorem Nw {P:aS}{w:bZ}{K:aA}{mg mb:Str->Option aB}{CX:CXT}{k:Nat}{fa a:Addr}{fd:cC}{x:Str}{sp:Sp}{s₁:aI}{vs:List aB}{ns:List Int}
  (KX:K.In s₁.heap) (hns:s₁.heap.Ns aQ mg) (hb:s₁.heap.Ns xO mb) (hbb:∀x:Str,x≠"__name__"->mb x=lQ x) (hlim:s₁.heap.NoLimit) (hg:s₁.gens=#[])
  (ha:s₁.heap.get? a=some { cls:=.type "list",data:=.seq vs.toArray }) (hi:xH vs ns) (hl:ns.length<=sizeLine) (hr:Room k uJ)
  (F:∀base:Heap,K.In base->base.Ns aQ mg->FnOk P w K mg base CX k fa fd [x] sp) (hbind:∀(s:aI)(u:aB),vS s fd ⟨[u],[]⟩ [(x,u)])
  (hsp:∀H:Hp,Nv H->SqL K H a (ns.map V.int)->sp [.ref a] H (λv _=>v=.bl true) λ_ _ _=>False)
  (hCX:∀H e s',CX [] H s₁ (λ_ _ _=>False) e s'->False) :
  nQ (aX P w) uJ (.call (.ref fa) ⟨[.ref a],[]⟩) (λr s'=>r=.ok (.ret (.bool true))/\OldK s₁.heap s'.heap/\s'.os=s₁.os/\pO s'.gens) s₁:=by
 have rv:=Bs hi;have lenV:=hi.length;have core:∀H:Hp,Nv H->SqL K H a (ns.map V.int)->HOk P w H s₁.heap->(∀b,H b≠none->b=a)->(H a≠none->K.lookup a=none)->
   nQ (aX P w) uJ (.call (.ref fa) ⟨[.ref a],[]⟩) (λr s'=>r=.ok (.ret (.bool true))/\OldK s₁.heap s'.heap/\s'.os=s₁.os/\pO s'.gens) s₁:=by
  intro H hO hS hok hA hK;have base_of:∀{b:Addr}{o:Obj},s₁.heap.get? b=some o->H b=none->(jw s₁.heap H).get? b=some o:=λe n=>xh e n;have noA:∀{b:Addr}{o:Obj}{es:Array wY}{ep:Nat},s₁.heap.get? b=some o->o.data=.dict es ep->H b=none:=λ{b o es ep} e d=>by
   cases q:H b with
   |none=>rfl
   |some u=>
    have e':b=a:=hA b (by rw[q];simp);subst e';rw[ha]at e;cases e;have d':yO vs.toArray _=Data.dict es ep:=d;cases d'
  have nsK:∀{b:Addr}{m:Str->Option aB},s₁.heap.Ns b m->(jw s₁.heap H).Ns b m:=λ{b m} h0_=>(by obtain⟨o,es,ep,e,d,r⟩:=h0_;exact⟨o,es,ep,base_of e (noA e d),d,r⟩);have hKb:K.In (jw s₁.heap H):=λb o e=>base_of (KX b o e) (by
    cases q:H b with
    |none=>rfl
    |some u=>
      have e':b=a:=hA b (by rw[q];simp);subst e';rw[hK (by rw[q];simp)]at e;cases e)
  have hM:Mod K mg (jw s₁.heap H):=⟨hKb,nsK hns,⟨mb,nsK hb,hbb⟩,let ⟨mc,h1,h2⟩:=hlim;⟨mc,nsK h1,h2⟩⟩;have e0:Env0 P w K mg (jw s₁.heap H) uJ [] s₁ H:=⟨rfl,hM,λb o e=>Ad e,Nat.le_of_eq (Ka _ _),trivial,λb hb=>absurd (show b∈([]:List Addr)from hb) (by simp),hok,.of_eq hg⟩;refine nR ((F _ hKb (nsK hns)).run uJ [] s₁ H ⟨[.ref a],[]⟩ [.ref a] [.ref a] _ _ hr e0 (hbind s₁ (.ref a)) (.cons rfl .nil) (hsp H hO hS)) λr s' h=>?_;cases r with
  |error e=>exact(hCX H e s' h).elim
  |ok fl=>
   cases fl with
   |next=>exact gY h
   |brk=>exact gY h
   |cont=>exact gY h
   |ret u=>
    obtain⟨v,H',os,bare,un,hok',r',q⟩:=h;have q':v=.bl true:=q;subst q';obtain rfl:u=uG true:=r';refine⟨rfl,OldK.of_keep λb o e=>?_,os,bare⟩;cases q:H b with
    |none=>exact un.keep b o e q (by intro z;exact absurd (show b∈([]:List Addr)from z) (by simp)) (by simp)
    |some u=>
     rcases hO b with z | ⟨ob,xs,z⟩
     ·rw[q]at z;cases z
     ·have z2:=un.frzs b ob _ z;obtain⟨e1,_⟩:=hok b _ z;obtain⟨e2,_⟩:=hok' b _ z2;rw[e]at e1;cases e1;exact e2
 cases hk:K.lookup a with
 |some o=>
  have e:=KX a o hk;rw[ha]at e;cases e;refine core (λ_=>none) (λ_=>.inl rfl) (.inr ⟨_,vs.toArray,_,hk,rfl,rfl,rfl,by rw[aY,lenV];exact hl,by simpa using rv⟩) (λb u z=>by have z':(none:Option HO)=some u:=z;cases z') (λb z=>absurd rfl z) λz=>absurd rfl z
 |none=>
  refine core (λb=>if b=a then some (.frz { cls:=.type "list",data:=.seq vs.toArray } (.lst (ns.map V.int)))else none) (λb=>?_) (.inl (.inr ⟨{ cls:=.type "list",data:=.seq vs.toArray },if_pos rfl⟩)) (λb u z=>?_) (λb z=>?_) λ_=>hk
  ·by_cases hb:b=a
   ·exact .inr ⟨_,_,if_pos hb⟩
   ·exact .inl (if_neg hb)
  ·by_cases hb:b=a
   ·have z':=(if_pos hb).symm.trans z;cases z';subst hb;exact⟨ha,by rw[aG];exact hl,vs,_,rv,ha⟩
   ·have z':=(if_neg hb).symm.trans z;cases z'
  ·by_cases hb:b=a
   ·exact hb
   ·exact absurd (if_neg hb) z
end L2
namespace L2
open PySem PySem.Spec PyProof.Rows
abbrev KOf {K:aA}{h:Heap}(_:K.In h):aA:=K
theorem walk_of {l:rA}{n k:Nat}{q:aS}{loose:List Str}{XP:(Str->Option aB)->Heap->Prop}{YP:bZ->Heap->Prop}{d:DefRec}{K:Params->aA}{CX:bZ->CXT}{sp:bZ->Sp}{x:Str}
  (hn:l.most=some n) (hn2:n<=sizeLine) (hdf:d.params.defaults=[]) (hr:Room k uJ)
  (hY:∀(w:bZ)(h:Heap),YP w h->(K w.params).In h)
  (F:∀(w:bZ)(mg:Str->Option aB) (fa:Addr) (h:Heap),(K w.params).In h->h.Ns aQ mg->mg d.name=some (.ref fa)->∃fd:cC,(∀(s:aI)(u:aB),vS s fd ⟨[u],[]⟩ [(x,u)])/\∀base:Heap,(K w.params).In base->base.Ns aQ mg->FnOk l.prog w (K w.params) mg base (CX w) k fa fd [x] (sp w))
  (hsp:∀(w:bZ)(H:Hp) (a:Addr) (ns:List Int),ns.length<=n->Nv H->SqL (K w.params) H a (ns.map V.int)->sp w [.ref a] H (λv _=>v=.bl true) λ_ _ _=>False)
  (hCX:∀(w:bZ)(H:Hp) (s:aI) (e:aB) (s':aI),CX w [] H s (λ_ _ _=>False) e s'->False) :
  PySem.W.WalkO q loose XP YP l.row.toRowW d [] (λf vs=>xZ f vs):=by
 refine Att.attach_call hn hdf λw s₀ s₁ mg mb fa o pm cd doc a vs ns G Y ho hd hcd hmg hobj hints hlen hg=>?_;have KX:=hY w _ Y;obtain⟨fd,hb,hF⟩:=F w mg fa _ KX G.T.g hmg;exact Nw KX G.T.g G.T.b G.T.builtins G.T.nolimit hg hobj hints (bK hlen hn2) hr hF hb (λH hO hS=>hsp w H a ns hlen hO hS) λH e s'=>hCX w H s₁ e s'
end L2
namespace L2
open PySem PySem.Spec PyProof.Rows
def ig (s:Stmt)(j:Nat):Stmt:=match s with
 | .ClassDef _ _ _ body _ _ _ _ _ _ _=>body.getD j (.Pass ⟨0,0,0,0⟩)
 |_=>.Pass ⟨0,0,0,0⟩
def ef (s:Stmt):Arguments:=match s with
 | .FunctionDef _ a _ _ _ _ _ _ _ _=>a
 |_=>{ posonlyargs:=[],args:=[],vararg:=none,kwonlyargs:=[],kw_defaults:=[],kwarg:=none,defaults:=[] }
def dj (s:Stmt):List Stmt:=match s with
 | .FunctionDef _ _ b _ _ _ _ _ _ _=>b
 |_=>[]
def aj (s:Stmt):gG:=match s with
 | .FunctionDef _ _ _ _ _ _ sc _ _ _=>sc
 |_=>{ kind:=.function,names:=[],isGenerator:=false,isCoroutine:=false }
abbrev CX0:CXT:=λ_ _ _ _ _ _=>False
abbrev E0:XK:=λ_ _ _=>False
theorem az {X:Cx}:lq CX0 X E0:=λ_ _ _ _ _ _ _ h=>h.elim
structure Fun (K:aA)(x qual:Str)(st:Stmt)(f:Addr)(fd:cC):Prop where
 ex:∃(oc:aB)(od:Option Addr) (kV doc pm:aB) (an:Option Addr) (cdv ct:aB) (osl:Array (Option aB)),
  fd=gS x qual (ef st) (dj st) (aj st) .none kV doc pm an cdv ct/\K.lookup f=some ⟨oc,od,.func fd,osl⟩/\jG K cdv qual=true
 kp:aU K (.ref f)=true
section
variable {P:aS}{w:bZ}{K:aA}{mg:Str->Option aB}{base:Heap}
theorem Fun.ok {x qual:Str}{st:Stmt}{f:Addr}{fd:cC}{N ps:List Str}{k:Nat}{sp:Sp}(F:Fun K x qual st f fd)(S:ar N ps (aj st))(len:∀vs H Q E,sp vs H Q E->vs.length=ps.length)
  (hbody:∀(cdv:aB)(A:cW) (outer:List Env) (s:aI) (H:Hp) (vs:List V) (Q:VK) (E:XK),Room k (A.deeper (qY qual (aj st) s.heap.objs.size f cdv))->sp vs H Q E->∃t,PSs (bf CX0 P w K mg base N qual (aj st) f cdv A outer s H E).nox (dj st) t/\t { nx:=λ_ H'=>Q .non H',rt:=Q } (start N vs) H):FnOk P w K mg base CX0 (k+1) f fd ps sp:=by
 obtain⟨oc,od,kV,doc,pm,an,cdv,ct,osl,rfl,lk,hcd⟩:=F.ex;refine P7 lk hcd S len λA outer s H vs Q E hr hsp=>?_;obtain⟨t,h,q⟩:=hbody cdv A outer s H vs Q E hr hsp;exact⟨t,h.nox,q⟩
theorem Fun.binds {x qual:Str}{st:Stmt}{f:Addr}{fd:cC}{ps:List Str}(F:Fun K x qual st f fd)
  (h:∀(kV doc pm:aB)(an:Option Addr) (cdv ct:aB) (us:List aB),us.length=ps.length->uO (gS x qual (ef st) (dj st) (aj st) .none kV doc pm an cdv ct) ⟨us,[]⟩=pure (ps.zip us)):Binds K fd ps []:=by
 obtain⟨oc,od,kV,doc,pm,an,cdv,ct,osl,rfl,lk,hcd⟩:=F.ex;exact .all (h kV doc pm an cdv ct)
theorem qe {x qual:Str}{st:Stmt}{f:Addr}{oc:aB}{od an:Option Addr}{osl:Array (Option aB)}{kV doc pm cdv ct:aB}(l:K.lookup f=some ⟨oc,od,.func (gS x qual (ef st) (dj st) (aj st) .none kV doc pm an cdv ct),osl⟩)
  (c:jG K cdv qual=true) (k:aU K (.ref f)=true):Fun K x qual st f (gS x qual (ef st) (dj st) (aj st) .none kV doc pm an cdv ct):=⟨⟨oc,od,kV,doc,pm,an,cdv,ct,osl,rfl,l,c⟩,k⟩
end
theorem Ht {A:cW}{k:Nat}(hr:Room k A):A.units+1 < iJ:=jU (sU (by decide:1<=64) _) hr.units
theorem bg {n:Nat}(h:n<=1000):n < sizeLine:=jU h (by decide)
section
variable {X:Cx}
theorem pv (i:Nat){x:Str}{pos:Pos}(hN:X.N[i]?=some x:=by rfl)(hv:Vis X.env.scope x:=by first | exact bV rfl | exact lJ (bV rfl) | exact lJ (lJ rfl))(hd:(x == ("__debug__":Str))=false:=by decide)
  (hcd:(x == ("__classdict__":Str))=false:=by decide):PE X (.Name x pos) (tm i):=Kb hN hv hd hcd
end
theorem cr {A B:Prop}(h:B):if false=true then A else B:=by
 rw[if_neg cU];exact h
theorem gw {A B:Prop}(h:A):if true=true then A else B:=by
 rw[if_pos rfl];exact h
theorem c9 {c A B:Prop}[Decidable c](h1:c->A)(h2:¬c->B):if c then A else B:=by
 by_cases h:c
 ·rw[if_pos h];exact h1 h
 ·rw[if_neg h];exact h2 h
def Same (H H':Hp):Prop:=∀b o,H b=some o->H' b=some o
theorem Same.refl (H:Hp):Same H H:=λ_ _ h=>h
theorem Same.trans {H H1 H2:Hp}(a:Same H H1)(b:Same H1 H2):Same H H2:=λc o h=>b c o (a c o h)
theorem Same.free {H H':Hp}(e:Same H H'){l:Addr}(h:H' l=Option.none):H l=Option.none:=by
 cases q:H l with
 |none=>rfl
 |some o=>
  rw[e l o q]at h;cases h
theorem Same.seq {K:aA}{H H':Hp}{a:Addr}{xs:List V}(e:Same H H')(h:SqL K H a xs):SqL K H' a xs:=by
 rcases h with(h | ⟨o,h⟩) | h
 ·exact .inl (.inl (e _ _ h))
 ·exact .inl (.inr ⟨o,e _ _ h⟩)
 ·exact .inr h
end L2
set_option maxHeartbeats 4000000
namespace L2
open PySem PySem.Spec PyProof.Rows
section
variable {prog:aS}{w:bZ}{A:cW}{R:wO->aI->Prop}{s:aI}
theorem Ku {elt tg iter:Expr}{ifs:List Expr}{sc:gG}{pos:Pos}{it acc:aB}{env:Env}(J:Nat->aI->Prop)
  (turn:∀n s,J n s->aM (aX prog w) A (mQ it) (λr s1=>match r with
    |none=>R (.ok .next) s1
    |some v=>aM (aX prog w) A (rV tg it v) (λ_ s2=>aM (aX prog w) A (tP tg env v) (λ_ s3=>
        aM (aX prog w) A (forIn ifs true λc r=>if r=true then do let ok <-vR c env (eval c env);pure (rY ok)else pure (rY r)) (λok s4=>
          if ok=true then aM (aX prog w) A (eval elt env) (λy s5=>aM (aX prog w) A (call (.builtin "list.append") [acc,y]) (λ_ s6=>∃m,m < n/\J m s6) (λ_ _=>False) s5) (λ_ _=>False) s4
          else ∃m,m < n/\J m s4) (λ_ _=>False) s3) (λ_ _=>False) s2) (λ_ _=>False) s1) (λ_ _=>False) s)
  (n:Nat) (h:J n s):nQ (aX prog w) A (.compLoop (.ListComp elt [⟨tg,iter,ifs,0⟩] sc pos) 0 it acc env) R s:=by
 refine codeAny_loop rfl J (λn s hJ=>?_) n h;show aM _ A ((compTurn (.ListComp elt [⟨tg,iter,ifs,0⟩] sc pos) 0 it acc env).onRaise (λx=>do noteFrame x env;theTreesLotGoes x)) _ _ s
 refine wpAny_noted ?_;rw[compTurn_list];refine aC (nG (aC (gC (turn n s hJ) (λr s1 h1=>?_) λ_ _ f=>f.elim)));cases r with
 |none=>exact wpAny_pure h1
 |some v=>
  refine aC (gC h1 (λ_ s2 h2=>?_) λ_ _ f=>f.elim);refine aC (gC h2 (λ_ s3 h3=>aC (gC h3 (λok s4 h4=>?_) λ_ _ f=>f.elim)) λ_ _ f=>f.elim);cases ok with
  |false=>exact wpAny_pure ⟨rfl,h4⟩
  |true=>
   exact aC (aC (gC h4 (λy s5 h5=>aC (gC h5 (λ_ s6 h6=>wpAny_pure (wpAny_pure ⟨rfl,h6⟩)) λ_ _ f=>f.elim)) λ_ _ f=>f.elim))
end
def cxC (X:Cx)(N:List Str)(sc:gG)(cl:List (Str×Addr))(C:Addr)(s:aI)(H:Hp)(fp:List Addr):Cx where
 prog:=X.prog
 w:=X.w
 K:=X.K
 mg:=X.mg
 base:=X.base
 A:=X.A
 N:=N
 s₀:=s
 H₀:=H
 env:=compEnvC sc cl C X.env
 outer:=X.stack
 stack:=X.stack
 ex:=fp
 fn:=λ_=>false
 calm:=X.calm
 pn:=[]
 xe:=λ_ _=>False
def pick (σ:St)(fr:List Nat):St:=fr.map λi=>(σ[i]?).getD none
structure cb (X:Cx)(ns ys:List Str)(fr:List Nat)(sc:gG)(cl:List (Str×Addr)):Prop where
 clos:yA sc X.env=pure cl
 kind:sc.kind=.function
 nocell:∀y∈sc.names,y.2≠.cell
 locs:∀y∈sc.names,y.2=.local->sc.names.lookup y.1=some .local
 sub:∀p∈cl,X.env.cells.lookup p.1=some p.2
 has:∀y,((oW sc X.env).names.lookup y=some .cell\/(oW sc X.env).names.lookup y=some .free)->∃c,cl.lookup y=some c
 len:fr.length=ys.length
 outs:∀(j:Nat)(y:Str),ys[j]?=some y->∃i:Nat,fr[j]?=some i/\X.N[i]?=some y/\(X.env.kindOf y=some .cell\/X.env.kindOf y=some .free)/\
  ((oW sc X.env).names.lookup y=some .cell\/(oW sc X.env).names.lookup y=some .free)
theorem dw {α:Type}:∀{l:List (Str×α)}{x:Str}{c:α},l.lookup x=some c->(x,c)∈l
 | [],_,_,h=>by cases h
 | (y,d)::r,x,c,h=>by
  rw[List.lookup_cons]at h;cases q:x == y with
  |true=>
   rw[q]at h;have e1:x=y:=eq_of_beq q;have e2:d=c:=eQ h;rw[e1,e2];exact eG
  |false=>
   rw[q]at h;exact cY _ (dw h)
def PTs (X:Cx)(ifs:List Expr)(t:TT):Prop:=
 ∀(pins:List (Addr×Obj))(s:aI) (σ:St) (H:Hp) (Q:Bool->Hp->Prop),Inv X pins σ H s->t σ H Q->
  aM (aX X.prog X.w) X.A (forIn ifs true λc r=>if r=true then do let ok <-vR c X.env (eval c X.env);pure (rY ok)else pure (rY r)) (TP X pins σ Q) X.xe s
def tYes:TT:=λ_ H Q=>Q true H
theorem cw {X:Cx}:PTs X [] tYes:=λ_ _ _ H _ I h=>wpAny_tests_nil ⟨H,I,h⟩
theorem nh {X:Cx}{c:Expr}{t:TT}(h:PT X c t):PTs X [c] t:=λpins s σ H Q I q=>wpAny_tests_one (h pins s σ H Q I q)
def wf (k:Nat)(fr:List Nat)(g:TG)(tt:TT)(te:TE)(σ:St)(D:Addr)(ys:List V)(N:List V->Hp->Prop)(x:V)(H:Hp):Prop:=
 g x (dQ k none++pick σ fr) H λσ4 H4=>(∃ts,σ4=ts++pick σ fr/\ts.length=k)/\tt σ4 H4 λb H5=>if b=true then te σ4 H5 λy H6=>H6 D=some (.lst ys)/\N (ys++[y]) (upd H6 D (.lst (ys++[y])))else N ys H5
def uc (k:Nat)(fr:List Nat)(g:TG)(tt:TT)(te:TE)(σ:St)(Q:VK)(J:It)(H:Hp)(D:Addr):Prop:=∃W:Nat->Nat->List V->Hp->Prop,(∃m,W 0 m [] (upd H D (.lst [])))/\
 ∀i m ys H2,W i m ys H2->H2 D=some (.lst ys)/\((J.stop i H2/\Q (.ref D) H2)\/(J.go i H2/\ys.length < sizeLine/\∃N:List V->Hp->Prop,(∀ys' H',N ys' H'->∃m',m' < m/\W (i+1) m' ys' H')/\∀x H3,J.yld i H2 x H3->wf k fr g tt te σ D ys N x H3))
def P8 (k:Nat)(fr:List Nat)(wi:TI)(g:TG)(tt:TT)(te:TE):TE:=λσ H Q=>wi σ H λJ H1=>∀D,H1 D=none->uc k fr g tt te σ Q J H1 D
section
variable {X:Cx}{pins:List (Addr×Obj)}{σ:St}{H H':Hp}{s s':aI}{ns ys:List Str}{fr:List Nat}{sc:gG}{cl:List (Str×Addr)}{C:Addr}{fp:List Addr}
theorem Up (I:Inv X pins σ H s)(S:cb X ns ys fr sc cl)(hf:∀b∈fp,i8 X pins H b)(hl:∀b∈fp,b < s.heap.objs.size)(hC:s.heap.objs.size<=C):(cxC X (ns++ys) sc cl C s H fp).Ok where
 mod:=I.ok.mod
 kind:=S.kind
 glob:=I.ok.glob
 blt:=I.ok.blt
 above:=hC
 inj:=λx y c e1 e2=>I.ok.inj x y c (S.sub _ (dw e1)) (S.sub _ (dw e2))
 has:=λx h=>S.has x h
 cab:=λx c h=>nomatch h
 hd:=λh=>I.ok.hd h
 frames:=I.ok.frames
 stk:=.inl rfl
 exf:=λb hb=>⟨cK (eF (hl b hb) hC),λx c e=>(hf b hb).2.2.2.2.1 x c (S.sub _ (dw e))⟩
 bs:=I.bs
 bsz:=bK I.ok.bsz I.sz
 noex:=λb o e hb=>by
  rcases(hf b hb).2.2.2.1 with z | z
  ·exact I.ok.noex b o e z
  ·exact absurd (eF (bX e) (bK I.ok.bsz z)) (pI _)
 exfs:=λb hb hs=>by
  rcases cD.mp (I.stkSub b hs)with z | z
  ·exact(hf b hb).2.1 z
  ·exact(hf b hb).2.2.1 z
 funs:=I.stack
 frf:=I.stkFree
theorem Bt {h':Heap}{t':Nat}{n:Nat}{m:Str->Option aB}(I:Inv X pins σ H s)(S:cb X ns ys fr sc cl)(hf:∀b∈fp,i8 X pins H b)(hl:∀b∈fp,b < s.heap.objs.size)(hC:s.heap.objs.size < C)
  (k:∀b o,s.heap.get? b=some o->h'.get? b=some o) (hD:h'.get? s.heap.objs.size=some { cls:=.type "list",data:=.seq ([]:List aB).toArray n }) (hn:h'.Ns C m) :
  Inv (cxC X (ns++ys) sc cl C s H fp) [] (dQ ns.length none++pick σ fr) (upd H s.heap.objs.size (.lst [])) { s with heap:=h',toks:=t' }:=by
 have fD:H s.heap.objs.size=none:=I.hok.fresh (aO _);have fC:H C=none:=I.hok.fresh (iE hC);have cLt:∀x c,cl.lookup x=some c->c < s.heap.objs.size:=λx c e=>by
  obtain⟨v,q⟩:=I.cell x c (S.sub _ (dw e));exact q.lt
 refine⟨Up I S hf hl (iE hC),rfl,I.bare,Un.laid k (aO _) fD,⟨m,hn,λi y v e1 e2 e3=>?_⟩,λx c e=>?_,?_,λx c e=>?_,λp hp=>(nomatch hp),?_,?_⟩
 ·have e1:(ns++ys)[i]?=some y:=e1;by_cases hi:i < ns.length
  ·rw[eP (by simpa using hi),kX,if_pos hi]at e2;cases e2
  ·have hi':ns.length<=i:=rE hi;rw[gB hi']at e1;rw[gB (by simpa using hi'),gN]at e2;obtain⟨i',f1,f2,f3,f4⟩:=S.outs _ y e1;unfold pick at e2;rw[eK,f1]at e2;have e2':(σ[i']?).getD none=some v:=eQ e2;have e4:σ[i']?=some (some v):=by
    cases q:σ[i']? with
    |none=>rw[q]at e2';cases e2'
    |some o=>
     rw[q]at e2';have e5:o=some v:=e2';rw[e5]
   obtain⟨m0,hn0,hl0⟩:=I.loc;obtain⟨u,r,lk⟩:=hl0 i' y v f2 e4 (f3.elim (λz=>.inr (.inl z)) λz=>.inr (.inr z));refine⟨u,r,.inr ⟨f4,?_⟩⟩;rcases lk with⟨z,_⟩ | ⟨_,c,ec,hc⟩
   ·rcases f3 with z' | z'<;>(rw[z]at z';cases z')
   ·obtain⟨c',ec'⟩:=S.has y f4;have ee:=S.sub _ (dw ec');rw[ec]at ee;have ecc:c=c':=eQ ee;subst ecc;exact⟨c,ec',hc.keeps k⟩
 ·obtain⟨v,q⟩:=I.cell x c (S.sub _ (dw e));exact⟨v,q.keeps k⟩
 ·show upd H s.heap.objs.size (.lst []) C=none;rw[al (gT hC)];exact fC
 ·rw[al (cK (cLt x c e))];exact I.freeC x c (S.sub _ (dw e))
 ·exact I.hok.laid k (aO _) ⟨jZ _,[],n,.nil,hD⟩
 ·show(dQ ns.length none++pick σ fr).length=(ns++ys).length;rw[aN,aN,gN];unfold pick;rw[aG,S.len]
theorem C6 {σ':St}{h':Heap}(I:Inv X pins σ H s)(hf:∀b∈fp,i8 X pins H b)(hC:s.heap.objs.size<=C)(I':Inv (cxC X (ns++ys) sc cl C s H fp) [] σ' H' s')(hs:gI C s'.heap h') :
  Inv X pins σ H' { s' with heap:=h' }:=by
 have U:Un (frs X.stack) fp H H' s.heap s'.heap:=I'.base;have ne:∀b o,s.heap.get? b=some o->b≠C:=λb o e=>cK (eF (bX e) hC);refine I.call' (s':={ s' with heap:=h' }) (ch:=fp) I'.os ⟨λb o e n hb hx=>?_,λb o e n hb hx=>?_,U.free,λb o e hx=>?_,U.tups,U.frzs,U.tbls⟩ (λb u e=>?_) I'.bare λb hb=>?_
 ·exact(hs.2 b (ne b o e)).trans (U.keep b o e n hb hx)
 ·obtain⟨sl,q⟩:=U.slot b o e n hb hx;exact⟨sl,(hs.2 b (ne b o e)).trans q⟩
 ·obtain⟨o',q⟩:=U.there b o e hx;exact⟨o',(hs.2 b (ne b o e)).trans q⟩
 ·have fr':H' C=none:=I'.free;refine(I'.hok b u e).stay (λc v hc q=>(hs.2 c ?_).trans q) (λ_ q=>q) λ_ _ q=>q;intro z;rcases hc with z' | z'
  ·rw[<-z',z,fr']at e;cases e
  ·rw[z,fr']at z';cases z'
 ·obtain⟨f0,f1,f2,f3,f4,f5⟩:=hf b hb;exact⟨f3,f1,f4,f5⟩
end
theorem cy {X:Cx}{elt iter tg:Expr}{ifs:List Expr}{sc:gG}{pos:Pos}{ns ys:List Str}{fr:List Nat}{cl:List (Str×Addr)}{wi:TI}{g:TG}{tt:TT}{te:TE}(S:cb X ns ys fr sc cl)(hc:X.calm=true)
  (hi:PI X tg iter wi) (hg:∀C s H fp,PG (cxC X (ns++ys) sc cl C s H fp) tg g) (ht:∀C s H fp,PTs (cxC X (ns++ys) sc cl C s H fp) ifs tt) (he:∀C s H fp,PE (cxC X (ns++ys) sc cl C s H fp) elt te)
  (hs:∀x,tY iter X.env x=pure x:=by intro _;rfl):PE X (.ListComp elt [⟨tg,iter,ifs,0⟩] sc pos) (P8 ns.length fr wi g tt te):=by
 intro pins s σ H Q I h;rw[eval_ListComp];refine wpAny_comprehension_free (use:=none) rfl hs S.clos S.kind S.locs (thn (hi pins s σ H _ I h) λv s1 h1=>thn h1 λitv s2 h2=>?_);obtain⟨it,fp,tn,J,H2,e,I2,T,st2,f2,rest⟩:=h2;subst e;obtain⟨W,⟨m0,w0⟩,turn⟩:=rest s2.heap.objs.size (I2.hok.fresh (aO _));refine hZ (wpAny_newFunctionEnv S.nocell (by intro y hy;simp at hy) (λh3 hn3 hb3=>?_) S.kind);dsimp only at hn3 hb3 ⊢;generalize hG:s2.heap.push { cls:=.type "list",dict:=none,data:=.seq ([]:List aB).toArray }=G at hn3 hb3 ⊢;have zG:G.objs.size=s2.heap.objs.size+1:=(by rw[<-hG,gP]);have ltC:s2.heap.objs.size < G.objs.size:=(by rw[zG];exact pB _);have old:∀b o,s2.heap.get? b=some o->h3.get? b=some o:=λb o e=>
  hb3.extBut b o (cK (iZ (bX e) ltC)) (aJ _ (hG ▸ aJ _ e))
 have hD:=hb3.extBut _ _ (cK ltC) (aJ _ (hG ▸ cJ _ rfl));have below:∀b∈fp,b < s2.heap.objs.size:=λb hb=>by
  obtain⟨o,eo,_⟩:=T.obj _ _ st2 b hb;exact bX eo
 have I3:=Bt (ns:=ns) (ys:=ys) (fr:=fr) (t':=s2.toks+([]:List (Str×aB)).length) I2 S f2 below ltC old hD hn3;have stat:∀{H':Hp},(∀b∈fp,H' b=none)->∀b∈fp,i8 (cxC X (ns++ys) sc cl G.objs.size s2 H2 fp) [] H' b:=λhn b hb=>
  ⟨hn b hb,cK (iZ (below b hb) ltC),I3.ok.exfs b hb,.inl hb,λx c e=>(I3.ok.exf b hb).2 x c e,λp hp=>nomatch hp⟩
 have st3:tn 0 h3:=T.keep _ _ _ st2 λb _ o e=>old b o e;have fr3:∀b∈fp,upd H2 s2.heap.objs.size (.lst []) b=none:=λb hb=>by
  rw[al (cK (below b hb))];exact(f2 b hb).1
 have loop:∀s3:aI,s3={ s2 with heap:=h3,toks:=s2.toks+([]:List (Str×aB)).length }->
   nQ (aX X.prog X.w) X.A (.compLoop (.ListComp elt [⟨tg,iter,ifs,0⟩] sc pos) 0 (.ref it) (.ref s2.heap.objs.size) (compEnvC sc cl G.objs.size X.env))
    (compPost (aX X.prog X.w) X.A X.xe none (EP X pins σ Q) (.ref s2.heap.objs.size) G.objs.size) s3:=by
  intro s3 h_1;subst h_1;refine Ku (λn s'=>∃i zs H',Inv (cxC X (ns++ys) sc cl G.objs.size s2 H2 fp) [] (dQ ns.length none++pick σ fr) H' s'/\tn i s'.heap/\(∀b∈fp,H' b=none)/\W i n zs H') ?_ m0 ⟨0,[],_,I3,st3,fr3,w0⟩;intro n s5 h_1;obtain⟨i,zs,H5,I5,st5,fr5,w5⟩:=h_1;obtain⟨d5,alt⟩:=turn i n zs H5 w5;rcases alt with⟨stop,q⟩ | ⟨go,hz,N,hN,step⟩
  ·refine thn (T.done (cxC X (ns++ys) sc cl G.objs.size s2 H2 fp) rfl rfl rfl hc i [] s5 _ H5 _ I5 (stat fr5) st5 stop) λr s6 h0_=>?_;obtain⟨hr,I6⟩:=h0_;subst hr;obtain⟨m6,hn6,_⟩:=I6.loc;exact⟨m6,hn6,λh7 hs7=>⟨.ref s2.heap.objs.size,H5,C6 I2 f2 (iE ltC) I6 hs7,rfl,q⟩⟩
  ·refine thn (T.item (cxC X (ns++ys) sc cl G.objs.size s2 H2 fp) rfl rfl rfl hc i [] s5 _ H5 _ I5 (stat fr5) st5 go) λr s6 h0_=>?_;obtain⟨u,hr,h6⟩:=h0_;subst hr;refine thn h6 λ_ s7 h0_=>?_;obtain⟨x,H7,I7,r7,y7,st7,fr7⟩:=h0_;have I7':=I7.pinned (stat fr7) (T.obj _ _ st7);refine thn (hg _ _ _ _ _ s7 _ H7 x u _ I7' r7 (step x H7 y7)) λ_ s8 h0_=>?_;obtain⟨σ8,H8,I8,⟨ts,eσ,lts⟩,q8⟩:=h0_;have again:∀{H9:Hp}{s9:aI}{zs':List V}{m':Nat},m' < n->Inv (cxC X (ns++ys) sc cl G.objs.size s2 H2 fp) ([]++r9 fp s7.heap) σ8 H9 s9->W (i+1) m' zs' H9->
     ∃m,m < n/\∃i zs H',Inv (cxC X (ns++ys) sc cl G.objs.size s2 H2 fp) [] (dQ ns.length none++pick σ fr) H' s9/\tn i s9.heap/\(∀b∈fp,H' b=none)/\W i m zs H':=λ{H9 s9 zs' m'} hm I9 w9=>by
    refine⟨m',hm,i+1,zs',H9,I9.unpinned.weak ?_ ?_,T.keep _ _ _ st7 λb hb o e=>(I9.pin (b,o) (eJ _ (eJ _ (jp hb e)))).1,λb hb=>?_,w9⟩
    ·rw[eσ,aN,aN,gN,lts]
    ·intro j v e;rw[eσ];by_cases hj:j < ns.length
     ·rw[eP (by simpa using hj),kX,if_pos hj]at e;cases e
     ·have hj':ns.length<=j:=rE hj;rw[gB (by simpa using hj'),gN]at e;rw[gB (by rw[lts];exact hj'),lts];exact e
    ·obtain⟨o,e,d⟩:=T.obj _ _ st7 b hb;exact(I9.pin (b,o) (eJ _ (eJ _ (jp hb e)))).2.1
   refine thn (ht _ _ _ _ _ s8 σ8 H8 _ I8 q8) λok s9 h0_=>?_;obtain⟨H9,I9,q9⟩:=h0_;cases ok with
   |false=>
    rw[if_neg cU]at q9 ⊢;obtain⟨m',hm,w9⟩:=hN _ _ q9;exact again hm I9 w9
   |true=>
    rw[if_pos rfl]at q9 ⊢;refine thn (he _ _ _ _ _ s9 σ8 H9 _ I9 q9) λyv s10 h0_=>?_;obtain⟨y,H10,I10,r10,d10,w10⟩:=h0_;refine thn (dy _ s10 σ8 H10 (.ref s2.heap.objs.size) [y] (.ref s2.heap.objs.size) [yv] (λ_ H11=>N (zs++[y]) H11) I10 rfl (.cons r10 .nil) ⟨_,zs,y,rfl,rfl,d10,hz,w10⟩) λ_ s11 h0_=>?_;obtain⟨_,H11,I11,_,w11⟩:=h0_;obtain⟨m',hm,w12⟩:=hN _ _ w11;exact again hm I11 w12
 exact codeAny_compStart_list (loop _ rfl) (T.self X.A 0 _ _ _ st3 (loop _ rfl))
section
variable {k:Nat}{fr:List Nat}{g:TG}{tt:TT}{te:TE}{σ:St}{Q:VK}{D:Addr}{H:Hp}
theorem o7 {lo:Int}{n:Nat}(Pv:Nat->List V->Hp->Prop)(h0:Pv 0 [] (upd H D (.lst [])))(hd:∀i ys H,Pv i ys H->H D=some (.lst ys))
  (hs:∀i ys H,i < n->Pv i ys H->ys.length < sizeLine/\wf k fr g tt te σ D ys (Pv (i+1)) (.int (lo+i)) H) (he:∀ys H,Pv n ys H->Q (.ref D) H):uc k fr g tt te σ Q (Itr lo n) H D:=by
 refine⟨λi m ys H=>i+m=n/\Pv i ys H,⟨n,by lia,h0⟩,?_⟩;intro i m ys H2 h_1;obtain⟨e,p⟩:=h_1;refine⟨hd i ys H2 p,?_⟩;by_cases hi:i < n
 ·obtain⟨z,q⟩:=hs i ys H2 hi p;refine .inr ⟨hi,z,Pv (i+1),λys' H' p'=>⟨m - 1,by lia,by lia,p'⟩,?_⟩;intro x H3 h_1;obtain⟨rfl,rfl⟩:=h_1;exact q
 ·have e':i=n:=(by lia);subst e';exact .inl ⟨aO _,he ys H2 p⟩
theorem dm {K:aA}{a:Addr}{xs:List V}(Pv:Nat->List V->Hp->Prop)(h0:Pv 0 [] (upd H D (.lst [])))(hd:∀i ys H,Pv i ys H->H D=some (.lst ys))(hl:∀i ys H,i<=xs.length->Pv i ys H->SqL K H a xs)
  (hs:∀i x ys H,xs[i]?=some x->Pv i ys H->ys.length < sizeLine/\wf k fr g tt te σ D ys (Pv (i+1)) x H) (he:∀ys H,Pv xs.length ys H->Q (.ref D) H):uc k fr g tt te σ Q (Itl K a) H D:=by
 refine⟨λi m ys H=>i+m=xs.length/\Pv i ys H,⟨xs.length,by lia,h0⟩,?_⟩;intro i m ys H2 h_1;obtain⟨e,p⟩:=h_1;have sq:=hl i ys H2 (by lia) p;refine⟨hd i ys H2 p,?_⟩;by_cases hi:i < xs.length
 ·have hx:xs[i]?=some xs[i]:=aL hi;obtain⟨z,q⟩:=hs i _ ys H2 hx p;refine .inr ⟨⟨xs,_,sq,hx⟩,z,Pv (i+1),λys' H' p'=>⟨m - 1,by lia,by lia,p'⟩,?_⟩;intro x H3 h_1;obtain⟨rfl,hy⟩:=h_1;have e2:=hy xs sq;rw[hx]at e2;cases e2;exact q
 ·have e':i=xs.length:=(by lia);subst e';exact .inl ⟨⟨xs,sq,aO _⟩,he ys H2 p⟩
theorem qf {K:aA}{a:Addr}{xs:List V}(Pv:Nat->List V->Hp->Prop)(h0:Pv 0 [] (upd H D (.lst [])))(hd:∀i ys H,Pv i ys H->H D=some (.lst ys))(hl:∀i ys H,i<=xs.length->Pv i ys H->SqT K H a xs)
  (hs:∀i x ys H,xs[i]?=some x->Pv i ys H->ys.length < sizeLine/\wf k fr g tt te σ D ys (Pv (i+1)) x H) (he:∀ys H,Pv xs.length ys H->Q (.ref D) H):uc k fr g tt te σ Q (Itt K a) H D:=by
 refine⟨λi m ys H=>i+m=xs.length/\Pv i ys H,⟨xs.length,by lia,h0⟩,?_⟩;intro i m ys H2 h_1;obtain⟨e,p⟩:=h_1;have sq:=hl i ys H2 (by lia) p;refine⟨hd i ys H2 p,?_⟩;by_cases hi:i < xs.length
 ·have hx:xs[i]?=some xs[i]:=aL hi;obtain⟨z,q⟩:=hs i _ ys H2 hx p;refine .inr ⟨⟨xs,_,sq,hx⟩,z,Pv (i+1),λys' H' p'=>⟨m - 1,by lia,by lia,p'⟩,?_⟩;intro x H3 h_1;obtain⟨rfl,hy⟩:=h_1;have e2:=hy xs sq;rw[hx]at e2;cases e2;exact q
 ·have e':i=xs.length:=(by lia);subst e';exact .inl ⟨⟨xs,sq,aO _⟩,he ys H2 p⟩
end
end L2
namespace L2
open PySem PySem.Spec PyProof.Rows
section
variable {X:Cx}{pins:List (Addr×Obj)}{σ:St}{H:Hp}{s:aI}{h':Heap}
theorem Inv.track {a:Addr}{o:HO}(I:Inv X pins σ H s)(f:i8 X pins H a)(h1:X.s₀.heap.objs.size<=a)(new:ObjOk X.prog X.w (upd H a o) s.heap a o):Inv X pins σ (upd H a o) s:=by
 obtain⟨f0,f1,f2,f3,f4,f5⟩:=f;have old:∀b u,H b=some u->upd H a o b=some u:=λb u e=>by
  rw[al (am e f0)];exact e
 refine⟨I.ok,I.os,I.bare,⟨I.base.keep,I.base.slot,λb ob e n hx=>?_,I.base.there,λb xs e=>old _ _ (I.base.tups b xs e),λb ob u e=>old _ _ (I.base.frzs b ob u e),λb ps e=>?_⟩,I.loc,I.cell,?_,λx c e=>?_,λp hp=>?_,λb u e=>?_,I.len⟩
 ·rw[al (cK (eF (bX e) h1))];exact I.base.free b ob e n hx
 ·obtain⟨more,q⟩:=I.base.tbls b ps e;exact⟨more,old _ _ q⟩
 ·rw[al (gH f1)];exact I.free
 ·rw[al (f4 x c e)];exact I.freeC x c e
 ·obtain⟨p1,p2,p3⟩:=I.pin p hp;refine⟨p1,?_,p3⟩;rw[al (f5 p hp)];exact p2
 ·by_cases q:b=a
  ·subst q;rw[ae]at e;cases e;exact new
  ·rw[al q]at e;exact(I.hok b u e).stay (λ_ _ _ z=>z) (λc z=>old _ _ z) λc xs z=>old _ _ z
theorem Inv.turnedAll {t':Nat}{ch:List Addr}(I:Inv X pins σ H s)(hf:∀b∈ch,i8 X pins H b)(k:∀b o,b ∉ ch->s.heap.get? b=some o->h'.get? b=some o):Inv X pins σ H { s with heap:=h',toks:=t' }:=by
 have nc:∀b u,H b=some u->b ∉ ch:=λb u e z=>by
  rw[(hf b z).1]at e;cases e
 refine I.step (g':=s.gens) (d':=s.drawn) (ch:=ch) (λb hb=>?_) (λb o _ _ hc e _=>k b o hc e) (λb o _ _ hc e _=>⟨o.slots,k b o hc e⟩) (λ_ _ _ _ n=>n) (λb o hc e=>⟨o,k b o hc e⟩)
  (λ_ _ e=>e) (λ_ _ _ e=>e) (λb ps e=>⟨#[],by rw[e];simp⟩) (λm hm=>?_) (λb u e=>?_) I.bare
 ·obtain⟨f0,f1,f2,f3,f4,f5⟩:=hf b hb;exact⟨f3,f1,f4,f5⟩
 ·obtain⟨o,es,ep,ho,r⟩:=hm;exact⟨o,es,ep,k _ o (λz=>(hf _ z).2.1 rfl) ho,r⟩
 ·refine(I.hok b u e).stay (λc v hc q=>k c v ?_ q) (λ_ q=>q) λ_ _ q=>q;rcases hc with z | z
  ·rw[z];exact nc b u e
  ·exact nc c _ z
end
section
variable {X:Cx}
def jj (K:aA):R2:=λx y H Q=>∃a b ys,x=.ref a/\y=.ref b/\SqT K H a []/\SqT K H b ys/\Q (.ref b) H
theorem Nx:OpR X (jS .Add) (jj X.K):=by
 intro pins s σ H x y v u Q I rx ry h;obtain⟨a,b,ys,rfl,rfl,ha,hb,q⟩:=h;cases rx;cases ry;obtain⟨its,r1,p1,_⟩:=I.tuple ha;obtain⟨its2,r2,p2,_⟩:=I.tuple hb;cases r1;obtain⟨⟨c1,d1,t1,l1⟩,g1,k1,n1,z1⟩:=id p1;obtain⟨⟨c2,d2,t2,l2⟩,g2,k2,n2,z2⟩:=id p2;simp only at k1 z1 k2 z2;subst k1 z1 k2 z2;exact wS ⟨_,g1,rfl⟩ ⟨_,g2,rfl⟩ uQ wG qZ qQ (qC _ _)
  (tuple_addW0 a b #[] its2.toArray n1 n2 d1 d2 l1 l2 rfl) ⟨g1,g2,⟨.ref b,H,I,rfl,q⟩⟩
theorem ni:OpR X (jS .Add) (λx y H Q=>mf X.K x y H Q\/jj X.K x y H Q):=Rb.or Nx
def rSlS:V->Option Int->Option Int->Hp->VK->Prop:=λx lo hi H Q=>∃z,x=.str z/\z.length<=sizeLine/\Q (.str (vI z lo hi)) H
theorem Uq:SlR X rSlS:=by
 intro pins s σ H x v vl vu lo hi sl Q I rx hs pl pu h;obtain⟨z,rfl,hz,q⟩:=h;obtain⟨t,rfl⟩:=rx;obtain⟨o,ho,hc,hd⟩:=hs;refine⟨"str",_,F.slot_str_getitem.lookup,xU _ _ _,?_⟩;have fin:∀t' k,EP X pins σ Q (.str (vI z lo hi) t') { s with toks:=k }:=λt' k=>⟨.str (vI z lo hi),H,I.tok k,⟨t',rfl⟩,q⟩;cases pl with
 |none=>
  cases pu with
  |none=>exact oA (l:=none) (u:=none) (st:=none) ⟨o,ho,hc,hd⟩ rfl (rZ ⟨bK (uS z _ _) hz,fin⟩)
  |int j uj=>exact oA (l:=none) (u:=some (j,uj)) (st:=none) ⟨o,ho,hc,hd⟩ rfl (rZ ⟨bK (uS z _ _) hz,fin⟩)
 |int i ui=>
  cases pu with
  |none=>exact oA (l:=some (i,ui)) (u:=none) (st:=none) ⟨o,ho,hc,hd⟩ rfl (rZ ⟨bK (uS z _ _) hz,fin⟩)
  |int j uj=>exact oA (l:=some (i,ui)) (u:=some (j,uj)) (st:=none) ⟨o,ho,hc,hd⟩ rfl (rZ ⟨bK (uS z _ _) hz,fin⟩)
end
end L2
namespace HT
open PySem PyProof.Rows
section
open PySem.SeqAt
open PySem.AutoSeq1 (wpAny_loadPart')
open PySem.MeetsSeq PySem.MeetsSeq2 PySem.MeetsSeq3
end
end HT
namespace L2
open PySem PySem.Spec PyProof.Rows
section
variable {X:Cx}
end
inductive Da where
 |flat (v:V)
 |tup (xs:List Da)
 |lst (xs:List Da)
mutual
inductive Hold (K:aA)(H:Hp):V->Da->Prop where
 |flat {v:V}:oh v=true->Hold K H v (.flat v)
 |tup {a:Addr}{xs:List V}{ds:List Da}:SqT K H a xs->Holds K H xs ds->Hold K H (.ref a) (.tup ds)
 |lst {a:Addr}{xs:List V}{ds:List Da}:SqL K H a xs->Holds K H xs ds->Hold K H (.ref a) (.lst ds)
inductive Holds (K:aA)(H:Hp):List V->List Da->Prop where
 |nil:Holds K H [] []
 |cons {x:V}{xs:List V}{d:Da}{ds:List Da}:Hold K H x d->Holds K H xs ds->Holds K H (x::xs) (d::ds)
end
mutual
def Da.dep:Da->Nat
 | .flat _=>0
 | .tup xs=>oz xs+1
 | .lst xs=>oz xs+1
def oz:List Da->Nat
 | []=>0
 |d::r=>max d.dep (oz r)
end
theorem nj:∀{ds:List Da}{d:Da},d∈ds->d.dep<=oz ds
 |e::r,d,h=>by
  rw[oz];rcases cD.mp h with rfl | h
  ·exact Nat.le_max_left _ _
  ·exact bK (nj h) (Nat.le_max_right _ _)
theorem Holds.length {K:aA}{H:Hp}:∀{xs:List V}{ds:List Da},Holds K H xs ds->xs.length=ds.length
 | [],_,h=>by cases h;rfl
 |_::_,_,h=>by
  cases h with
  |cons _ r=>rw[dX,dX,r.length]
theorem Holds.get {K:aA}{H:Hp}:∀{xs:List V}{ds:List Da}{j:Nat}{x:V},Holds K H xs ds->xs[j]?=some x->∃d,ds[j]?=some d/\Hold K H x d
 | [],_,_,_,_,e=>by cases e
 |z::zs,_,0,x,h,e=>by
  cases h with
  |cons hx _=>
   have e':z=x:=(by simpa using e);subst e';exact⟨_,rfl,hx⟩
 |z::zs,_,j+1,x,h,e=>by
  cases h with
  |cons _ r=>
   obtain⟨d,h1,h2⟩:=r.get (j:=j) (x:=x) (by simpa using e);exact⟨d,by simpa using h1,h2⟩
theorem Ny {v:V}(h:oh v=true):eqV v v=true:=by
 cases v with
 |non=>rfl
 |bl b=>exact beq_self_eq_true b
 |int i=>exact beq_self_eq_true i
 |str z=>exact beq_self_eq_true z
 |byt _=>cases h
 |flt _=>cases h
 |ref _=>cases h
 |ty _=>cases h
section
open PySem.SeqAt
variable {X:Cx}{pins:List (Addr×Obj)}{σ:St}{H:Hp}{s:aI}{A:cW}
theorem ud {xs ys:List V}{ds:List Da}{its its2:List aB}(h1:Holds X.K H xs ds)(h2:Holds X.K H ys ds)(r1:Vals xs its)(r2:Vals ys its2)
  (el:∀d∈ds,∀(x y:V)(u v:aB),Hold X.K H x d->Hold X.K H y d->RelV x u->RelV y v->EqAt A s u v true) :
  ∀j (q1:j < its.toArray.size) (q2:j < its2.toArray.size),EqAt A s its.toArray[j] its2.toArray[j] true:=by
 intro j q1 q2;have l1:=r1.length;have l2:=r2.length;have j1:j < xs.length:=(by rw[l1];simpa using q1);have j2:j < ys.length:=(by rw[l2];simpa using q2);obtain⟨d,e1,k1⟩:=h1.get (aL j1);obtain⟨d',e2,k2⟩:=h2.get (aL j2);rw[e1]at e2;cases e2;obtain⟨u,f1,ru⟩:=r1.get (aL j1);obtain⟨v,f2,rv⟩:=r2.get (aL j2);have g1:its.toArray[j]=u:=by
  have z:its[j]?=some its.toArray[j]:=(by simp[aL (by simpa using q1:j < its.length)]);rw[f1]at z;exact(eQ z).symm
 have g2:its2.toArray[j]=v:=by
  have z:its2[j]?=some its2.toArray[j]:=(by simp[aL (by simpa using q2:j < its2.length)]);rw[f2]at z;exact(eQ z).symm
 rw[g1,g2];exact el d (bQ e1) _ _ _ _ k1 k2 ru rv
theorem Fs (I:Inv X pins σ H s){a b:Addr}{xs ys:List V}{ds:List Da}(ha:SqT X.K H a xs)(hb:SqT X.K H b ys)(h1:Holds X.K H xs ds)(h2:Holds X.K H ys ds)(hu:A.units < iJ)
  (el:∀d∈ds,∀(x y:V)(u v:aB),Hold X.K H x d->Hold X.K H y d->RelV x u->RelV y v->EqAt A.in1 s u v true):RcAt A s (.ref a) (.ref b) true:=by
 obtain⟨its,r1,p1,_⟩:=I.tuple ha;obtain⟨its2,r2,p2,_⟩:=I.tuple hb;have q:=RcAt.tuples (s:=s) (e:=λ_=>true) (show s.heap.IsTuple a its.toArray from p1) (show s.heap.IsTuple b its2.toArray from p2) hu (ud h1 h2 r1 r2 el);have e:its.toArray.size=its2.toArray.size:=by
  rw[aY,aY,<-r1.length,<-r2.length,h1.length,h2.length]
 rw[e,nU.mpr (λ_ _=>rfl)]at q;simpa using q
theorem Am (I:Inv X pins σ H s){a b:Addr}{xs ys:List V}{ds:List Da}(ha:SqL X.K H a xs)(hb:SqL X.K H b ys)(h1:Holds X.K H xs ds)(h2:Holds X.K H ys ds)(hu:A.units < iJ)
  (el:∀d∈ds,∀(x y:V)(u v:aB),Hold X.K H x d->Hold X.K H y d->RelV x u->RelV y v->EqAt A.in1 s u v true):RcAt A s (.ref a) (.ref b) true:=by
 obtain⟨its,r1,p1,_⟩:=I.list ha;obtain⟨its2,r2,p2,_⟩:=I.list hb;have e:its.toArray.size=its2.toArray.size:=by
  rw[aY,aY,<-r1.length,<-r2.length,h1.length,h2.length]
 have q:=RcAt.lists (s:=s) (e:=λ_=>true) p1.isList p2.isList e hu (ud h1 h2 r1 r2 el);rw[nU.mpr (λ_ _=>rfl)]at q;exact q
theorem pw (I:Inv X pins σ H s):∀(n:Nat) {d:Da}{x y:V}{u v:aB}{A:cW},d.dep<=n->A.units+n < iJ->Hold X.K H x d->Hold X.K H y d->RelV x u->RelV y v->EqAt A s u v true
 |n,.flat w,x,y,u,v,A,_,_,hx,hy,rx,ry=>by
  cases hx with
  |flat f=>
   cases hy;have q:=Kp (A:=A) (s:=s) rx ry f f;rw[Ny f]at q;exact q
 |0,.tup ds,_,_,_,_,_,h,_,_,_,_,_=>by rw[Da.dep]at h;lia
 |0,.lst ds,_,_,_,_,_,h,_,_,_,_,_=>by rw[Da.dep]at h;lia
 |n+1,.tup ds,x,y,u,v,A,h,hu,hx,hy,rx,ry=>by
  rw[Da.dep]at h;cases hx with
  |@tup a xs _ ha h1=>
   cases hy with
   |@tup b ys _ hb h2=>
    cases(show u=cH a from rx);cases(show v=cH b from ry);by_cases hab:a=b
    ·rw[hab];exact EqAt.same _
    ·refine EqAt.of_refs hab (Fs I ha hb h1 h2 (by lia) λd hd x y u v kx ky qx qy=>?_);exact pw I n (bK (nj hd) (by lia)) (by rw[lK];lia) kx ky qx qy
 |n+1,.lst ds,x,y,u,v,A,h,hu,hx,hy,rx,ry=>by
  rw[Da.dep]at h;cases hx with
  |@lst a xs _ ha h1=>
   cases hy with
   |@lst b ys _ hb h2=>
    cases(show u=cH a from rx);cases(show v=cH b from ry);by_cases hab:a=b
    ·rw[hab];exact EqAt.same _
    ·refine EqAt.of_refs hab (Am I ha hb h1 h2 (by lia) λd hd x y u v kx ky qx qy=>?_);exact pw I n (bK (nj hd) (by lia)) (by rw[lK];lia) kx ky qx qy
def rEqS (K:aA):R2:=λx y H Q=>∃a b d,x=.ref a/\y=.ref b/\Hold K H x d/\Hold K H y d/\d.dep<=60/\Q (.bl true) H
theorem Ur (hu:X.A.units+64 < iJ):OpR X (kZ .Eq) (rEqS X.K):=by
 intro pins s σ H x y v u Q I rx ry h;obtain⟨a,b,d,rfl,rfl,hx,hy,hd,q⟩:=h;cases rx;cases ry;have fin:EP X pins σ Q (.bool true) s:=⟨.bl true,H,I,rfl,q⟩;cases hx with
 |flat f=>cases f
 |@tup _ xs ds ha h1=>
  cases hy with
  |@tup _ ys _ hb h2=>
   rw[Da.dep]at hd;exact Fs I ha hb h1 h2 (by lia) (λd hm x y u v kx ky qx qy=>pw I 60 (bK (nj hm) (by lia)) (by rw[lK];lia) kx ky qx qy) _ _ _ _ fin
 |@lst _ xs ds ha h1=>
  cases hy with
  |@lst _ ys _ hb h2=>
   rw[Da.dep]at hd;exact Am I ha hb h1 h2 (by lia) (λd hm x y u v kx ky qx qy=>pw I 60 (bK (nj hm) (by lia)) (by rw[lK];lia) kx ky qx qy) _ _ _ _ fin
end
section
variable {K:aA}{H H':Hp}
theorem SqT.same {a:Addr}{xs:List V}(h:SqT K H a xs)(e:Same H H'):SqT K H' a xs:=by
 rcases h with(h | ⟨o,h⟩) | h
 ·exact .inl (.inl (e _ _ h))
 ·exact .inl (.inr ⟨o,e _ _ h⟩)
 ·exact .inr h
mutual
theorem Hold.mono (e:Same H H'):∀{x:V}{d:Da},Hold K H x d->Hold K H' x d
 |_,_,.flat f=>.flat f
 |_,_,.tup h r=>.tup (h.same e) (Holds.mono e r)
 |_,_,.lst h r=>.lst (e.seq h) (Holds.mono e r)
theorem Holds.mono (e:Same H H'):∀{xs:List V}{ds:List Da},Holds K H xs ds->Holds K H' xs ds
 |_,_,.nil=>.nil
 |_,_,.cons h r=>.cons (Hold.mono e h) (Holds.mono e r)
end
theorem Holds.append:∀{xs ys:List V}{ds es:List Da},Holds K H xs ds->Holds K H ys es->Holds K H (xs++ys) (ds++es)
 | [],_,_,_,h,k=>by cases h;exact k
 |_::_,_,_,_,h,k=>by
  cases h with
  |cons a r=>exact .cons a (r.append k)
theorem Holds.one {x:V}{d:Da}(h:Hold K H x d):Holds K H [x] [d]:=.cons h .nil
theorem Hold.tupI {x:V}{ds:List Da}(h:Hold K H x (.tup ds)):∃a xs,x=.ref a/\SqT K H a xs/\Holds K H xs ds:=by
 cases h with
 |tup a r=>exact⟨_,_,rfl,a,r⟩
theorem Hold.lstI {x:V}{ds:List Da}(h:Hold K H x (.lst ds)):∃a xs,x=.ref a/\SqL K H a xs/\Holds K H xs ds:=by
 cases h with
 |lst a r=>exact⟨_,_,rfl,a,r⟩
theorem Hold.flatI {x v:V}(h:Hold K H x (.flat v)):x=v:=by
 cases h;rfl
theorem Holds.getm {α:Type}{f:α->Da}{vs:List V}{ls:List α}{i:Nat}{x:V}(h:Holds K H vs (ls.map f))(e:vs[i]?=some x):∃l,ls[i]?=some l/\Hold K H x (f l):=by
 obtain⟨d,e1,k⟩:=h.get e;rw[eK]at e1;cases q:ls[i]? with
 |none=>rw[q]at e1;cases e1
 |some l=>
  rw[q]at e1;have e2:f l=d:=eQ e1;rw[<-e2]at k;exact⟨l,rfl,k⟩
theorem Holds.ints:∀{xs:List V}{ns:List Int},Holds K H xs (ns.map λv=>.flat (.int v))->xs=ns.map V.int
 | [],[],_=>rfl
 | [],_::_,h=>by cases h
 |_::_,[],h=>by cases h
 |_::_,_::_,h=>by
  cases h with
  |cons a r=>rw[a.flatI,r.ints];rfl
theorem fz:∀(ns:List Int),Holds K H (ns.map V.int) (ns.map λv=>.flat (.int v))
 | []=>.nil
 |_::r=>.cons (.flat rfl) (fz r)
end
section
variable {X:Cx}
end
mutual
def Da.fix:Da->Bool
 | .flat _=>true
 | .tup xs=>ir xs
 | .lst _=>false
def ir:List Da->Bool
 | []=>true
 |d::r=>d.fix && ir r
end
theorem bw {α:Type}{f:α->Da}(h:∀a,(f a).fix=true):∀l:List α,ir (l.map f)=true
 | []=>by rw[wX,ir]
 |a::r=>by rw[fZ,ir,h a,bw h r];rfl
def Tups (H H':Hp):Prop:=(∀b xs,H b=some (.tup xs)->H' b=some (.tup xs))/\∀b o u,H b=some (.frz o u)->H' b=some (.frz o u)
theorem Tups.of {H H':Hp}(e:Same H H'):Tups H H':=⟨λ_ _ h=>e _ _ h,λ_ _ _ h=>e _ _ h⟩
theorem Tups.trans {H H1 H2:Hp}(a:Tups H H1)(b:Tups H1 H2):Tups H H2:=⟨λc xs h=>b.1 c xs (a.1 c xs h),λc o u h=>b.2 c o u (a.2 c o u h)⟩
theorem Tups.put {H:Hp}{u:Addr}{xs:List V}(h:H u=some (.lst xs))(o:HO):Tups H (upd H u o):=
 ⟨λb ys e=>by
   rw[al (iw e h (by intro z;cases z))];exact e,λb ob v e=>by
   rw[al (iw e h (by intro z;cases z))];exact e⟩
theorem Tups.but {H H':Hp}{u:Addr}{xs:List V}(h:H u=some (.lst xs))(k:∀b o,b≠u->H b=some o->H' b=some o):Tups H H':=
 ⟨λb ys e=>k b _ (iw e h (by intro z;cases z)) e,λb ob v e=>k b _ (iw e h (by intro z;cases z)) e⟩
section
variable {K:aA}{H H':Hp}
theorem SqT.tups {a:Addr}{xs:List V}(h:SqT K H a xs)(e:Tups H H'):SqT K H' a xs:=by
 rcases h with(h | ⟨o,h⟩) | h
 ·exact .inl (.inl (e.1 _ _ h))
 ·exact .inl (.inr ⟨o,e.2 _ _ _ h⟩)
 ·exact .inr h
mutual
theorem Hold.stay (e:Tups H H'):∀{x:V}{d:Da},d.fix=true->Hold K H x d->Hold K H' x d
 |_,_,_,.flat f=>.flat f
 |_,_,q,.tup h r=>.tup (h.tups e) (Holds.stay e (by rw[Da.fix]at q;exact q) r)
 |_,_,q,.lst h r=>by rw[Da.fix]at q;cases q
theorem Holds.stay (e:Tups H H'):∀{xs:List V}{ds:List Da},ir ds=true->Holds K H xs ds->Holds K H' xs ds
 |_,_,_,.nil=>.nil
 |_,_,q,.cons h r=>by
  rw[ir,iO]at q;exact .cons (Hold.stay e q.1 h) (Holds.stay e q.2 r)
end
end
end L2
namespace L2
open PySem PySem.Spec PyProof.Rows
open Sem (wp)
section
variable {prog:aS}{w:bZ}{A:cW}{E:aB->aI->Prop}{s:aI}
theorem Wk {it t:Addr}{k:Nat}{its:Array aB}{y:aB}{Q:aB->aI->Prop}(hi:s.heap.IsTupleIter it t k)(ht:s.heap.IsTuple t its)(hy:its[k]?=some y)
  (hQ:∀h',h'.IsTupleIter it t (k+1)->gI it s.heap h'->Q y { s with heap:=h' }):aM (aX prog w) A (iC (.ref it)) Q E s:=by
 obtain⟨ob,g1,g2,g3⟩:=id hi;obtain⟨ot,t1,_,nt,t3⟩:=ht;unfold iC;refine aC (gQ (name:=iN "__next__") hi.typeIs F.slot_tuple_iterator_next (iI F.slot_tuple_iterator_next hi.typeIs F.entry_tuple_iterator_next ?_ (F.args_tuple_iterator_next_1 _)));show aM _ _ (field (.ref it) 0 >>= _) _ _ s;refine aC (eC g1 g3 (x:=.ref t) rfl ?_);show aM _ _ (if (cH t == iS)=true then _ else _) _ _ s
 rw[if_neg (show ¬((cH t == iS)=true)from cU)];show aM _ _ (field (.ref it) 1 >>= _) _ _ s;refine aC (eC g1 g3 (x:=.int k 0) rfl ?_);show aM _ _ (seqItems? (.ref t) >>= _) _ _ s;refine aC (jI t1 t3 ?_);simp only[eY,hy];refine aC (qN g1 g3 (by simp) (wpAny_pure ⟨y,rfl,wpAny_pure (hQ _ ?_ (pR ..))⟩));exact⟨_,jP _ g1 (rJ (oK g3 _)),(Obj.cls_mapFields ..).trans g2,by rw[oK g3];simp[jC]⟩
theorem Kv {it t:Addr}{k:Nat}{its:Array aB}{Q:aB->aI->Prop}(hh:A.handled=none)(hi:s.heap.IsTupleIter it t k)(ht:s.heap.IsTuple t its)(hy:its[k]?=none)
  (hE:∀h' e,vO it s.heap h'->(∃o,h'.get? e=some o/\o.cls=.type "StopIteration")->E (.ref e) { s with heap:=h' }):aM (aX prog w) A (iC (.ref it)) Q E s:=by
 obtain⟨ob,g1,g2,g3⟩:=id hi;obtain⟨ot,t1,_,nt,t3⟩:=ht;unfold iC;refine aC (gQ (name:=iN "__next__") hi.typeIs F.slot_tuple_iterator_next (iI F.slot_tuple_iterator_next hi.typeIs F.entry_tuple_iterator_next ?_ (F.args_tuple_iterator_next_1 _)));show aM _ _ (field (.ref it) 0 >>= _) _ _ s;refine aC (eC g1 g3 (x:=.ref t) rfl ?_);show aM _ _ (if (cH t == iS)=true then _ else _) _ _ s
 rw[if_neg (show ¬((cH t == iS)=true)from cU)];show aM _ _ (field (.ref it) 1 >>= _) _ _ s;refine aC (eC g1 g3 (x:=.int k 0) rfl ?_);show aM _ _ (seqItems? (.ref t) >>= _) _ _ s;refine aC (jI t1 t3 ?_);simp only[eY,hy];refine aC (pE (aC (qN g1 g3 (by simp) ?_)));show aM _ _ (newExc (.type "StopIteration") [] >>= _) _ _ _;refine aC ?_;simp only[newExc,newTuple];refine aC (hZ ?_ (by size_fits));refine aC (m:=firstArgMember _ _) (wpAny_of_eq (a:=iS) (by first | rfl | (simp only[firstArgMember];rfl)) ?_)
 refine hZ ?_ (by size_fits);simp only[raiseNew];refine aC (wpAny_handled ?_)
 first | rw[show A.in1.handled=none from hh] | rw[hh]
 refine aC (wpAny_pure (wpAny_throw ?_));exact hE _ _ (((pR ..).extBut.push _).push _) ⟨_,cJ _ rfl,rfl⟩
end
section
variable {prog:aS}{w:bZ}{A:cW}{E:aB->aI->Prop}{s:aI}
end
section
variable {X:Cx}
end
end L2
namespace L2
open PySem PySem.Spec PyProof.Rows
open Sem (wp)
section
variable {prog:aS}{w:bZ}{A:cW}{E:aB->aI->Prop}
theorem P9 {it l:Addr}{its:Array aB}(ne:l≠it):∀(n k:Nat)(s:aI) (Q:List aB->aI->Prop),s.heap.IsListIter it l k->s.heap.IsList l its->k+n<=its.size->
  (∀h',h'.IsListIter it l (k+n)->gI it s.heap h'->Q ((its.toList.drop k).take n) { s with heap:=h' })->aM (aX prog w) A (draw (.ref it) n) Q E s
 |0,k,s,Q,hi,_,_,q=>by
  show aM _ _ (pure []) Q E s;exact wpAny_pure (by simpa using q s.heap hi (Heap.SameBut.refl ..))
 |n+1,k,s,Q,hi,hl,le,q=>by
  have lt:k < its.size:=(by lia);show aM _ _ (mQ (.ref it) >>= _) Q E s;refine aC (qX hi hl (x:=its[k]) (by simp[lt]) λh1 i1 s1=>?_);refine aC (iK (P9 ne n (k+1) _ _ i1 (hl.extBut s1.extBut ne) (by lia) λh2 i2 s2=>wpAny_pure ?_));have e:its.toList.drop k=its[k]::its.toList.drop (k+1):=(by simp[lN,lt]);have z:=q h2 (by rw[show k+(n+1)=k+1+n by lia];exact i2) (s1.trans s2);rw[e,List.take_succ_cons]at z;exact z
theorem Rh {s:aI}{l:Addr}{its:Array aB}{Q:List aB->aI->Prop}(hh:A.handled=none)(hl:s.heap.IsList l its)
  (q:∀h',vO s.heap.objs.size s.heap h'->Q its.toList { s with heap:=h' }):aM (aX prog w) A (unpackItems (.ref l) its.size none) Q E s:=by
 have ne:l≠s.heap.objs.size:=(by obtain⟨o,ho,_⟩:=hl;exact cK (bX ho));unfold unpackItems;refine aC ?_
 ·unfold notIterableAtAll;refine aC (lR hl.typeIs slot_list_iter.lookup ?_);refine wpAny_pure ?_;simp only[gW,if_false];refine aC (iK (hX hl ?_));refine aC (iK (P9 ne its.size 0 _ _ ⟨_,cJ _ rfl,rfl,rfl⟩ (nV hl _) (by lia) λh1 i1 s1=>?_));have e:List.take its.size (List.drop 0 its.toList)=its.toList:=by
   rw[tI];exact oO (by simp)
  rw[e];rw[if_neg (by simp)];have hl1:h1.IsList l its:=(nV hl _).extBut s1.extBut ne;refine aC (iK (rG hh i1 hl1 (by simp) λh2 e2=>?_));simp only[Option.isSome_none,gW,if_false];refine wpAny_pure (q h2 λb o hb z=>e2 b o hb (s1.extBut b o hb (aJ _ z)))
end
section
variable {X:Cx}{pos:Pos}
def gLst (K:aA)(n:Nat)(t:TGs):TG:=λv σ H Q=>∃a xs,v=.ref a/\SqL K H a xs/\xs.length=n/\t xs σ H Q
theorem Kw {es:List Expr}{k:Nat}{t:TGs}{n:Nat}(hc:X.calm=true)(h:PGs X es t)
  (hn:(oZ es X.env).length=n:=by rfl) (hst:(oZ es X.env).findIdx? (·.1)=none:=by rfl):PG X (.Tuple es k pos) (gLst X.K n t):=by
 intro pins s σ H v u Q I r hw;obtain⟨a,xs,rfl,hq,hl,hw⟩:=hw;cases r;obtain⟨its,rv,ht,hz⟩:=I.list hq;have hsz:its.toArray.size=n:=(by rw[aY,<-rv.length,hl]);rw[arm_assign_Tuple];refine aC (nG ?_);unfold unpack;rw[hn,hst,<-hsz];refine aC (iK (Rh (I.ok.hd hc) ht.isList λh' hx=>?_));have I1:Inv X pins σ H { s with heap:=h' }:=I.kept (t':=s.toks) λb o e=>hx b o (cK (bX e)) e;exact h pins _ σ H xs _ Q I1 (by simpa using rv) hw
theorem Bu {val:Nat->Int}{n:Nat}(h:∀j,j < n->-1000000<=val j/\val j<=1000000):∀j,j<=n->-(1000000 * (j:Int))<=uT val j/\uT val j<=1000000 * (j:Int)
 |0,_=>⟨by show _<=(0:Int);lia,by show(0:Int)<=_;lia⟩
 |j+1,hj=>by
  have z:=Bu h j (by lia);have y:=h j (by lia);show _<=uT val j+val j/\uT val j+val j<=_;lia
def Wl (K:aA):List V->Hp->VK->Prop:=λxs H Q=>∃(a:Addr)(bs:List Bool),xs=[.ref a]/\SqL K H a (bs.map V.bl)/\Q (.bl (bs.all id)) H
theorem Kx (hc:X.calm=true):i9 X (.builtin "all") (Wl X.K):=by
 intro pins s σ H xs us Q I r h;obtain⟨a,bs,rfl,hq,q⟩:=h;obtain⟨u,rfl,ru⟩:=jg r;cases ru;obtain⟨its,rv,pl,hz⟩:=I.list hq;have hl:=pl.isList;have lt:a < s.heap.objs.size:=(by obtain⟨o,ho,_⟩:=hl;exact bX ho);have I1:Inv X pins σ H { s with heap:=s.heap.push { cls:=.type "list_iterator",data:=.fields #[.ref a,.int 0 0] } }:=I.kept (t':=s.toks) λb o e=>aJ _ e;have fI:i8 X pins H s.heap.objs.size:=I.fpOk (aO _) (I.hok.fresh (aO _));have len:its.length=bs.length:=(by rw[<-rv.length,aG]);have tr:TruthOf X.prog X.w X.A.in1 (λi v=>its.toArray[i]?=some v) (λi=>bs.getD i true):=λi v s' Q' E' e hQ=>by
  have e':its[i]?=some v:=(by simpa using e);have hi:i < bs.length:=(by rw[<-len];exact(aK.mp e').1);obtain⟨u,f1,ru⟩:=rv.get (i:=i) (x:=.bl bs[i]) (by rw[eK,aL hi];rfl);rw[e']at f1;cases f1;cases(show v=uG bs[i]from ru);refine jJ ?_;have z:bs.getD i true=bs[i]:=(by rw[eV,aL hi];rfl);have hQ':Q' (bs.getD i true) s':=hQ;rw[z]at hQ';exact hQ'
 refine call_all_walk (hX hl ⟨s.heap.objs.size,[s.heap.objs.size,a],[s.heap.objs.size],its.toArray.size,_,_,λi=>bs.getD i true,rfl,yB (show X.A.in1.handled=none from I.ok.hd hc) s.heap.objs.size a (cK lt) its.toArray,⟨⟨_,cJ _ rfl,rfl,rfl⟩,nV hl _⟩,tr,λh' tk kk=>?_⟩);have ea:(fK its.toArray.size).all (λi=>bs.getD i true)=bs.all id:=by
  rw[aY,len,jM,nU,nU];constructor
  ·intro z b hb;obtain⟨i,hi,rfl⟩:=List.mem_iff_getElem.mp hb;have y:=z i (eZ.mpr hi);rw[eV,aL hi]at y;exact y
  ·intro z i hi;have hi':=eZ.mp hi;rw[eV,aL hi'];exact z _ (nW hi')
 rw[ea];refine⟨.bl _,H,I1.turnedAll (t':=tk) (ch:=[s.heap.objs.size]) (λb hb=>?_) (λb o hb e=>kk b o hb e),rfl,q⟩;cases cE.mp hb;exact⟨fI.1,fI.2.1,fI.2.2.1,fI.2.2.2.1,fI.2.2.2.2.1,fI.2.2.2.2.2⟩
end
end L2
namespace HT
open PySem PyProof.Rows
section
variable {prog:aS}{w:bZ}{A:cW}{E:aB->aI->Prop}{s:aI}
theorem xp {sl:Addr}{t:Tok}{n:Nat}{Q:Int×Int×Nat->aI->Prop}(hs:s.heap.IsSliceOf sl .none .none (.int (-1) t))
  (h:Q ((n:Int) - 1,-1,n) s):aM (aX prog w) A (nK (.ref sl) (pure (n:Int))) Q E s:=by
 obtain⟨os,g1,g2,g3⟩:=id hs;unfold nK Builtin.Slice.sliceFields;refine aC (aC (eC g1 g3 (x:=.none) rfl (aC (eC g1 g3 (x:=.none) rfl (aC (eC g1 g3 (x:=.int (-1) t) rfl (wpAny_pure ?_)))))));refine aC (slicePart_int ?_);show aM _ _ (if ((-1:Int) == 0)=true then _ else _) _ _ s
 rw[if_neg (by decide)];refine aC (sZ (aC (sZ (aC (wpAny_pure ?_)))));show aM _ _ (match jN none none (-1) (n:Int)with | (lo,hi)=>pure (lo,(-1:Int),iB lo hi (-1))) _ _ s
 have e:jN none none (-1) (n:Int)=((n:Int) - 1,-1):=by
  unfold jN;have h1:(-1:Int) < 0:=(by lia);simp only[h1,if_true]
 rw[e];show aM _ _ (pure ((n:Int) - 1,(-1:Int),iB ((n:Int) - 1) (-1) (-1))) _ _ s;have e2:iB ((n:Int) - 1) (-1) (-1)=n:=by
  unfold iB;have h1:¬((-1:Int) > 0):=(by lia);simp only[h1,if_false,Int.neg_neg,wT]
  split<;>lia
 rw[e2];exact wpAny_pure h
theorem Nz (xs:List aB):((fK xs.length).filterMap λ(m:Nat)=>xs.toArray[(((xs.length:Nat):Int) - 1+(m:Int) * (-1)).toNat]?)=xs.reverse:=by
 have e:∀(l:List Nat),(∀m∈l,m < xs.length)->(l.filterMap λ(m:Nat)=>xs.toArray[(((xs.length:Nat):Int) - 1+(m:Int) * (-1)).toNat]?)=l.filterMap λm=>xs.reverse[m]?:=by
  intro l
  induction l with
  |nil=>intro _;rfl
  |cons m r ih=>
   intro hm;have h1:m < xs.length:=hm m eG;have q:(((xs.length:Nat):Int) - 1+(m:Int) * (-1)).toNat=xs.length - 1 - m:=(by lia);rw[gR,gR,ih λk hk=>hm k (cY _ hk),q];have z:xs.toArray[xs.length - 1 - m]?=xs.reverse[m]?:=by
    rw[rK h1];simp
   rw[z]
 rw[e _ λm hm=>eZ.mp hm];have f:∀(ys:List aB)(k:Nat),k<=ys.length->(fK k).filterMap (λm=>ys[m]?)=ys.take k:=by
  intro ys k
  induction k with
  |zero=>intro _;rfl
  |succ k ih=>
   intro hk;rw[jO,jQ,ih (by lia),dJ,aL (by lia:k < ys.length)];simp[aL (by lia:k < ys.length)]
 have g:=f xs.reverse xs.length (by rw[gZ];exact aO _);rw[g,oO (by rw[gZ];exact aO _)]
theorem getItem_tuple_rev {p sl:Addr}{its:List aB}{t:Tok}{Q:aB->aI->Prop}(ht:xN s.heap p its.toArray)(hs:s.heap.IsSliceOf sl .none .none (.int (-1) t))
  (h:Q (.ref s.heap.objs.size) { s with heap:=s.heap.push { cls:=.type "tuple",data:=.seq its.reverse.toArray } }) (hz:its.length<=sizeLine):aM (aX prog w) A (qM (.ref p) (.ref sl)) Q E s:=by
 have ok:sizeOk (.seq its.reverse.toArray):=by
  show its.reverse.toArray.size<=sizeLine;rw[aY,gZ];exact hz
 obtain⟨os,g1,g2,g3⟩:=id hs;have hT:s.TypeIs (.ref sl) "slice":=⟨os,g1,g2⟩;unfold qM
 try with_reducible refine iK ?_
 first | refine aC (wpAny_pure ?_) | skip
 refine aC (wpAny_sequenceKey ht.typeIs (by decide) ?_);refine aC (gQ (name:=iN "__getitem__") ht.typeIs lO (iI lO ht.typeIs entry_tuple_getitem ?_ (args_tuple_getitem _ _)));show aM _ _ (pJ (.ref p) >>= _) _ _ s;refine aC (tupleItemsOf_ ht ?_);refine aC (qD hT ?_);rw[if_pos (by decide)];refine aC (xp hs ?_);have no:¬(((((its.toArray.size:Nat):Int) - 1) == 0 && (-1:Int) == 1 && its.toArray.size == its.toArray.size)=true):=by
  intro q;rw[iO,iO]at q;exact absurd q.1.2 (by decide)
 show aM _ _ (if ((((its.toArray.size:Nat):Int) - 1) == 0 && (-1:Int) == 1 && its.toArray.size == its.toArray.size)=true then _ else _) _ _ s
 rw[if_neg no];have pk:((fK its.toArray.size).filterMap λ(m:Nat)=>its.toArray[(((its.toArray.size:Nat):Int) - 1+(m:Int) * (-1)).toNat]?)=its.reverse:=by
  rw[aY];exact Nz its
 rw[pk]
 first
  |exact aC (m:=iX _) (hZ (wpAny_pure ⟨_,rfl,wpAny_pure h⟩) ok)
  |exact aC (aC (m:=iX _) (hZ (wpAny_pure ⟨_,rfl,wpAny_pure h⟩) ok))
  |exact aC (aC (m:=iX _) (hZ (wpAny_pure (wpAny_pure ⟨_,rfl,wpAny_pure h⟩)) ok))
end
end HT
namespace L2
open PySem PySem.Spec PyProof.Rows
section
variable {X:Cx}{e st:Expr}{te ts:TE}{pos p2:Pos}
def tRev (K:aA)(te ts:TE):TE:=λσ H Q=>te σ H λx H1=>ts σ H1 λy H2=>y=.int (-1)/\∃a xs,x=.ref a/\SqT K H2 a xs/\∀p,H2 p=none->Q (.ref p) (upd H2 p (.tup xs.reverse))
theorem Ri (he:PE X e te)(hs:PE X st ts):PE X (.Subscript e (.Slice none none (some st) p2) pos) (tRev X.K te ts):=by
 intro pins s σ H Q I h;refine Subscript_ (thn (he pins s σ H _ I h) λv s1 h0_=>?_);obtain⟨x,H1,I1,r1,q1⟩:=h0_;refine wpAny_Slice ?_;rw[wH];refine wpAny_pure (wpAny_pure ?_);rw[evalPart_some];refine thn (hs pins s1 σ H1 _ I1 q1) λvs s3 h0_=>?_;obtain⟨y,H3,I3,r3,q3⟩:=h0_;obtain⟨rfl,a,xs,rfl,hx,q⟩:=q3;obtain⟨t,rfl⟩:=r3;cases(show v=cH a from r1);have I4:Inv X pins σ H3 { s3 with heap:=s3.heap.push { cls:=.type "slice",data:=.fields #[.none,.none,.int (-1) t] } }:=I3.kept (t':=s3.toks) λb ob q=>aJ _ q;obtain⟨its,r4,ht,hz⟩:=I4.tuple hx;have lz:its.length<=sizeLine:=(by rw[<-r4.length];exact hz);show aM (aX X.prog X.w) X.A (tV e (.Slice none none (some st) p2) (.ref a) (.ref s3.heap.objs.size)) (EP X pins σ Q) X.xe { s3 with heap:=s3.heap.push { cls:=.type "slice",data:=.fields #[.none,.none,.int (-1) t] } };refine tail_any (ops:=[.ref a,.ref s3.heap.objs.size]) ht.typeIs PyProof.Rows.slot_tuple_getitem.lookup (HT.getItem_tuple_rev ht (Heap.IsSliceOf.new ..) ?_ lz) (by with_unfolding_all rfl)
 refine⟨.ref _,_,I4.laid (t':=s3.toks) (o:=.tup xs.reverse) (λb ob q=>aJ _ q) (aO _) ?_,rfl,q _ (I4.hok.fresh (aO _))⟩;exact⟨by rw[gZ];exact hz,_,r4.reverse,wU _ _⟩
theorem Rj (l b:Addr)(xs ys:Array aB)(n k:Nat)(dd:Option Addr)(sl:Array (Option aB))(hs0:¬(!xs.isEmpty && jT (xs.size+ys.size))=true)(hs1:xs.size<=sizeLine)(hs2:xs.size+ys.size<=sizeLine+1) :
  Meets (jA.«list.extend» ⟨[.ref l,.ref b],[]⟩) (λ_ R s=>s.heap.get? l=some { cls:=.type "list",dict:=none,data:=.seq xs n,slots:=#[] }/\s.heap.get? b=some { cls:=.type "tuple",dict:=dd,data:=.seq ys k,slots:=sl }/\R (.ok (.ret iS)) { s with heap:=s.heap.update l (rX λx=>x++ys),toks:=s.toks }):=
 .of_wp λprog w A R s h=>by
  obtain⟨hp,gs,dr,tk,os⟩:=s;obtain⟨hl,hb,h⟩:=h;have f1:=AutoSeq1.idx_int;have f2:=AutoSeq1.sub_tuple_tuple;have f3:=AutoSeq1.sub_list_list;have f4:=AutoSeq1.sub_tuple_list;have f5:=AutoSeq1.sub_list_tuple;have hz':(xs++ys).size<=sizeLine+1:=by rw[Array.size_append];exact hs2
  wp_walk using(wpAny_updateSeq hl rfl (hz:=hs1) (_hz':=hz')),AutoSeq1.wpAny_loadPart' hl,AutoSeq1.wpAny_loadPart' hb
  exact⟨_,rfl,h⟩
def Wm (K:aA):V->List V->Hp->VK->Prop:=λx vs H Q=>∃l b xs zs,x=.ref l/\vs=[.ref b]/\H l=some (.lst xs)/\SqT K H b zs/\xs.length+zs.length<=sizeLine/\Q .non (upd H l (.lst (xs++zs)))
theorem Rk:MtM X "list.extend" (Wm X.K):=by
 intro pins s σ H x vs v us Q I rx rv h;obtain⟨l,b,xs,zs,rfl,rfl,hH,hB,hz,q⟩:=h;cases rx;obtain⟨u,rfl,ru⟩:=rv.one;cases ru;obtain⟨z,its,n,r,hl,e⟩:=I.lstM hH;obtain⟨its2,r2,p2,_⟩:=I.tuple hB;have hl2:=r2.length;obtain⟨⟨c2,d2,t2,l2⟩,g2,k2,n2,z2⟩:=id p2;simp only at k2 z2;subst k2 z2;have hsz:its.toArray.size+its2.toArray.size<=sizeLine:=(by rw[aY,aY];lia);have hlong:¬(!its.toArray.isEmpty && jT (its.toArray.size+its2.toArray.size))=true:=by
  rw[xo hsz,vU];exact cU
 refine pC F.slot_list_extend ⟨_,e,rfl⟩ F.entry_list_extend (F.args_list_extend_2 _ _) (Rj l b its.toArray its2.toArray n n2 d2 l2 hlong (by rw[aY];lia) (by lia)) ⟨e,g2,?_⟩;refine⟨.non,_,I.lset (its':=its++its2) hH e (by simp) (r.append r2) ?_,rfl,q⟩;rw[aN];lia
end
theorem An {K:aA}{H:Hp}{a:Addr}{o:Obj}{its:Array aB}{n:Nat}{xs:List V}(l:K.lookup a=some o)(c:o.cls=.type "tuple")(d:o.data=.seq its n)(z:its.size<=sizeLine)(r:Vals xs its.toList):SqT K H a xs:=
 .inr ⟨o,its,n,l,c,d,z,r⟩
section
variable {X:Cx}{es:List Expr}{te:TE}{t:TA}
theorem bj {c:Const}{k:Nat}{p:Pos}(ha:PE X (.Constant c k p) te)(hr:PA X es t):PA X (.Constant c k p::es) (yh te t):=ac ha hr
theorem qg {x:Str}{p:Pos}(ha:PE X (.Name x p) te)(hr:PA X es t):PA X (.Name x p::es) (yh te t):=ac ha hr
theorem vd {l:List Expr}{k:Nat}{p:Pos}(ha:PE X (.Tuple l k p) te)(hr:PA X es t):PA X (.Tuple l k p::es) (yh te t):=ac ha hr
end
end L2
namespace Fly
open PySem
open Sem (wp)
def Tb (B h:Heap)(e:Addr)(vs:Array aB):Option aB->Prop
 |none=>vs[1]?=some .none
 |some f=>∃T oT ts,vs[1]?=some (.ref T)/\B.get? T=none/\T≠e/\h.get? T=some oT/\oT.data=.fields ts/\ts[3]?=some f
structure XAt (B:Heap)(l:List Env)(e:Addr)(cls:aB)(dct:Option Addr)(fl:Option aB)(h:Heap):Prop where
 stays:B.StaysIn h
 new:B.get? e=none
 frames:h.FunFrames B l
 obj:∃oe vs,h.get? e=some oe/\oe.cls=cls/\oe.dict=dct/\oe.data=.fields vs/\1 < vs.size/\Tb B h e vs fl
theorem XAt.drop {B:Heap}{env:Env}{l:List Env}{e:Addr}{cls:aB}{dct:Option Addr}{fl:Option aB}{h:Heap}(x:XAt B (env::l) e cls dct fl h):XAt B l e cls dct fl h:=
 ⟨x.stays,x.new,x.frames.2.2,x.obj⟩
theorem Rm (o:Obj)(f):(o.mapFields f).dict=o.dict:=by
 unfold pK;split<;>rfl
section
variable {M:tJ}{A:cW}{E:aB->aI->Prop}{s:aI}
theorem entry {B:Heap}{env:Env}{outer:List Env}{L e:Addr}{oe:Obj}{vs:Array aB}{head:aB}{more:Bool}{Q:Unit->aI->Prop}
  (hfr:A.frames=some (env::outer)) (hl:s.heap.FunFrames B (env::outer)) (hf:env.frame=some L) (he:s.heap.get? e=some oe) (hkb:B.StaysIn s.heap) (hen:B.get? e=none) (hd:oe.data=.fields vs) (hsz:1 < vs.size)
  (h:∀h',XAt B (env::outer) e oe.cls oe.dict (some (jC L)) h'->s.heap.UpToSlots h'->Q () { s with heap:=h' }) :
  aM M A (do let a <-frameOf env;let pl <-entryPlaceOf L more;let b <-EntryCells.newEntry head a .none (jC L) .none pl;wD (.ref e) 1 b) Q E s:=by
 have nf:e ∉ (env::outer).filterMap (·.frame):=by
  intro hm;obtain⟨_,o,ho,z⟩:=hl.mem hm;rw[he]at ho;cases ho;exact z vs hd
 refine aC (wpAny_frameOf_fun hfr hl hf λh1 hs1=>?_);refine aC (wpAny_entryPlaceOf λpl hpl=>?_);unfold EntryCells.newEntry newFields;refine aC (hZ ?_ (hpl.sizeOk5 _ _ _ _ _));have tb3:(([head,.ref L,.none,jC L,.none]++(if pl.isEmpty then dQ 6 iS else pl)).toArray:Array aB)[3]?=some (jC L):=by
  first | (simp;done) | (rcases hpl with rfl | ⟨_,_,_,_,_,_,_,rfl⟩<;>simp)
 generalize ([head,.ref L,.none,jC L,.none]++(if pl.isEmpty then dQ 6 iS else pl)).toArray=ts at tb3 ⊢
 have e1:h1.get? e=some oe:=(hs1.2.1 e nf).trans he;have k1:B.StaysIn h1:=λb o q=>(hs1.2.1 b λhm=>by rw[(hl.mem hm).1]at q;cases q).trans (hkb b o q);have e2:=aJ (h:=h1) { cls:=.type "traceback",dict:=none,data:=.fields ts } e1;refine qN e2 hd hsz ?_;have ne:h1.objs.size≠e:=gT (bX e1);have d3:=oK hd (·.setIfInBounds 1 (cH h1.objs.size));have e3:=jP (pK (·.setIfInBounds 1 (cH h1.objs.size))) e2 (rJ d3);have t3:=(jH (h1.push { cls:=.type "traceback",dict:=none,data:=.fields ts }) (pK (·.setIfInBounds 1 (cH h1.objs.size))) (gH ne)).trans (cJ h1 rfl);have kp:∀b o,b≠e->h1.get? b=some o->((h1.push { cls:=.type "traceback",dict:=none,data:=.fields ts }).update e (pK (·.setIfInBounds 1 (cH h1.objs.size)))).get? b=some o:=by
  intro b o hb q;rw[jH _ _ (gH hb)];exact aJ _ q
 have nr:∀b o,s.heap.get? b=some o->(∀vs,o.data≠.fields vs)->b≠e:=by
  intro b o q z w;subst w;rw[he]at q;cases q;exact z vs hd
 refine h _ ⟨λb o q=>kp b o (λw=>by rw[w,hen]at q;cases q) (k1 b o q),hen,hl.of_keeps λb o q z=>?_,?_⟩ λb o q z=>?_
 ·obtain⟨sl,hs⟩:=hs1.2.2 b o q;exact⟨_,kp b _ (nr b o q z) hs,rfl⟩
 ·exact⟨_,_,e3,Obj.cls_mapFields _ _,Rm _ _,d3,by simpa using hsz,h1.objs.size,_,_,by simp[hsz],k1.fresh,ne,t3,rfl,tb3⟩
 ·obtain⟨sl,hs⟩:=hs1.2.2 b o q;exact⟨sl,kp b _ (nr b o q z) hs⟩
theorem note {B:Heap}{env:Env}{outer:List Env}{L e:Addr}{cls:aB}{dct:Option Addr}{fl:Option aB}{Q:Unit->aI->Prop}
  (hfr:A.frames=some (env::outer)) (hf:env.frame=some L) (x:XAt B (env::outer) e cls dct fl s.heap) (hfl:fl=none\/fl=some .none)
  (h:∀h',XAt B (env::outer) e cls dct (some (jC L)) h'->s.heap.UpToSlots h'->Q () { s with heap:=h' }):aM M A (noteFrame (.ref e) env) Q E s:=by
 obtain⟨k,en,l,oe,vs,he,rfl,rfl,hd,hsz,tb⟩:=x;unfold noteFrame;simp only[hf];rcases hfl with rfl | rfl
 ·refine aC (eC he hd (show vs[1]?=some .none from tb) ?_);rw[if_neg (by decide)];exact entry hfr l hf he k en hd hsz h
 ·obtain⟨T,oT,ts,h1,nT,ne,hT,dT,h3⟩:=(show ∃T oT ts,vs[1]?=some (.ref T)/\B.get? T=none/\T≠e/\s.heap.get? T=some oT/\oT.data=.fields ts/\ts[3]?=some .none from tb);refine aC (eC he hd h1 ?_);rw[if_pos (show(cH T != iS)=true from by simp)];refine aC (eC hT dT h3 ?_);rw[if_neg (show ¬((iS == jC L)=true)from by simp[jC])];refine aC (qN hT dT (Array.getElem?_eq_some_iff.mp h3).1 ?_);have ot:∀b,b≠T->(s.heap.update T (pK (·.setIfInBounds 3 iS))).get? b=s.heap.get? b:=λb hb=>jH _ _ (gH hb);have nr:∀b o,s.heap.get? b=some o->(∀vs,o.data≠.fields vs)->b≠T:=by
   intro b o q z w;subst w;rw[hT]at q;cases q;exact z ts dT
  refine entry hfr (l.of_keeps λb o q z=>⟨o,(ot b (nr b o q z)).trans q,rfl⟩) hf ((ot e (gH ne)).trans he) (λb o q=>(ot b λw=>by rw[w,nT]at q;cases q).trans (k b o q)) en hd hsz λh' y u=>?_;exact h h' y λb o q z=>u b o ((ot b (nr b o q z)).trans q) z
theorem land {B:Heap}{l:List Env}{e:Addr}{cls f:aB}{dct:Option Addr}{Q:Unit->aI->Prop}(x:XAt B l e cls dct (some f) s.heap)
  (h:∀h',XAt B l e cls dct (some .none) h'->s.heap.UpToSlots h'->Q () { s with heap:=h' }):aM M A (setFlight (.ref e) none) Q E s:=by
 obtain⟨k,en,hl,oe,vs,he,rfl,rfl,hd,hsz,tb⟩:=x;obtain⟨T,oT,ts,h1,nT,ne,hT,dT,h3⟩:=(show ∃T oT ts,vs[1]?=some (.ref T)/\B.get? T=none/\T≠e/\s.heap.get? T=some oT/\oT.data=.fields ts/\ts[3]?=some f from tb);have z3:3 < ts.size:=(Array.getElem?_eq_some_iff.mp h3).1;have ot:∀b,b≠T->(s.heap.update T (pK (·.setIfInBounds 3 ((none:Option Addr).elim iS λf=>jC f)))).get? b=s.heap.get? b:=λb hb=>jH _ _ (gH hb);have nr:∀b o,s.heap.get? b=some o->(∀vs,o.data≠.fields vs)->b≠T:=by
  intro b o q z w;subst w;rw[hT]at q;cases q;exact z ts dT
 unfold setFlight;refine aC (eC he hd h1 ?_);rw[if_pos (show(cH T != iS)=true from by simp)];refine qN hT dT z3 (h _ ⟨λb o q=>(ot b λw=>by rw[w,nT]at q;cases q).trans (k b o q),en,hl.of_keeps λb o q z=>⟨o,(ot b (nr b o q z)).trans q,rfl⟩,?_⟩ λb o q z=>⟨o.slots,(ot b (nr b o q z)).trans q⟩);exact⟨oe,vs,(ot e (gH ne)).trans he,rfl,rfl,hd,hsz,T,_,_,h1,nT,ne,jP _ hT (rJ (oK dT _)),oK dT _,by simp[z3]⟩
theorem leave {B:Heap}{env:Env}{outer:List Env}{L e:Addr}{cls:aB}{dct:Option Addr}{fl:Option aB}{Q:Unit->aI->Prop}
  (hfr:A.frames=some (env::outer)) (hf:env.frame=some L) (x:XAt B (env::outer) e cls dct fl s.heap) (hfl:fl=none\/fl=some .none)
  (h:∀h',XAt B outer e cls dct (some .none) h'->s.heap.UpToSlots h'->Q () { s with heap:=h' }):aM M A (leaving env (.ref e)) Q E s:=by
 unfold leaving;refine aC (note hfr hf x hfl λh1 x1 u1=>land x1 λh2 x2 u2=>?_);exact h h2 x2.drop (u1.trans u2)
end
end Fly
namespace Fly
open PySem
open Sem (wp)
abbrev mh {α:Type}(M:tJ)(h:Heap)(t:Sem α)(r:α):Prop:=
 ∀(A:cW)(Q:α->aI->Prop) (E:aB->aI->Prop) (s:aI),(∀b o,h.get? b=some o->s.heap.get? b=some o)->Q r s->aM M A t Q E s
section
variable {prog:aS}{w:bZ}{A:cW}{E:aB->aI->Prop}{h:Heap}{g:Array uL}{d:xQ}{t:Nat}{os:yE}
variable {nm q:Str}{C N:Addr}{bs bm bmB:List aB}{hdct:Bool}{sn:List Str}{sub:List aB}{ab:Bool}{col:Option Bool}{dd:Option Addr}{k0 k1 k2 k3 k5:Option aB}{B newId initId:String}
theorem Rn (F:qE B newId initId bmB)(cB:bm.contains (.type B)=true){M:tJ}{rest:List aB}{Q:Unit->aI->Prop}
  (hC:h.get? C=some (gL nm q C N bs bm hdct sn sub ab col dd k0 k1 k2 k3 k5 newId)) (hq:Q () ⟨h,g,d,t,os⟩):aM M A (jE newId ⟨.ref C::rest,[]⟩) Q E ⟨h,g,d,t,os⟩:=by
 have c1:(cH C::bm).contains (.type B)=true:=(by rw[gO,cB,nA]);have c2:=F.noStar;simp only[jE,F.newKind,F.newSplit,F.newRow]
 repeat (first
   |refine eO hC ?_
   | (refine jL hC ?_;rw[c1])
   |refine wpAny_staticBase_exc hC ?_
   |refine wpAny_madeBy_exc hC ?_
   |simp only[bne_self_eq_false,gW,if_false]
   |wp_step)
 exact hq
theorem Ro {R:wO->aI->Prop}(F:qE B newId initId bmB)(cB:bm.contains (.type B)=true)(cA:bm.contains (.type "AttributeError")=false)(cN:bm.contains (.type "NameError")=false){rest:List aB}
  (hC:h.get? C=some (gL nm q C N bs bm hdct sn sub ab col dd k0 k1 k2 k3 k5 newId))
  (hq:R (.ok (.ret (.ref (h.objs.size+1)))) ⟨(h.push { cls:=.type "tuple",data:=.seq rest.toArray }).push { cls:=.ref C,data:=.fields #[.ref h.objs.size,.none,.none,.none,.bool false,.none] },g,d,t,os⟩) (hrest:rest.length<=sizeLine) :
  nQ (aX prog w) A (.builtin newId ⟨.ref C::rest,[]⟩) R ⟨h,g,d,t,os⟩:=by
 have f1:=F.ends;have c1:(cH C::bm).contains (.type B)=true:=(by rw[gO,cB,nA]);have c2:(cH C::bm).contains (.type "AttributeError")=false:=(by rw[gO,cA];rfl);have c3:(cH C::bm).contains (.type "NameError")=false:=(by rw[gO,cN];rfl);refine codeAny_builtinAt F.entry ?_;unfold jA.«BaseException.__new__»;refine wpAt_bind ?_;show wpAt _ _ _ (stack >>= _) _ _ _;refine wpAt_bind (wpAt_stack λp below=>wpAt_of_wpAny ?_)
 wp_walk
 refine wpAt_of_wpAny ?_;rw[F.owner]
 repeat (first
   |with_reducible refine wpAny_madeHere_exc F.canon hC ?_
   |with_reducible refine eO hC ?_
   | (with_reducible refine jL hC ?_;first | rw[c1] | rw[c2] | rw[c3])
   |wp_step)
 show R _ _;rw[gP];exact hq
theorem Hu (F:qE B newId initId bmB)(cB:bm.contains (.type B)=true)(cA:bm.contains (.type "AttributeError")=false)(cN:bm.contains (.type "NameError")=false){rest:List aB}{fI:Addr}{oI:Obj}{Q:Fin->aI->Prop}
  (hC:h.get? C=some (gL nm q C N bs bm hdct sn sub ab col dd k0 k1 k2 k3 k5 newId)) (hi:mh (aX prog w) h (iU (.ref C) "__init__") (some (.ref fI)))
  (hfI:h.get? fI=some oI) (hfc:oI.cls=.type "function")
  (hq:∀h' e,h.objs.size<=e->Heap.MadeExcOf h h' e (.ref C) rest->aM (aX prog w) A (call (.ref fI) (.ref e::rest)) (λr s'=>r=.none/\Q (.done (.ret (.ref e))) s') E ⟨h',g,d,t,os⟩) (hrest:rest.length<=sizeLine) :
  aM (aX prog w) A (jA.«type.__call__» ⟨.ref C::rest,[]⟩) Q E ⟨h,g,d,t,os⟩:=by
 repeat (first
   |with_reducible refine eO hC ?_
   |with_reducible refine wpAny_madeBy_exc hC ?_
   |wp_step)
 refine codeAny_call_builtin_code (tR _ F.quiet) (Rn F cB hC ?_);refine Ro F cB cA cN hC ?_ hrest;show aM _ _ _ _ _ _;have kp:∀b o,h.get? b=some o->((h.push { cls:=.type "tuple",data:=.seq rest.toArray }).push { cls:=.ref C,data:=.fields #[.ref h.objs.size,.none,.none,.none,.bool false,.none] }).get? b=some o:=
  λb o z=>aJ _ (aJ _ z)
 have hC1:=kp _ _ hC;have hfI1:=kp _ _ hfI;have he:((h.push { cls:=.type "tuple",data:=.seq rest.toArray }).push { cls:=.ref C,data:=.fields #[.ref h.objs.size,.none,.none,.none,.bool false,.none] }).get? (h.objs.size+1)
   = some { cls:=.ref C,data:=.fields #[.ref h.objs.size,.none,.none,.none,.bool false,.none] }:=by heap_get
 have c3:(cH C::bm).contains (.ref C)=true:=(by simp);unfold sC
 repeat (first
   |with_reducible refine eO he ?_
   | (with_reducible refine jL hC1 ?_;rw[c3])
   |wp_step)
 show aM _ _ (iU (.ref C) _) _ _ _;refine hi _ _ _ _ kp ?_;refine iK (aC ?_);unfold bindSpecial;refine aC (qD (T:="function") ⟨_,hfI1,hfc⟩ ?_);rw[if_pos (by decide)];refine wpAny_pure (aC (gC (hq _ (h.objs.size+1) (vM _) ⟨kp,oY (vM _),h.objs.size,he,oY (aO _),?_⟩) (λr s' hr=>?_) λ_ _ x=>x))
 ·exact aJ _ (Heap.get?_push_at rfl rfl)
 ·obtain⟨rfl,hQ⟩:=hr
  wp_walk
  exact hQ
theorem Ky (F:qE B newId initId bmB)(cB:bm.contains (.type B)=true)(cA:bm.contains (.type "AttributeError")=false)(cN:bm.contains (.type "NameError")=false){rest:List aB}{fI:Addr}{oI:Obj}{Q:aB->aI->Prop}
  (hC:h.get? C=some (gL nm q C N bs bm hdct sn sub ab col dd k0 k1 k2 k3 k5 newId)) (hi:mh (aX prog w) h (iU (.ref C) "__init__") (some (.ref fI)))
  (hfI:h.get? fI=some oI) (hfc:oI.cls=.type "function")
  (hq:∀h' e,h.objs.size<=e->Heap.MadeExcOf h h' e (.ref C) rest->aM (aX prog w) (A.under (.builtin "type.__call__" ⟨.ref C::rest,[]⟩)) (call (.ref fI) (.ref e::rest)) (λr s'=>r=.none/\Q (.ref e) s') E ⟨h',g,d,t,os⟩) (hrest:rest.length<=sizeLine) :
  aM (aX prog w) A (call (.ref C) rest) Q E ⟨h,g,d,t,os⟩:=by
 have f1:=tc_lookup;have f2:=tc_bind (.ref C);have hT:(⟨h,g,d,t,os⟩:aI).TypeIs (.ref C) "type":=⟨_,hC,rfl⟩;refine rW (codeAny_of_tree ?_);show aM _ _ (callAny (.ref C) _) _ _ _
 repeat (any_goals (first
   |assumption
   |with_reducible refine eO hC ?_
   |wp_step))
 refine⟨rfl,?_⟩;refine codeAny_call_builtin_at (tR _ (by decide +kernel)) entry_typeCall (wpAny_check_type_call_sub hC (Hu (hrest:=hrest) F cB cA cN hC hi hfI hfc λh' e sz hm=>?_));exact hq h' e sz hm
theorem N0 (F:qE B newId initId bmB)(cB:bm.contains (.type B)=true){M:tJ}{e:Addr}{oe:Obj}{rest:List aB}{Q:Unit->aI->Prop}{nid:String}
  (hC:h.get? C=some (gL nm q C N bs bm hdct sn sub ab col dd k0 k1 k2 k3 k5 nid)) (he:h.get? e=some oe) (hcls:oe.cls=.ref C) (hq:Q () ⟨h,g,d,t,os⟩) :
  aM M A (jE initId ⟨.ref e::rest,[]⟩) Q E ⟨h,g,d,t,os⟩:=by
 have c1:(cH C::bm).contains (.type B)=true:=(by rw[gO,cB,nA]);have c2:=F.noStar;simp only[jE,F.initKind,F.initSplit,F.initRow]
 repeat (first
   | (with_reducible refine eO he ?_;rw[hcls])
   |with_reducible refine eO hC ?_
   | (with_reducible refine jL hC ?_;rw[c1])
   |wp_step)
 refine pL ?_;rw[show ∀(a b:String)(n:Nat),Bind.check ⟨.positional,"*",B,.self,[⟨"args",.varPos,false⟩]⟩ a b n (List.map (λx=>x.fst) ({ pos:=.ref e::rest }:Args).kw)=pure ()from λa b n=>check_star_args _ _ _ _ _ _];exact wpAny_pure hq
theorem Kz (F:qE B newId initId bmB)(cB:bm.contains (.type B)=true){e t0:Addr}{dct:Option Addr}{rest:List aB}{Q:aB->aI->Prop}{nid:String}
  (hC:h.get? C=some (gL nm q C N bs bm hdct sn sub ab col dd k0 k1 k2 k3 k5 nid)) (he:h.get? e=some { cls:=.ref C,dict:=dct,data:=.fields #[.ref t0,.none,.none,.none,.bool false,.none] }) (hrest:rest.length<=sizeLine)
  (hq:∀h' t1,(∀b o,b≠e->h.get? b=some o->h'.get? b=some o)->h'.get? e=some { cls:=.ref C,dict:=dct,data:=.fields #[.ref t1,.none,.none,.none,.bool false,.none] }->Q .none ⟨h',g,d,t,os⟩) :
  aM (aX prog w) A (call (.builtin initId) (.ref e::rest)) Q E ⟨h,g,d,t,os⟩:=by
 refine rW (nM F.init.plain F.initEntry (N0 F cB hC he rfl ?_))
 wp_walk
 refine hq _ h.objs.size (λb o hb z=>?_) ?_
 ·rw[jH _ _ (gH hb)];exact aJ _ z
 ·rw[jP _ (aJ _ he) rfl];rfl
end
end Fly
namespace Fly
open PySem
open Sem (wp)
open Builtin Builtin.ObjectAttr
section
variable {prog:aS}{w:bZ}{A:cW}{E:aB->aI->Prop}{h:Heap}{g:Array uL}{d:xQ}{t:Nat}{os:yE}
variable {nm q:Str}{C N x:Addr}{bs bm bmB:List aB}{sn:List Str}{sub:List aB}{ab:Bool}{col:Option Bool}{dd:Option Addr}{k0 k1 k2 k3 k5:Option aB}{B newId sa owner:String}{name:Str}{v:aB}
theorem Rp {o:Obj}{tk:Tok}{Q:Fin->aI->Prop}(pass:∀self:aB,yC self "__setattr__" bm=pure ())
  (hC:h.get? C=some (gL nm q C N bs bm true sn sub ab col dd k0 k1 k2 k3 k5 newId)) (hna:mh (aX prog w) h (iU (.ref C) name) none)
  (hx:h.get? x=some o) (hc:o.cls=.ref C) (hnc:∀c,o.data≠.cls c) (hdn:o.dict=none)
  (hq:∀h' t' dx,h.get? dx=none->dx≠x->h.objs.size<=dx->h'.get? x=some { o with dict:=some dx }->h'.Ns1 dx (λy=>if y=name then some v else none)->(∀b u,b≠x->h.get? b=some u->h'.get? b=some u)->Q (.done (.ret .none)) ⟨h',g,d,t',os⟩) :
  aM (aX prog w) A (jA.«object.__setattr__» ⟨[.ref x,.str name tk,v],[]⟩) Q E ⟨h,g,d,t,os⟩:=by
 have ps:=pass (.ref x);have kk:∀b u,h.get? b=some u->h.get? b=some u:=λ_ _ z=>z;unfold jA.«object.__setattr__»
 repeat (first
   |rw[refuse_eq]
   | (rw[vW,ps])
   | (with_reducible refine eO hx ?_;rw[hc])
   |with_reducible refine wpAny_mroOf_exc hC ?_
   |refine hna _ _ _ _ kk ?_
   |wp_step)
 rw[hdn,if_neg (by simp[typeHasDict])]
 split
 ·rename_i z
  cases z
 split
 ·rename_i c z
  exact absurd z (hnc c)
 ·have hx1:(h.push { cls:=.type "dict",data:=.dict #[] }).get? x=some o:=aJ _ hx;have hs:x≠h.objs.size:=cK (bX hx);refine aC (wpAny_alloc' (aC (wpAny_update' hx1 (wpAny_pure ?_))));have gd:((h.push { cls:=.type "dict",data:=.dict #[] }).update x λo=>{ cls:=o.cls,dict:=some h.objs.size,data:=o.data,slots:=o.slots }).get? h.objs.size=some { cls:=.type "dict",data:=.dict #[] }:=
   (Heap.get?_update_ne _ _ _ _ hs.symm).trans (Heap.get?_push_at rfl rfl)
  have nd:((h.push { cls:=.type "dict",data:=.dict #[] }).update x λo=>{ cls:=o.cls,dict:=some h.objs.size,data:=o.data,slots:=o.slots }).Ns h.objs.size (λ_=>none):=⟨_,#[],_,gd,rfl,λe he=>absurd he (by simp),λ_=>rfl⟩;show aM _ _ (storeInDict h.objs.size (.str name tk) name v) _ _ _;unfold storeInDict newKeyGuard;refine aC (wpAny_pure (aC (wN (Heap.Ns1.of_empty nd) λh' hn' sz=>?_)));obtain⟨oD,esD,epD,hoD,hdD,hcD⟩:=hn'.count (Within.cons name v Within.nil);refine aC (uM hoD (by rw[hdD];exact uN (bK hcD (by rw[dX,lS,lF];lia))) ?_)
  wp_walk
  refine hq h' _ h.objs.size (oY (aO _)) hs.symm (aO _) ?_ hn' λb u hb z=>?_
  ·refine(sz.2 x hs).trans (jP _ hx1 ?_);have fr:=(Heap.get?_some_iff.mp hx).2;obtain⟨oc,od,odt,osl⟩:=o;cases odt<;>first | rfl | exact fr
  ·exact(sz.2 b (cK (bX z))).trans ((Heap.get?_update_ne _ _ _ _ hb).trans (aJ _ z))
theorem N1 {o:Obj}{tk:Tok}{dx:Addr}{mA:Str->Option aB}{ns:List Str}{Q:Fin->aI->Prop}(pass:∀self:aB,yC self "__setattr__" bm=pure ())
  (hC:h.get? C=some (gL nm q C N bs bm true sn sub ab col dd k0 k1 k2 k3 k5 newId)) (hna:mh (aX prog w) h (iU (.ref C) name) none)
  (hx:h.get? x=some o) (hc:o.cls=.ref C) (hdx:o.dict=some dx) (hns:h.Ns1 dx mA) (hw:Within mA ns) (hsz:ns.length < sizeLine)
  (hq:∀h' t',h'.Ns1 dx (λy=>if y=name then some v else mA y)->(∀b u,b≠dx->h.get? b=some u->h'.get? b=some u)->Q (.done (.ret .none)) ⟨h',g,d,t',os⟩) :
  aM (aX prog w) A (jA.«object.__setattr__» ⟨[.ref x,.str name tk,v],[]⟩) Q E ⟨h,g,d,t,os⟩:=by
 have ps:=pass (.ref x);have kk:∀b u,h.get? b=some u->h.get? b=some u:=λ_ _ z=>z;unfold jA.«object.__setattr__»
 repeat (first
   |rw[refuse_eq]
   | (rw[vW,ps])
   | (with_reducible refine eO hx ?_;rw[hc])
   |with_reducible refine wpAny_mroOf_exc hC ?_
   |refine hna _ _ _ _ kk ?_
   |wp_step)
 rw[hdx];refine wpAny_pure ?_;show aM _ _ (storeInDict dx (.str name tk) name v) _ _ _;unfold storeInDict newKeyGuard;refine aC (wpAny_pure (aC (wN hns λh' hn' sz=>?_)));obtain⟨oD,esD,epD,hoD,hdD,hcD⟩:=hn'.count (Within.cons name v hw);refine aC (uM hoD (by rw[hdD];exact uN (bK hcD (by rw[dX];lia))) ?_)
 wp_walk
 exact hq h' _ hn' λb u hb z=>(sz.2 b hb).trans z
theorem K0 {o:Obj}{Q:Unit->aI->Prop}(SF:StoreFacts B bmB sa owner)(cO:bm.contains (.type owner)=true)
  (hC:h.get? C=some (gL nm q C N bs bm true sn sub ab col dd k0 k1 k2 k3 k5 newId)) (hsa:mh (aX prog w) h (iU (.ref C) "__setattr__") (some (.builtin sa)))
  (hx:h.get? x=some o) (hc:o.cls=.ref C)
  (hq:∀tk t',aM (aX prog w) A.in1 (jA.«object.__setattr__» ⟨[.ref x,.str name tk,v],[]⟩) (λfin s'=>∃r,fin=.done (.ret r)/\Q () s') (λ_ _=>False) ⟨h,g,d,t',os⟩) :
  aM (aX prog w) A (yD (.ref x) name v) Q E ⟨h,g,d,t,os⟩:=by
 have f3:=SF.slot.bind (.ref x);have c1:(cH C::bm).contains (.type owner)=true:=(by rw[gO,cO,nA]);have kk:∀b o,h.get? b=some o->h.get? b=some o:=λ_ _ z=>z;unfold yD callSpecial? specialOf
 repeat (any_goals (first
   |assumption
   | (with_reducible refine eO hx ?_;rw[hc])
   |refine hsa _ _ _ _ kk ?_
   |wp_step))
 refine nM SF.slot.plain SF.entry ?_;show aM _ _ (jE sa ⟨[.ref x,.str name t,v],[]⟩) _ _ _;have ha:=SF.args (.ref x) (.str name t) v;have go:aM (aX prog w) A.in1 (jA.«object.__setattr__» ⟨[.ref x,.str name t,v],[]⟩) (λfin s'=>match fin with
     | .done f=>(λr s'=>match r with | .ok (.ret v)=>aM (aX prog w) A (pure (some v)) (λa s'=>aM (aX prog w) A (match a with | some val=>pure PUnit.unit | x=>unsupported "internal:no-__setattr__") Q E s') E s' | .ok a=>False | .error e=>E e s') (Except.ok f) s'
     | .again c'=>c'.quiet=true/\nQ (aX prog w) A c' (λr s'=>match r with | .ok (.ret v)=>aM (aX prog w) A (pure (some v)) (λa s'=>aM (aX prog w) A (match a with | some val=>pure PUnit.unit | x=>unsupported "internal:no-__setattr__") Q E s') E s' | .ok a=>False | .error e=>E e s') s') (λe s'=>E e s') ⟨h,g,d,t+1,os⟩:=by
  refine gC (hq t (t+1)) (λfin s' z=>?_) λ_ _ z=>z.elim;obtain⟨r,rfl,z⟩:=z;exact wpAny_pure (wpAny_pure z)
 simp only[jE,SF.kind,SF.split];refine aC ?_;unfold sC
 repeat (first
   | (with_reducible refine eO hx ?_;rw[hc])
   | (with_reducible refine jL hC ?_;rw[c1])
   |wp_step)
 cases hsig:Manifest.signature? sa with
 |none=>exact wpAny_pure go
 |some sig=>
  simp only[argsOk,hsig]at ha;have h2:Bind.checkArgs sa sig ⟨[.ref x,.str name t,v],[]⟩=pure ():=ha;show aM _ _ (Bind.checkArgs sa sig ⟨[.ref x,.str name t,v],[]⟩) _ _ _;rw[h2];exact wpAny_pure go
end
end Fly
namespace Fly
open PySem
open Sem (wp)
open Builtin Builtin.ObjectAttr
section
variable {prog:aS}{w:bZ}{A:cW}{E:aB->aI->Prop}{h:Heap}{g:Array uL}{d:xQ}{t:Nat}{os:yE}
variable {nm q:Str}{C N x:Addr}{bs bm bmB:List aB}{hdct:Bool}{sn:List Str}{sub:List aB}{ab:Bool}{col:Option Bool}{dd:Option Addr}{k0 k1 k2 k3 k5:Option aB}{B newId:String}{name:Str}{v:aB}
theorem Wn {o:Obj}{tk:Tok}{dx:Addr}{mA:Str->Option aB}{vs:Array aB}{Q:Fin->aI->Prop}
  (hC:h.get? C=some (gL nm q C N bs bm true sn sub ab col dd k0 k1 k2 k3 k5 newId)) (hna:mh (aX prog w) h (iU (.ref C) name) none)
  (hx:h.get? x=some o) (hc:o.cls=.ref C) (hd:o.data=.fields vs) (hdx:o.dict=some dx) (hns:h.Ns dx mA) (hv:mA name=some v) (ho:handedOut v=pure v) (hq:Q (.done (.ret v)) ⟨h,g,d,t,os⟩) :
  aM (aX prog w) A (jA.«object.__getattribute__» ⟨[.ref x,.str name tk],[]⟩) Q E ⟨h,g,d,t,os⟩:=by
 have kk:∀b u,h.get? b=some u->h.get? b=some u:=λ_ _ z=>z
 repeat (any_goals (first
   |assumption
   | (with_reducible refine eO hx ?_;rw[hc])
   |refine hna _ _ _ _ kk ?_
   |wp_step))
 rw[hd];dsimp only;unfold instanceDict
 repeat (any_goals (first
   |assumption
   | (with_reducible refine eO hx ?_;rw[hc])
   |wp_step))
 rw[hdx];refine wpAny_pure ?_;refine wpAny_nsGet hns ?_;rw[hv]
 repeat (any_goals (first
   |assumption
   |wp_step))
theorem K1 {M:tJ}{o:Obj}{nameV:aB}{Q:Unit->aI->Prop}(hC:h.get? C=some (gL nm q C N bs bm hdct sn sub ab col dd k0 k1 k2 k3 k5 newId))(cB:bm.contains (.type "BaseException")=true)
  (hx:h.get? x=some o) (hc:o.cls=.ref C) (hq:Q () ⟨h,g,d,t,os⟩):aM M A (jE "BaseException.__getattribute__" ⟨[.ref x,nameV],[]⟩) Q E ⟨h,g,d,t,os⟩:=by
 have f1:builtinKind "BaseException.__getattribute__"=some .slot:=(by decide +kernel);have f2:splitId "BaseException.__getattribute__"=some ("BaseException","__getattribute__"):=(by decide +kernel);have c1:(cH C::bm).contains (.type "BaseException")=true:=(by rw[gO,cB];rfl);have ha:=F.args_bexc_ga (.ref x) nameV;simp only[jE,f1,f2];refine aC ?_;unfold sC
 repeat (first
   | (with_reducible refine eO hx ?_;rw[hc])
   | (with_reducible refine jL hC ?_;rw[c1])
   |wp_step)
 exact hq
theorem Wo {o:Obj}{dx:Addr}{mA:Str->Option aB}{vs:Array aB}{expr:Bool}{Q:aB->aI->Prop}(FB:ExcAttrBase B bmB)(cB:bm.contains (.type "BaseException")=true)
  (hC:h.get? C=some (gL nm q C N bs bm true sn sub ab col dd k0 k1 k2 k3 k5 newId)) (hna:mh (aX prog w) h (iU (.ref C) name) none)
  (hga:mh (aX prog w) h (iU (.ref C) "__getattribute__") (some (.builtin "BaseException.__getattribute__"))) (hgt:mh (aX prog w) h (iU (.ref C) "__getattr__") none)
  (hx:h.get? x=some o) (hc:o.cls=.ref C) (hd:o.data=.fields vs) (hdx:o.dict=some dx) (hns:h.Ns dx mA) (hv:mA name=some v) (ho:handedOut v=pure v) (hq:Q v ⟨h,g,d,t+1,os⟩) :
  aM (aX prog w) A (xE (.ref x) name expr) Q E ⟨h,g,d,t,os⟩:=by
 have f3:=FB.ga.bind (.ref x);have z0:(expr && wZ (iL "BaseException.__getattribute__"))=false:=(by cases expr<;>rfl);have z2:(iL "BaseException.__getattribute__" == iL "object.__getattribute__")=false:=(by decide +kernel);have z1:(wZ (cH C) && iL "BaseException.__getattribute__" == iL "object.__getattribute__")=false:=(by rw[z2];rfl);have kk:∀b u,h.get? b=some u->h.get? b=some u:=λ_ _ z=>z;unfold xE;refine aC (wpAny_mkText ?_);have by_:∀tk,aM (aX prog w) A (getAttrBy (.ref x) (.str name tk) true expr) Q E ⟨h,g,d,t+1,os⟩:=by
  intro tk
  repeat (any_goals (first
    |assumption
    | (with_reducible refine eO hx ?_;rw[hc])
    | (with_reducible refine hga _ _ _ _ kk ?_)
    | (with_reducible refine hgt _ _ _ _ kk ?_)
    |wp_step))
  refine nM FB.ga.plain F.entry_bexc_ga ?_;show aM _ _ (jE "BaseException.__getattribute__" ⟨[.ref x,.str name tk],[]⟩) _ _ _;refine K1 hC cB hx hc ?_;show aM _ _ (jA.«object.__getattribute__» ⟨[.ref x,.str name tk],[]⟩) _ _ _;refine Wn hC hna hx hc hd hdx hns hv ho ?_
  repeat (any_goals (first
    |assumption
    |wp_step))
 exact by_ _
end
end Fly
namespace Fly
open PySem
open Sem (wp)
section
variable {M:tJ}{A:cW}{E:aB->aI->Prop}{env:Env}{s:aI}
variable {nm q:Str}{C N:Addr}{bs bm:List aB}{hdct:Bool}{sn:List Str}{sub:List aB}{ab:Bool}{col:Option Bool}{dd:Option Addr}{k0 k1 k2 k3 k5:Option aB}{newId:String}
theorem Ft {x:Sem aB}{Q:Flow->aI->Prop}(cB:bm.contains (.type "BaseException")=true)(hh:A.handled=none)
  (h:aM M A x (λv s1=>∃e t0 dct,v=.ref e/\s1.heap.get? C=some (gL nm q C N bs bm hdct sn sub ab col dd k0 k1 k2 k3 k5 newId)/\s1.heap.get? e=some { cls:=.ref C,dict:=dct,data:=.fields #[.ref t0,.none,.none,.none,.bool false,.none] }/\E (.ref e) s1) E s) :
  aM M A (raiseStmt env (some x) none) Q E s:=by
 have c1:(cH C::bm).contains (.type "BaseException")=true:=(by rw[gO,cB,nA]);unfold raiseStmt;refine aC (gC h (λv s1 h1=>?_) λ_ _ z=>z);obtain⟨e,t0,dct,rfl,hC,he,hE⟩:=h1;obtain⟨hp,g,d,tk,os⟩:=s1
 repeat (first
   |with_reducible refine eO he ?_
   |with_reducible refine eO hC ?_
   | (with_reducible refine jL hC ?_;rw[c1])
   |wp_step)
 exact wpAny_raiseNew_none hh hE
theorem Hv {e:Expr}{pos:Pos}{Q:Flow->aI->Prop}(cB:bm.contains (.type "BaseException")=true)(hh:A.handled=none)
  (h:aM M A (eval e env) (λv s1=>∃x t0 dct,v=.ref x/\s1.heap.get? C=some (gL nm q C N bs bm hdct sn sub ab col dd k0 k1 k2 k3 k5 newId)/\s1.heap.get? x=some { cls:=.ref C,dict:=dct,data:=.fields #[.ref t0,.none,.none,.none,.bool false,.none] }/\E (.ref x) s1) E s) :
  aM M A (exec (.Raise (some e) none pos) env) Q E s:=by
 rw[arm_exec_Raise]
 first
  |exact aC (nG (Ft cB hh (aC (gC h (λv s3 h3=>aC (nG (wpAny_pure h3))) λ_ _ z=>z))))
  | (simp only[evalOpt,Option.map];exact aC (nG (Ft cB hh (aC (gC h (λv s3 h3=>aC (nG (wpAny_pure h3))) λ_ _ z=>z)))))
end
end Fly
namespace Fly
open PySem
open Sem (wp)
section
variable {prog:aS}{w:bZ}{A:cW}{E:aB->aI->Prop}{s:aI}{env:Env}
theorem K2 {e:Addr}{t:Expr}{n:Str}{b0:Stmt}{suite:List Stmt}{pos:Pos}{rest:List ExceptHandler}{Q:Flow->aI->Prop}
  (h:aM (aX prog w) (A.mark (some (.ref e))) (eval t env) (λc s1=>mh (aX prog w) s1.heap (excMatches (.ref e) c) true/\
    aM (aX prog w) (A.mark (some (.ref e))) (setFlight (.ref e) none) (λ_ s2=>
      aM (aX prog w) (A.mark (some (.ref e))) (wL env n (.ref e)) (λ_ s3=>
        aM (aX prog w) (A.mark (some (.ref e))) (execs (b0::suite) env) (λf s4=>aM (aX prog w) A (do bindName env n .none;sF env n pos) (λ_ s5=>Q f s5) (λ_ _=>False) s4) (λ_ _=>False) s3) (λ_ _=>False) s2) (λ_ _=>False) s1) (λ_ _=>False) s) :
  aM (aX prog w) A (handleBy (.ref e) env (.ExceptHandler (some t) (some n) (b0::suite) pos::rest)) Q E s:=by
 refine wpAny_handleBy_cons (codeAny_handlers_test (gC h (λc s1 h1=>?_) λ_ _ z=>z.elim)) (by intro q;cases q);obtain⟨hm,h1⟩:=h1;refine hm _ _ _ _ (λ_ _ z=>z) ?_;refine codeAny_handlers_suite_as (gC h1 (λ_ s2 h2=>gC h2 (λ_ s3 h3=>gC h3 (λf s4 h4=>?_) λ_ _ z=>z.elim) λ_ _ z=>z.elim) λ_ _ z=>z.elim);exact gC h4 (λ_ _ z=>z) λ_ _ z=>z.elim
theorem gone {n:Str}{pos:Pos}{m:Str->Option aB}{Q:Unit->aI->Prop}(hl:env.kindOf n=some .local)(hn:s.heap.Ns env.locals m)
  (hp:(env.scope.kind == .class || (env.scope.kind == .module && env.locals != env.globals))=false)
  (h:∀h' u,h'.Ns env.locals (λx=>if x=n then u else m x)->gI env.locals s.heap h'->Q () { s with heap:=h',toks:=s.toks+1 }) :
  aM (aX prog w) A (do bindName env n .none;sF env n pos) Q E s:=by
 refine aC (wpAny_bindName (wpAny_storeName_local hl hn (λh1 hn1 hs1=>?_) hp));unfold sF;refine pL (gC (wpAny_unbindName_local (E:=λ_ _=>False) (v:=.none) hl hn1 (by simp) hp λh2 u hn2 hs2=>?_) (λ_ _ z=>z) λ_ _ z=>z.elim);refine h h2 u ?_ ?_
 ·obtain⟨o,es,ep,a,b,c,e⟩:=hn2;refine⟨o,es,ep,a,b,c,λy=>?_⟩;rw[e y];by_cases q:y=n<;>simp[q]
 ·exact hs1.trans hs2
end
end Fly
namespace L2
open PySem PySem.Spec PyProof.Rows Fly
def fb (e C:Addr)(dct:Option Addr):HO:=.ext λh=>∃t0,h.get? e=some { cls:=.ref C,dict:=dct,data:=.fields #[.ref t0,.none,.none,.none,.bool false,.none] }
def rh (e C:Addr)(dct:Option Addr):HO:=.ext λh=>∃oe vs,h.get? e=some oe/\oe.cls=.ref C/\oe.dict=dct/\oe.data=.fields vs
def XAs (H:Hp)(e C:Addr)(fs:List (Str×V)):Prop:=∃dx,(H e=some (fb e C (some dx))\/H e=some (rh e C (some dx)))/\H dx=some (.xd fs)
section
variable {P:aS}{w:bZ}{H H':Hp}{h h':Heap}{e C dx:Addr}{dct:Option Addr}
theorem Ao {t0:Addr}(q:h.get? e=some { cls:=.ref C,dict:=dct,data:=.fields #[.ref t0,.none,.none,.none,.bool false,.none] }):ObjOk P w H h e (fb e C dct):=
 ⟨⟨t0,q⟩,⟨_,q⟩,λ_ _ h0_ k=>by obtain⟨t,z⟩:=h0_;exact⟨t,k _ z⟩⟩
theorem Rq {oe:Obj}{vs:Array aB}(q:h.get? e=some oe)(hc:oe.cls=.ref C)(hd:oe.dict=dct)(hv:oe.data=.fields vs):ObjOk P w H h e (rh e C dct):=
 ⟨⟨oe,vs,q,hc,hd,hv⟩,⟨_,q⟩,λ_ _ h0_ k=>by obtain⟨o,v,z,r⟩:=h0_;exact⟨o,v,k _ z,r⟩⟩
theorem kg (x:HOk P w H h)(q:H e=some (fb e C dct)):∃t0,h.get? e=some { cls:=.ref C,dict:=dct,data:=.fields #[.ref t0,.none,.none,.none,.bool false,.none] }:=(x e _ q).1
theorem C7 (x:HOk P w H h)(q:H e=some (rh e C dct)):∃oe vs,h.get? e=some oe/\oe.cls=.ref C/\oe.dict=dct/\oe.data=.fields vs:=(x e _ q).1
end
def del (H:Hp)(e:Addr):Hp:=λb=>if b=e then none else H b
theorem C8 {H:Hp}{e:Addr}:del H e e=none:=if_pos rfl
theorem jk {H:Hp}{e b:Addr}(h:b≠e):del H e b=H b:=if_neg h
def Sub (H H':Hp):Prop:=∀b o,H b=some o->H' b=some o
def CXx (P:aS)(w:bZ):CXT:=λouter H s E ev s'=>∃(e C:Addr)(dx:Option Addr) (H':Hp) (B:Heap),ev=.ref e/\s'.os=s.os/\pO s'.gens/\XAt B outer e (.ref C) dx (some .none) s'.heap/\HOk P w H' B/\H' e=none/\
 s.heap.get? e=none/\Un (frs outer) [] H H' s.heap s'.heap/\(∀b o,s.heap.get? b=some o->b ∉ frs outer->∃o',B.get? b=some o'/\(H b=none->o'=o))/\E (.ref C) dx H'
theorem no0 {b:Addr}:b ∉ ([]:List Addr):=by simp
theorem Rr {X:Cx}{pins:List (Addr×Obj)}{σ:St}{H H':Hp}{s s':aI}{B h2:Heap}{e C:Addr}{dx:Option Addr}{l:List Env}(I:Inv X pins σ H s)(hex:X.ex=[])(hst:X.stack=X.env::X.outer)(hfr:X.env.frame=some X.env.locals)
  (xa:XAt B X.stack e (.ref C) dx (some .none) s'.heap) (x2:XAt B l e (.ref C) dx (some .none) h2) (up:s'.heap.UpToSlots h2) (hn:s.heap.get? e=none)
  (un:Un (frs X.stack) [] H H' s.heap s'.heap) (old:∀b o,s.heap.get? b=some o->b ∉ frs X.stack->∃o',B.get? b=some o'/\(H b=none->o'=o)) :
  X.s₀.heap.get? e=none/\Un (frs X.outer) [] X.H₀ H' X.s₀.heap h2/\(∀b o,X.s₀.heap.get? b=some o->b ∉ frs X.outer->∃o',B.get? b=some o'/\(X.H₀ b=none->o'=o)):=by
 have nx:∀b:Addr,b ∉ X.ex:=λb=>(by rw[hex];exact no0);have hfs:frs X.stack=X.env.locals::frs X.outer:=(by rw[hst];show List.filterMap _ (_::_)=_;rw[gR,hfr];rfl);have nl:∀b o,X.s₀.heap.get? b=some o->b≠X.env.locals:=λb o q=>cK (eF (bX q) I.ok.above);have out:∀b o,X.s₀.heap.get? b=some o->b ∉ frs X.outer->b ∉ frs X.stack:=λb o q hb z=>by
  rw[hfs]at z;rcases cD.mp z with z | z
  ·exact nl b o q z
  ·exact hb z
 have ins:∀b,b∈frs X.outer->b∈frs X.stack:=λb hb=>(by rw[hfs];exact cY _ hb);have fr:∀b o,b∈frs X.outer->s'.heap.get? b=some o->∃sl,h2.get? b=some { o with slots:=sl }:=λb o hb q=>by
  obtain⟨_,o',q',nf⟩:=xa.frames.mem (ins b hb);rw[q]at q';cases q';exact up b o q nf
 have old2:∀b o,X.s₀.heap.get? b=some o->b ∉ frs X.outer->∃o',B.get? b=some o'/\(X.H₀ b=none->o'=o):=λb o q hb=>by
  obtain⟨o1,q1⟩:=I.base.there b o q (nx b);obtain⟨o2,q2,k2⟩:=old b o1 q1 (out b o q hb);refine⟨o2,q2,λn=>?_⟩;have q3:=I.base.keep b o q n hb (nx b);rw[q1]at q3;cases q3;exact k2 (I.base.free b o q n (nx b))
 refine⟨?_,⟨λb o q n hb _=>?_,λb o q n hb _=>?_,λb o q n _=>?_,λb o q _=>?_,λb xs q=>un.tups b xs (I.base.tups b xs q),λb o u q=>un.frzs b o u (I.base.frzs b o u q),λb ps q=>?_⟩,old2⟩
 ·cases q:X.s₀.heap.get? e with
  |none=>rfl
  |some o=>
   obtain⟨o1,q1⟩:=I.base.there e o q (nx e);rw[hn]at q1;cases q1
 ·obtain⟨o',q',k'⟩:=old2 b o q hb;rw[k' n]at q';exact x2.stays b o q'
 ·obtain⟨sl1,q1⟩:=I.base.slot b o q n hb (nx b);obtain⟨sl2,q2⟩:=un.slot b _ q1 (I.base.free b o q n (nx b)) (ins b hb) no0;obtain⟨sl3,q3⟩:=fr b _ hb q2;exact⟨sl3,q3⟩
 ·obtain⟨o1,q1⟩:=I.base.there b o q (nx b);exact un.free b o1 q1 (I.base.free b o q n (nx b)) no0
 ·by_cases hb:b∈frs X.outer
  ·obtain⟨o1,q1⟩:=I.base.there b o q (nx b);obtain⟨o2,q2⟩:=un.there b o1 q1 no0;obtain⟨sl,q3⟩:=fr b o2 hb q2;exact⟨_,q3⟩
  ·obtain⟨o',q',_⟩:=old2 b o q hb;exact⟨o',x2.stays b o' q'⟩
 ·obtain⟨m1,q1⟩:=I.base.tbls b ps q;obtain⟨m2,q2⟩:=un.tbls b _ q1;exact⟨m1++m2,by rw[q2,Array.append_assoc]⟩
section
variable {P:aS}{w:bZ}{K:aA}{mg:Str->Option aB}{base:Heap}{N:List Str}{qual:Str}{scope:gG}{f:Addr}{cd:aB}{A:cW}{outer:List Env}{s0:aI}{H0:Hp}{E:XK}
theorem jq:lq (CXx P w) (bf (CXx P w) P w K mg base N qual scope f cd A outer s0 H0 E) E:=by
 intro pins σ H s ev s' I hx;obtain⟨e,C,dx,H',B,rfl,os,bare,xa,hok,he,hn,un,old,hE⟩:=hx;refine Fly.leave (s:=s') I.ok.frames rfl xa (.inr rfl) λh2 x2 up=>?_;obtain⟨z1,z2,z3⟩:=Rr I rfl rfl rfl xa x2 up hn un old;exact⟨e,C,dx,H',B,rfl,os.trans I.os,bare,x2,hok,he,z1,z2,z3,hE⟩
theorem Bv {h b1 b2:Heap}:∀{l:List Env},h.FunFrames b1 l->(∀L∈frs l,b2.get? L=none)->h.FunFrames b2 l
 | [],_,_=>trivial
 |env::l,⟨k,⟨L,o,hf,_,ho,hd⟩,r⟩,n=>by
  have e:frs (env::l)=L::frs l:=(by show List.filterMap _ (_::_)=_;rw[gR,hf];rfl);rw[e]at n;exact⟨k,⟨L,o,hf,n L (eG ..),ho,hd⟩,Bv r λL' z=>n L' (cY _ z)⟩
theorem Us {pins:List (Addr×Obj)}{σ:St}{H:Hp}{s:aI}{e C:Addr}{dx:Option Addr}(I:Inv (bf (CXx P w) P w K mg base N qual scope f cd A outer s0 H0 E) pins σ H s)(he:H e=some (fb e C dx))(h0:H0 e=none)
  (hE:E (.ref C) dx (del H e)):(bf (CXx P w) P w K mg base N qual scope f cd A outer s0 H0 E).xe (.ref e) s:=by
 obtain⟨t0,q⟩:=kg I.hok he;have hs:∀o,s0.heap.get? e=some o->False:=λo z=>by
  have:=I.base.free e o z h0 no0;rw[he]at this;cases this
 have hs0:s0.heap.get? e=none:=by
  cases z:s0.heap.get? e with
  |none=>rfl
  |some o=>exact(hs o z).elim
 let st:=qY qual scope s0.heap.objs.size f cd::outer
 let M:Hp:=λb=>if b=e\/b∈frs st then some (.own 0)else none
 have Mn:∀{b},b≠e->b ∉ frs st->M b=none:=λh1 h2=>if_neg λz=>z.elim h1 h2;have Me:M e≠none:=by show(if e=e\/_ then _ else _)≠none;rw[if_pos (.inl rfl)];simp
 have Mf:∀b∈frs st,M b≠none:=λb hb=>by show(if b=e\/b∈frs st then _ else _)≠none;rw[if_pos (.inr hb)];simp
 have hid:∀b,M b≠none->(jw s.heap M).get? b=none:=λb n=>by
  cases z:(jw s.heap M).get? b with
  |none=>rfl
  |some o=>exact absurd (Ad z).2 n
 have stay:(jw s.heap M).StaysIn s.heap:=λb o z=>(Ad z).1;have fr:s.heap.FunFrames (jw s.heap M) st:=Bv I.stack λL hL=>hid L (Mf L hL);have xa:XAt (jw s.heap M) st e (.ref C) dx none s.heap:=⟨stay,hid e Me,fr,_,_,q,rfl,rfl,rfl,(by show 1 < 6;decide),rfl⟩;have trk:∀b o,H b=some o->b ∉ frs st:=λb o z hb=>by
  have:=I.stkFree b hb;rw[z]at this;cases this
 have hok:HOk P w (del H e) (jw s.heap M):=λb o z=>by
  by_cases hb:b=e
  ·subst hb;rw[C8]at z;cases z
  ·rw[jk hb]at z;refine(I.hok b o z).stay (λc u hc y=>xh y ?_) (λc y=>?_) λc xs y=>?_
   ·rcases hc with rfl | hc
    ·exact Mn hb (trk _ _ z)
    ·exact Mn (λw=>by rw[w,he]at hc;cases hc) (trk _ _ hc)
   ·rw[jk λw=>by rw[w,he]at y;cases y];exact y
   ·rw[jk λw=>by rw[w,he]at y;cases y];exact y
 have nb:∀b o,s0.heap.get? b=some o->b≠e:=λb o z w=>hs o (w ▸ z);have nl:∀b o,s0.heap.get? b=some o->b≠s0.heap.objs.size:=λb o z=>cK (bX z);have hfs:frs st=s0.heap.objs.size::frs outer:=rfl;have out:∀b o,s0.heap.get? b=some o->b ∉ frs outer->b ∉ frs st:=λb o z hb y=>by
  rw[hfs]at y;rcases cD.mp y with y | y
  ·exact nl b o z y
  ·exact hb y
 have old:∀b o,s0.heap.get? b=some o->b ∉ frs outer->∃o',(jw s.heap M).get? b=some o'/\(H0 b=none->o'=o):=λb o z hb=>by
  obtain⟨o1,z1⟩:=I.base.there b o z no0;refine⟨o1,xh z1 (Mn (nb b o z) (out b o z hb)),λn=>?_⟩;have:=I.base.keep b o z n hb no0;rw[z1]at this;cases this;rfl
 refine Fly.leave (s:=s) I.ok.frames rfl xa (.inl rfl) λh2 x2 up=>?_;refine⟨e,C,dx,del H e,_,rfl,I.os,I.bare,x2,hok,C8,hs0,⟨λb o z n hb _=>?_,λb o z n hb _=>?_,λb o z n _=>?_,λb o z _=>?_,λb xs z=>?_,λb o u z=>?_,λb ps z=>?_⟩,old,hE⟩
 ·obtain⟨o',z',k'⟩:=old b o z hb;rw[k' n]at z';exact x2.stays b o z'
 ·obtain⟨sl,z1⟩:=I.base.slot b o z n hb no0;obtain⟨_,o',z',nf⟩:=fr.mem (b:=b) (by show b∈frs st;rw[hfs];exact cY _ hb);rw[z1]at z';cases z';obtain⟨sl2,z2⟩:=up b _ z1 nf;exact⟨sl2,z2⟩
 ·rw[jk (nb b o z)];exact I.base.free b o z n no0
 ·by_cases hb:b∈frs outer
  ·obtain⟨o1,z1⟩:=I.base.there b o z no0;obtain⟨_,o',z',nf⟩:=fr.mem (b:=b) (by show b∈frs st;rw[hfs];exact cY _ hb);rw[z1]at z';cases z';obtain⟨sl2,z2⟩:=up b _ z1 nf;exact⟨_,z2⟩
  ·obtain⟨o',z',_⟩:=old b o z hb;exact⟨o',x2.stays b o' z'⟩
 ·have z1:=I.base.tups b xs z;rw[jk λw=>by rw[w,he]at z1;cases z1];exact z1
 ·have z1:=I.base.frzs b o u z;rw[jk λw=>by rw[w,he]at z1;cases z1];exact z1
 ·obtain⟨m,z1⟩:=I.base.tbls b ps z;exact⟨m,by rw[jk λw=>by rw[w,he]at z1;cases z1];exact z1⟩
end
end L2
namespace L2
open PySem PySem.Spec PyProof.Rows Fly
theorem Ut {H:Hp}{a:Addr}{o:HO}(h:H a=some o):upd H a o=H:=by
 funext b;unfold upd;split
 ·rename_i q;rw[q,h]
 ·rfl
abbrev bmV:List aB:=[.type "ValueError",.type "Exception",.type "BaseException",.type "object"]
structure Hw (bm:List aB):Prop where
 hV:bm.contains (.type "ValueError")=true
 hA:bm.contains (.type "AttributeError")=false
 hN:bm.contains (.type "NameError")=false
 hB:bm.contains (.type "BaseException")=true
 hO:bm.contains (.type "object")=true
 pass:∀self:aB,yC self "__setattr__" bm=pure ()
theorem so:Hw bmV:=⟨by decide,by decide,by decide,by decide,by decide,PySem.F.store_ValueError.passes⟩
theorem ve (c:Addr):Hw (.ref c::bmV):=⟨by rw[gO,so.hV,nA],by rw[gO,so.hA];rfl,by rw[gO,so.hN];rfl,by rw[gO,so.hB,nA],by rw[gO,so.hO,nA],λself=>by rw[vW];exact so.pass self⟩
structure ik (K:aA)(C:Addr):Prop where
 obj:∃nm q N bs bm sn sub ab col dd k0 k1 k2 k3 k5,K.lookup C=some (gL nm q C N bs bm true sn sub ab col dd k0 k1 k2 k3 k5 "ValueError.__new__")/\Hw bm
 sa:aW K (.ref C) "__setattr__"=some (some (.builtin "object.__setattr__"))
 ga:aW K (.ref C) "__getattribute__"=some (some (.builtin "BaseException.__getattribute__"))
 gt:aW K (.ref C) "__getattr__"=some none
 kp:aU K (.ref C)=true
section
variable {X:Cx}{pins:List (Addr×Obj)}{σ:St}{H:Hp}{s:aI}{e C:Addr}{dct:Option Addr}
theorem Inv.xsame {h':Heap}{t1:Addr}(I:Inv X pins σ H s)(he:H e=some (fb e C dct))(kp:∀b o,b≠e->s.heap.get? b=some o->h'.get? b=some o)
  (hq:h'.get? e=some { cls:=.ref C,dict:=dct,data:=.fields #[.ref t1,.none,.none,.none,.bool false,.none] }) {t':Nat}:Inv X pins σ H { s with heap:=h',toks:=t' }:=by
 have:=I.write (x:=e) (e:=e) (o:=fb e C dct) (t':=t') (h':=h') (by rw[he];exact oJ) (.inl rfl) kp ⟨_,hq⟩ (Ao hq)
 rwa [Ut he]at this
theorem qh {x:Str}{SW:Addr}{a:Expr}{es:List Expr}{t:TA}{p ap pos:Pos}{pl:Sem Bool}(hg:Gl X x)(hm:X.mg x=some (.ref SW))(hga:oQ X.K (.ref SW) "__getattribute__"=some (some (.builtin "type.__getattribute__")))
  (hr:pV X.K SW (.type "type")=true) (hf:pW X.K (.ref SW) (.type "type") "__init__"=some (.val (.builtin "ValueError.__init__"))) (ha:PA X (a::es) t)
  (hdb:(x == ("__debug__":Str))=false:=by decide) (he:cZ (a::es) X.env=(false,eval a X.env)::cZ es X.env:=by rfl) (hpl:(lE pos (cZ es X.env)).any (·.1)=false:=by rfl)
  (ht:eval (.Call (.Attribute (.Name x p) "__init__" ap) (a::es) [] pos) X.env=(do
    let ov <-eval (.Name x p) X.env
    sV ap.atName
    let (f,first) <-oU [ov] (tQ ov "__init__" pl)
    xL pos f first (lE pos (cZ (a::es) X.env)) (sY pos (pP [] X.env))):=by rfl) :
  PE X (.Call (.Attribute (.Name x p) "__init__" ap) (a::es) [] pos) (λσ H Q=>t σ H λvs H1=>∃e C dct y,vs=[.ref e,y]/\H1 e=some (fb e C dct)/\ik X.K C/\Q .non H1):=by
 intro pins s σ H Q I h;refine oV (pl:=pl) (ko I hg hm ?_ hdb) ht;refine PySem.W.method_cls I.kIn hga (PySem.W.cls_value I.kIn hr hf (by decide +kernel) ?_);refine callWith_builtin1 (thn (ha pos pins _ σ H _ (I.tok (s.toks+1)) h) λus s1 h0_=>?_) he hpl;obtain⟨vs,H1,I1,r1,e,C,dct,y,ev,q1,c,q2⟩:=h0_;subst ev;obtain⟨u1,u2,rfl,r2,r3⟩:=ub r1;obtain rfl:u1=cH e:=r2;obtain⟨nm,q,N,bs,bm,sn,sub,ab,col,dd,k0,k1,k2,k3,k5,lk,T⟩:=c.obj;have hC:=I1.kIn _ _ lk;obtain⟨t0,hq⟩:=kg I1.hok q1;obtain⟨hh,g,d,tk,os⟩:=s1;refine Kz PySem.F.excBase_ValueError T.hV hC hq sz1 λh' t1 kp he'=>⟨.non,H1,I1.xsame q1 kp he',rfl,q2⟩
theorem px {o value:Expr}{f:Str}{pos pos':Pos}{ta tv:TE}(ha:PE X o ta)(hv:PE X value tv)(hs:qA value (some (.Attribute o f pos')) pos.line X.env=pure false) :
  PS X (.Assign [.Attribute o f pos'] value pos) (λD σ H=>tv σ H λy H1=>ta σ H1 λx H2=>∃e C,x=.ref e/\ik X.K C/\NoAttr X.K C f/\((H2 e=some (fb e C none)/\∀dx,H2 dx=none->dx≠e->D.nx σ (upd (upd H2 dx (.xd [(f,y)])) e (fb e C (some dx))))\/(∃dx fs,H2 e=some (fb e C (some dx))/\H2 dx=some (.xd fs)/\fs.length < 1000/\D.nx σ (upd H2 dx (.xd (iq f y fs)))))):=by
 intro pins s σ H D I h;refine plainObj_wpAny_Assign_Attribute (thn (hv pins s σ H _ I h) λu s1 h0_=>?_) hs;obtain⟨y,H1,I1,ry,q⟩:=h0_;refine thn (ha pins s1 σ H1 _ I1 q) λov s2 h0_=>?_;obtain⟨x,H2,I2,rx,e,C,ex,c,n,q2⟩:=h0_;subst ex;obtain rfl:ov=cH e:=rx;obtain⟨nm,q,N,bs,bm,sn,sub,ab,col,dd,k0,k1,k2,k3,k5,lk,T⟩:=c.obj;have hC:=I2.kIn _ _ lk;have lsa:=iA (M:=aX X.prog X.w) I2.kIn c.sa;have lna:=iA (M:=aX X.prog X.w) I2.kIn n;rcases q2 with⟨h1,q2⟩ | ⟨dx,fs,h1,h2,hl,q2⟩
 ·obtain⟨t0,hq⟩:=kg I2.hok h1;obtain⟨hh,g,d,tk,os⟩:=s2;refine K0 PySem.F.store_ValueError T.hO hC lsa hq rfl λtk1 t'=>?_;refine Rp T.pass hC lna hq rfl (λc z=>by cases z) rfl λh' t2 dx nd ne sz hx ns kp=>⟨_,rfl,σ,_,?_,q2 dx (I2.hok.fresh sz) ne⟩;have hd0:H2 dx=none:=I2.hok.fresh sz;have une:∀b u,hh.get? b=some u->b≠dx:=λb u z w=>(by rw[w,nd]at z;cases z);have tne:∀b u,H2 b=some u->u≠fb e C none->b≠e:=λb u z w y=>(by rw[y,h1]at z;exact w (eQ z).symm);have get2:∀b,b≠e->b≠dx->upd (upd H2 dx (.xd [(f,y)])) e (fb e C (some dx)) b=H2 b:=λb w z=>(by rw[al w,al z]);have keep2:∀b u,H2 b=some u->u≠fb e C none->upd (upd H2 dx (.xd [(f,y)])) e (fb e C (some dx)) b=some u:=λb u z w=>by
   rw[get2 b (tne b u z w) (am z hd0)];exact z
  refine I2.un (t':=t2) (h':=h') ⟨λb u z m _ _=>kp b u (λw=>by rw[w,h1]at m;cases m) z,λb u z m _ _=>⟨u.slots,kp b u (λw=>by rw[w,h1]at m;cases m) z⟩,λb u z m _=>by rw[get2 b (λw=>by rw[w,h1]at m;cases m) (une b u z)];exact m,λb u z _=>?_,λb xs z=>keep2 b _ z (by intro w;cases w),λb u v z=>keep2 b _ z (by intro w;cases w),λb ps z=>⟨#[],by rw[keep2 b _ z (by intro w;cases w)];simp⟩⟩ λb u z=>?_
  ·by_cases w:b=e
   ·rw[w];exact⟨_,hx⟩
   ·exact⟨u,kp b u w z⟩
  ·by_cases w:b=e
   ·subst w;rw[ae]at z;cases z;exact Ao hx
   ·rw[al w]at z;by_cases w2:b=dx
    ·subst w2;rw[ae]at z;cases z;refine⟨_,ns,λy'=>?_⟩;show RelO (lH y' [(f,y)]) (if y'=f then some u else none)
     by_cases w3:y'=f
     ·rw[if_pos w3,w3];simp[lH];exact ry
     ·rw[if_neg w3];have:lH y' [(f,y)]=none:=by
       show(match y' == f with | true=>some y | false=>none)=none
       rw[beq_eq_false_iff_ne.mpr w3]
      rw[this];trivial
    ·rw[al w2]at z;refine(I2.hok b u z).stay (λc v hc z2=>kp c v ?_ z2) (λc z2=>keep2 c _ z2 (by intro w;cases w)) λc xs z2=>keep2 c _ z2 (by intro w;cases w);rcases hc with rfl | hc
     ·exact w
     ·exact tne c _ hc (by intro w;cases w)
 ·obtain⟨t0,hq⟩:=kg I2.hok h1;obtain⟨mA,ns,rel⟩:=(show ObjOk X.prog X.w H2 s2.heap dx (.xd fs)from I2.hok dx _ h2);obtain⟨hh,g,d,tk,os⟩:=s2;have wi:Within mA (fs.map (·.1)):=λy' hy=>by
   cases w:fs.lookup y' with
   |none=>
    have:=rel y';rw[w]at this;cases w2:mA y' with
    |none=>exact absurd w2 hy
    |some v=>rw[w2]at this;exact this.elim
   |some v=>exact eE.mpr ⟨(y',v),lW w,rfl⟩
  refine K0 PySem.F.store_ValueError T.hO hC lsa hq rfl λtk1 t'=>?_;refine N1 T.pass hC lna hq rfl rfl ns wi (by rw[aG,lF];lia) λh' t2 ns' kp=>⟨_,rfl,σ,_,?_,q2⟩;have hd:∃o,h'.get? dx=some o:=let ⟨o,_,_,z,_⟩:=ns';⟨o,z⟩;have tne:∀b u,H2 b=some u->u≠HO.xd fs->b≠dx:=λb u z w y=>(by rw[y,h2]at z;exact w (eQ z).symm);have keep2:∀b u,H2 b=some u->u≠HO.xd fs->upd H2 dx (.xd (iq f y fs)) b=some u:=λb u z w=>(by rw[al (tne b u z w)];exact z);have nd:∀b,H2 b=none->b≠dx:=λb m w=>(by rw[w,h2]at m;cases m);refine I2.un (t':=t2) (h':=h') ⟨λb u z m _ _=>kp b u (nd b m) z,λb u z m _ _=>⟨u.slots,kp b u (nd b m) z⟩,λb u z m _=>by rw[al (nd b m)];exact m,λb u z _=>?_,λb xs z=>keep2 b _ z (by intro w;cases w),λb u v z=>keep2 b _ z (by intro w;cases w),λb ps z=>⟨#[],by rw[keep2 b _ z (by intro w;cases w)];simp⟩⟩ λb v z=>?_
  ·by_cases w:b=dx
   ·rw[w];exact hd
   ·exact⟨u,kp b u w z⟩
  ·by_cases w:b=dx
   ·subst w;rw[ae]at z;cases z;refine⟨_,ns',λy'=>?_⟩;show RelO ((iq f y fs).lookup y') (if y'=f then some u else mA y')
    rw[rg];by_cases w:y'=f
    ·rw[if_pos w,if_pos w];exact ry
    ·rw[if_neg w,if_neg w];exact rel y'
   ·rw[al w]at z;refine(I2.hok b v z).stay (λc v' hc z2=>kp c v' ?_ z2) (λc z2=>keep2 c _ z2 (by intro w;cases w)) λc xs z2=>keep2 c _ z2 (by intro w;cases w);rcases hc with rfl | hc
    ·exact w
    ·exact tne c _ hc (by intro w;cases w)
theorem Ap {o:Expr}{f:Str}{pos:Pos}{ta:TE}(ho:PE X o ta)(hb:nJ o f X.env (eval o X.env)=eval o X.env) :
  PE X (.Attribute o f pos) (λσ H Q=>ta σ H λx H1=>∃e C fs v,x=.ref e/\ik X.K C/\NoAttr X.K C f/\XAs H1 e C fs/\fs.lookup f=some v/\Q v H1):=by
 intro pins s σ H Q I h;refine Fp hb (thn (ho pins s σ H _ I h) λu s1 h0_=>?_);obtain⟨x,H1,I1,rx,e,C,fs,v,ex,c,n,⟨dx,xa,hd⟩,lf,q⟩:=h0_;subst ex;obtain rfl:u=cH e:=rx;obtain⟨nm,qn,N,bs,bm,sn,sub,ab,col,dd,k0,k1,k2,k3,k5,lk,T⟩:=c.obj;have hC:=I1.kIn _ _ lk;have lga:=iA (M:=aX X.prog X.w) I1.kIn c.ga;have lgt:=iA (M:=aX X.prog X.w) I1.kIn c.gt;have lna:=iA (M:=aX X.prog X.w) I1.kIn n;have ob:∃oe vs,s1.heap.get? e=some oe/\oe.cls=.ref C/\oe.dict=some dx/\oe.data=.fields vs:=by
  rcases xa with xa | xa
  ·obtain⟨t0,z⟩:=kg I1.hok xa;exact⟨_,_,z,rfl,rfl,rfl⟩
  ·exact C7 I1.hok xa
 obtain⟨oe,vs,z1,z2,z3,z4⟩:=ob;obtain⟨mA,ns,rel⟩:=(show ObjOk X.prog X.w H1 s1.heap dx (.xd fs)from I1.hok dx _ hd);obtain⟨u',hu,ru⟩:=RelO.some_of (v:=v) (o:=mA f) (by rw[<-lf];exact rel f);have tk:=I1.tok (s1.toks+1);obtain⟨hh,g,d,t,os⟩:=s1;refine Wo PySem.F.attrBase_ValueError T.hB hC lna lga lgt z1 z2 z4 z3 ns.ns hu (PySem.W.handedOut_of (Bm ru)) ⟨v,H1,tk,ru,q⟩
end
end L2
namespace L2
open PySem PySem.Spec PyProof.Rows Fly
section
variable {X:Cx}{x:Str}{C fI:Addr}{k:Nat}{fd:cC}{ps:List Str}{sp:Sp}{a:Expr}{es:List Expr}{t:TA}{p pos:Pos}
theorem qi (c:ik X.K C)(hi:aW X.K (.ref C) "__init__"=some (some (.ref fI)))(lf:∃oI,X.K.lookup fI=some oI/\oI.cls=.type "function")(F:FnOk X.prog X.w X.K X.mg X.base CX0 k fI fd ps sp)(hr:Room (k+1) X.A)
  (hg:Gl X x) (hm:X.mg x=some (.ref C)) (hb:Binds X.K fd ps []) (ha:PA X (a::es) t) (hdb:(x == ("__debug__":Str))=false:=by decide)
  (he:cZ (a::es) X.env=(false,eval a X.env)::cZ es X.env:=by rfl) (hpl:(lE pos (cZ es X.env)).any (·.1)=false:=by rfl) :
  PE X (.Call (.Name x p) (a::es) [] pos) (λσ H Q=>t σ H λvs H1=>vs.length<=100/\∀e,H1 e=none->sp (.ref e::vs) (upd H1 e (fb e C none)) (λv H2=>v=.non/\Q (.ref e) H2) E0):=by
 intro pins s σ H Q I h;refine mX (ko I hg hm ?_ hdb);refine mZ (h₀:=X.base) I.ok.mod.kin c.kp (thn (ha pos pins s σ H _ I h) λus s1 h0_=>?_) he hpl;obtain⟨vs,H1,I1,r,hl,q⟩:=h0_;refine⟨I1.kIn,?_⟩;show aM _ _ (call (.ref C) us) _ _ _;obtain⟨nm,qn,N,bs,bm,sn,sub,ab,col,dd,k0,k1,k2,k3,k5,lk,T⟩:=c.obj;obtain⟨oI,lI,cI⟩:=lf;have hC:=I1.kIn _ _ lk;have hI:=I1.kIn _ _ lI;have li:=iA (M:=aX X.prog X.w) I1.kIn hi;have hz:us.length<=sizeLine:=(by rw[<-r.length,lF];lia);obtain⟨hh,g,d,tk,os⟩:=s1;refine Ky PySem.F.excBase_ValueError T.hV T.hA T.hN hC li hI cI (λh' e sz me=>?_) hz;obtain⟨t0,ht0,_⟩:=me.there;have fr:H1 e=none:=I1.hok.fresh sz;have I2:Inv X pins σ (upd H1 e (fb e C none)) ⟨h',g,d,tk,os⟩:=I1.laid (t':=tk) (h':=h') me.keeps sz (Ao ht0);have hq:=q e fr;have r2:Vals (V.ref e::vs) (cH e::us):=.cons rfl r;have hl2:(cH e::us++[]).length=ps.length:=by
  have z:=r2.length;rw[F.len _ _ _ _ hq]at z;rw[iM];exact z.symm
 have bd:=hb _ (cH e::us) I2.kIn hl2;rw[iM]at bd;refine rW (nR (F.run _ X.stack _ _ ⟨cH e::us,[]⟩ (cH e::us) _ _ E0 (hr.make C us []) (I2.env0.make C us []) bd r2 hq) λr s' hq'=>?_);cases r with
 |error e=>exact gY hq'
 |ok fl=>
  cases fl with
  |ret u=>
   obtain⟨v,H',I3,rv,ev,q3⟩:=I2.after hq';subst ev;exact⟨rv,⟨V.ref e,H',I3,rfl,q3⟩⟩
  |next=>exact gY hq'
  |brk=>exact gY hq'
  |cont=>exact gY hq'
theorem yn {M:tJ}{A:cW}{E:aB->aI->Prop}{Q Q':Str->aI->Prop}(hQ:∀o s,Q o s->Q' o s):∀(parts:List (Sem aB))(acc:Str) (s:aI),Joins M A E parts acc Q s->Joins M A E parts acc Q' s
 | [],_,_,h=>hQ _ _ h
 |_::rest,_,_,h=>gC h (λ_ s1 ⟨y,t,e,l,r⟩=>⟨y,t,e,l,yn hQ rest _ s1 r⟩) λ_ _ z=>z
def ou:V->Prop
 | .int i=>i.natAbs.log2 < 1000
 | .str x=>(qH x).length<=2000
 |_=>False
def PJ (X:Cx)(es:List Expr)(t:St->Hp->(Hp->Prop)->Prop):Prop:=
 ∀(pins:List (Addr×Obj))(s:aI) (σ:St) (H:Hp) (acc:Str) (R:Hp->Prop),Inv X pins σ H s->acc.length+3000 * es.length<=1000000->t σ H R->
  Joins (aX X.prog X.w) X.A X.xe (uU es X.env) acc (λout s1=>out.length<=sizeLine/\∃H',Inv X pins σ H' s1/\R H') s
theorem C9:PJ X [] (λ_ H R=>R H):=λ_ s _ H acc R I hl h=>⟨by rw[lF];simp at hl;lia,H,I,h⟩
theorem yo {z:Str}{j:Nat}{q:Pos}{t:St->Hp->(Hp->Prop)->Prop}(hz:z.length<=2000)(hr:PJ X es t)(hs:uU (.Constant (.str z) j q::es) X.env=eval (.Constant (.str z) j q) X.env::uU es X.env:=by rfl):PJ X (.Constant (.str z) j q::es) t:=by
 intro pins s σ H acc R I hl h;rw[hs];have hl':acc.length+3000 * (es.length+1)<=1000000:=hl;have e1:(acc++z).length=acc.length+z.length:=oE acc z;refine Calls.Constant_str ⟨z,_,rfl,by rw[e1,lF];lia,hr pins _ σ H (acc++z) R (I.tok _) (by rw[e1];lia) h⟩
theorem wg {v:Expr}{tv:TE}{q:Pos}{t:St->Hp->(Hp->Prop)->Prop}(hv:PE X v tv)(hr:PJ X es t)(hs:uU (.FormattedValue v 114 none q::es) X.env=eval (.FormattedValue v 114 none q) X.env::uU es X.env:=by rfl) :
  PJ X (.FormattedValue v 114 none q::es) (λσ H R=>tv σ H λy H1=>ou y/\t σ H1 R):=by
 intro pins s σ H acc R I hl h;rw[hs];have hl':acc.length+3000 * (es.length+1)<=1000000:=hl;have fin:∀(z:Str)(H1:Hp) (s1:aI) (tk:Tok),Inv X pins σ H1 s1->z.length<=2000->t σ H1 R->
   aM (aX X.prog X.w) X.A (formatField (.str z tk) wP) (λw s2=>∃y t',w=.str y t'/\(acc++y).length<=sizeLine/\Joins (aX X.prog X.w) X.A X.xe (uU es X.env) (acc++y) (λout s1=>out.length<=sizeLine/\∃H',Inv X pins σ H' s1/\R H') s2) X.xe s1:=by
  intro z H1 s1 tk I1 hz h1;have e1:(acc++z).length=acc.length+z.length:=oE acc z;have hzz:(acc++z).length<=sizeLine:=(by rw[e1,lF];lia);refine wpAny_formatField_str ⟨z,_,rfl,hzz,hr pins _ σ H1 (acc++z) R I1 (by rw[e1];lia) h1⟩ ⟨z,_,rfl,hzz,hr pins _ σ H1 (acc++z) R (I1.tok _) (by rw[e1];lia) h1⟩ (by rw[lF];lia)
 refine wpAny_FormattedValue_repr (thn (hv pins s σ H _ I h) λu s1 h0_=>?_);obtain⟨y,H1,I1,ry,rk,h1⟩:=h0_;cases y with
 |int i=>
  obtain⟨tk,rfl⟩:=(show ∃t,u=pZ i t from ry);have rk:i.natAbs.log2 < 1000:=rk;have len:(iN (toString i)).length<=2000:=by
   rw[PySem.ofString_length];have:=int_text_length_le (k:=1000) (by decide) rk;lia
  refine wpAny_pyReprObj_gives (T:="int") (uH _ i tk) PySem.F.slot_int_repr PySem.F.entry_int_repr (by unfold argsOk;kernel_rfl) (gives_int_repr i tk (by lia)) ?_ rfl (by rw[lF];lia);exact fin _ H1 _ _ (I1.tok _) len h1
 |str z=>
  obtain⟨tk,rfl⟩:=(show ∃t,u=vA z t from ry);have rk:(qH z).length<=2000:=rk;exact wpAny_pyReprObj_str (fin _ H1 _ _ (I1.tok _) rk h1) (by rw[lF];lia)
 |_=>exact gY rk
theorem Aq {v1 v2:Expr}{rest:List Expr}{t:St->Hp->(Hp->Prop)->Prop}(h:PJ X (v1::v2::rest) t)(hl:rest.length<=100):PE X (.JoinedStr (v1::v2::rest) pos) (λσ H Q=>t σ H λH1=>∀z:Str,Q (.str z) H1):=by
 intro pins s σ H Q I q;refine wpAny_JoinedStr ?_;have e0:Str.empty.length=0:=rfl;have:=h pins s σ H wP _ I (by rw[e0];show 0+3000 * (rest.length+1+1)<=_;lia) q;exact yn (λout s1 h0_=>by obtain⟨z,H',I',q'⟩:=h0_;exact⟨z,.str out,H',I'.tok _,⟨_,rfl⟩,q' out⟩) _ _ _ this
end
section
variable {P:aS}{w:bZ}{K:aA}{mg:Str->Option aB}{base:Heap}{N:List Str}{qual:Str}{scope:gG}{f:Addr}{cd:aB}{A:cW}{outer:List Env}{s0:aI}{H0:Hp}{E:XK}{C:Addr}{ex:Expr}{te:TE}{pos:Pos}
theorem qj (c:ik K C)(he:PE (bf (CXx P w) P w K mg base N qual scope f cd A outer s0 H0 E) ex te) :
  PS (bf (CXx P w) P w K mg base N qual scope f cd A outer s0 H0 E) (.Raise (some ex) none pos) (λ_ σ H=>te σ H λx H1=>∃e dx,x=.ref e/\H1 e=some (fb e C dx)/\H0 e=none/\E (.ref C) dx (del H1 e)):=by
 intro pins s σ H D I h;obtain⟨nm,qn,Nn,bs,bm,sn,sub,ab,col,dd,k0,k1,k2,k3,k5,lk,T⟩:=c.obj;refine Hv (C:=C) (nm:=nm) (q:=qn) (N:=Nn) (bs:=bs) (bm:=bm) (hdct:=true) (sn:=sn) (sub:=sub) (ab:=ab) (col:=col) (dd:=dd) (k0:=k0) (k1:=k1) (k2:=k2) (k3:=k3) (k5:=k5) (newId:="ValueError.__new__") T.hB (I.ok.hd rfl) (thn (he pins s σ H _ I h) λu s1 h0_=>?_);obtain⟨x,H1,I1,rx,e,dx,ex,h1,h0,hE⟩:=h0_;subst ex;obtain rfl:u=cH e:=rx;obtain⟨t0,q⟩:=kg I1.hok h1;exact⟨e,t0,_,rfl,I1.kIn _ _ lk,q,Us I1 h1 h0 hE⟩
end
end L2
namespace Fly
open PySem
open Sem (wp)
section
variable {prog:aS}{w:bZ}{A:cW}{E:aB->aI->Prop}{h:Heap}{g:Array uL}{d:xQ}{t:Nat}{os:yE}
variable {nm q:Str}{C N x:Addr}{bs bm bmB:List aB}{hdct:Bool}{sn:List Str}{sub:List aB}{ab:Bool}{col:Option Bool}{dd:Option Addr}{k0 k1 k2 k3 k5:Option aB}{B newId:String}{o:Obj}
theorem Rs {R:wO->aI->Prop}(cO:bm.contains (.type "object")=true)(hC:h.get? C=some (gL nm q C N bs bm hdct sn sub ab col dd k0 k1 k2 k3 k5 newId))(hx:h.get? x=some o)(hc:o.cls=.ref C)(hq:R (.ok (.ret (.ref C))) ⟨h,g,d,t,os⟩) :
  nQ (aX prog w) A (.call (.builtin "getset_descriptor.__get__") ⟨[.builtin "object.__class__",.ref x,.ref C],[]⟩) R ⟨h,g,d,t,os⟩:=by
 have f5:(⟨h,g,d,t,os⟩:aI).TypeIs (.builtin "object.__class__") "getset_descriptor":=F.typeOf_object_class;have c1:(cH C::bm).contains (.type (".".intercalate ("object.__class__".cutAt '.').dropLast))=true:=(by rw[F.owner_object_class,gO,cO,nA]);refine nM F.slot_gs_get.plain F.entry_gs_get (F.slot_gs_get.check _ _ _ _ _ _ _ _ f5 (F.args_gs_get _ _ _) ?_)
 repeat (any_goals (first
   |assumption
   | (with_reducible refine eO hx ?_;rw[hc])
   | (with_reducible refine jL hC ?_;rw[c1])
   |wp_step))
 refine⟨tR _ (by decide +kernel),vJ F.entry_object_class ?_⟩
 repeat (any_goals (first
   |assumption
   | (with_reducible refine eO hx ?_;rw[hc])
   |wp_step))
theorem K3 {tk:Tok}{Q:Fin->aI->Prop}(cO:bm.contains (.type "object")=true)(hC:h.get? C=some (gL nm q C N bs bm hdct sn sub ab col dd k0 k1 k2 k3 k5 newId))(hcl:mh (aX prog w) h (iU (.ref C) "__class__") (some (.builtin "object.__class__")))
  (hx:h.get? x=some o) (hc:o.cls=.ref C) (hq:Q (.done (.ret (.ref C))) ⟨h,g,d,t,os⟩):aM (aX prog w) A (jA.«object.__getattribute__» ⟨[.ref x,.str "__class__" tk],[]⟩) Q E ⟨h,g,d,t,os⟩:=by
 have f5:(⟨h,g,d,t,os⟩:aI).TypeIs (.builtin "object.__class__") "getset_descriptor":=F.typeOf_object_class;have f4:=F.typeOf_object_class;have f6:=F.slot_gs_get.lookup;have f7:=F.slot_gs_set.lookup;have kk:∀b u,h.get? b=some u->h.get? b=some u:=λ_ _ z=>z
 repeat (any_goals (first
   |assumption
   | (with_reducible refine eO hx ?_;rw[hc])
   | (with_reducible refine hcl _ _ _ _ kk ?_)
   |wp_step))
 refine Rs cO hC hx hc ?_
 repeat (any_goals (first | assumption | wp_step))
theorem N2 {Q:Option aB->aI->Prop}(FB:ExcAttrBase B bmB)(cB:bm.contains (.type "BaseException")=true)(cO:bm.contains (.type "object")=true)
  (hC:h.get? C=some (gL nm q C N bs bm hdct sn sub ab col dd k0 k1 k2 k3 k5 newId)) (hcl:mh (aX prog w) h (iU (.ref C) "__class__") (some (.builtin "object.__class__")))
  (hga:mh (aX prog w) h (iU (.ref C) "__getattribute__") (some (.builtin "BaseException.__getattribute__"))) (hgt:mh (aX prog w) h (iU (.ref C) "__getattr__") none)
  (hx:h.get? x=some o) (hc:o.cls=.ref C) (hq:Q (some (.ref C)) ⟨h,g,d,t+1,os⟩):aM (aX prog w) A (xM (.ref x) "__class__") Q E ⟨h,g,d,t,os⟩:=by
 have f3:=FB.ga.bind (.ref x);have z0:(false && wZ (iL "BaseException.__getattribute__"))=false:=rfl;have z2:(iL "BaseException.__getattribute__" == iL "object.__getattribute__")=false:=(by decide +kernel);have z1:(wZ (cH C) && iL "BaseException.__getattribute__" == iL "object.__getattribute__")=false:=(by rw[z2];rfl);have kk:∀b u,h.get? b=some u->h.get? b=some u:=λ_ _ z=>z;have by_:∀{tk:Tok}{Q:aB->aI->Prop}{E:aB->aI->Prop}{t':Nat},Q (.ref C) ⟨h,g,d,t',os⟩->aM (aX prog w) A (getAttrBy (.ref x) (.str "__class__" tk) false) Q E ⟨h,g,d,t',os⟩:=by
  intro tk Q E t' hq
  repeat (any_goals (first
    |assumption
    | (with_reducible refine eO hx ?_;rw[hc])
    | (with_reducible refine hga _ _ _ _ kk ?_)
    | (with_reducible refine hgt _ _ _ _ kk ?_)
    |wp_step))
  refine nM FB.ga.plain F.entry_bexc_ga ?_;show aM _ _ (jE "BaseException.__getattribute__" ⟨[.ref x,.str "__class__" tk],[]⟩) _ _ _;refine K1 hC cB hx hc ?_;show aM _ _ (jA.«object.__getattribute__» ⟨[.ref x,.str "__class__" tk],[]⟩) _ _ _;refine K3 cO hC hcl hx hc ?_
  repeat (any_goals (first
    |assumption
    |wp_step))
 unfold xM getAttrBy?
 repeat (any_goals (first | assumption | with_reducible apply by_ | wp_step))
end
end Fly
namespace L2
open PySem PySem.Spec PyProof.Rows Fly
section
variable {X:Cx}{pins:List (Addr×Obj)}{σ:St}{H H':Hp}{s s':aI}{e C:Addr}{dx:Option Addr}{B h2:Heap}
theorem Inv.caught (I:Inv X pins σ H s)(os:s'.os=s.os)(bare:pO s'.gens)(xa:XAt B X.stack e (.ref C) dx (some .none) s'.heap)(x2:XAt B X.stack e (.ref C) dx (some .none) h2)(up:s'.heap.UpToSlots h2)
  (hok:HOk X.prog X.w H' B) (he:H' e=none) (hn:s.heap.get? e=none) (un:Un (frs X.stack) [] H H' s.heap s'.heap)
  (old:∀b o,s.heap.get? b=some o->b ∉ frs X.stack->∃o',B.get? b=some o'/\(H b=none->o'=o)) {t':Nat}:Inv X pins σ (upd H' e (rh e C dx)) { s' with heap:=h2,toks:=t' }:=by
 have ne:∀b o,s.heap.get? b=some o->b≠e:=λb o z w=>(by rw[w,hn]at z;cases z);have tne:∀b o,H' b=some o->b≠e:=λb o z=>am z he;have fr:∀b o,b∈frs X.stack->s'.heap.get? b=some o->∃sl,h2.get? b=some { o with slots:=sl }:=λb o hb q=>by
  obtain⟨_,o',q',nf⟩:=xa.frames.mem hb;rw[q]at q';cases q';exact up b o q nf
 obtain⟨oe,vs,z1,z2,z3,z4,_⟩:=x2.obj;refine I.call' (s':={ s' with heap:=h2,toks:=t' }) (ch:=[]) os ⟨λb o q n hb _=>?_,λb o q n hb _=>?_,λb o q n _=>?_,λb o q _=>?_,λb xs q=>?_,λb o u q=>?_,λb ps q=>?_⟩ (λb o z=>?_) bare λb hb=>absurd hb no0
 ·obtain⟨o',q',k'⟩:=old b o q hb;rw[k' n]at q';exact x2.stays b o q'
 ·obtain⟨sl,q1⟩:=un.slot b o q n hb no0;obtain⟨sl2,q2⟩:=fr b _ hb q1;exact⟨sl2,q2⟩
 ·rw[al (ne b o q)];exact un.free b o q n no0
 ·by_cases hb:b∈frs X.stack
  ·obtain⟨o1,q1⟩:=un.there b o q no0;obtain⟨sl,q2⟩:=fr b o1 hb q1;exact⟨_,q2⟩
  ·obtain⟨o',q',_⟩:=old b o q hb;exact⟨o',x2.stays b o' q'⟩
 ·have z:=un.tups b xs q;rw[al (tne b _ z)];exact z
 ·have z:=un.frzs b o u q;rw[al (tne b _ z)];exact z
 ·obtain⟨m,z⟩:=un.tbls b ps q;exact⟨m,by rw[al (tne b _ z)];exact z⟩
 ·by_cases hb:b=e
  ·subst hb;rw[ae]at z;cases z;exact Rq z1 z2 z3 z4
  ·rw[al hb]at z;exact(hok b o z).stay (λc u _ y=>x2.stays c u y) (λc y=>by rw[al (tne c _ y)];exact y) λc xs y=>by rw[al (tne c _ y)];exact y
theorem Inv.unset {i:Nat}{n:Str}{m:Str->Option aB}{u:Option aB}{h':Heap}{t':Nat}(I:Inv X pins σ H s)(hN:X.N.Nodup)(hi:X.N[i]?=some n)(hn:s.heap.Ns X.env.locals m)
  (hl:∀(j:Nat)(y:Str) (v:V),X.N[j]?=some y->σ[j]?=some (some v)->Vis X.env.scope y->∃u,RelV v u/\T8 X.env s.heap m y u)
  (hn':h'.Ns X.env.locals (λx=>if x=n then u else m x)) (hs:gI X.env.locals s.heap h'):Inv X pins (σ.set i none) H { s with heap:=h',toks:=t' }:=by
 have cne:=I.cne;have ab:∀b o,X.s₀.heap.get? b=some o->b≠X.env.locals:=λb o e=>cK (eF (bX e) I.ok.above);refine⟨I.ok,I.os,I.bare,⟨λb o e n hb hx=>(hs.2 b (ab b o e)).trans (I.base.keep b o e n hb hx),λb o e n hb hx=>?_,I.base.free,λb o e hx=>?_,I.base.tups,I.base.frzs,I.base.tbls⟩,⟨_,hn',λj y v e1 e2 e3=>?_⟩,λy c e=>?_,I.free,I.freeC,λp hp=>?_,λb o e=>?_,by simpa using I.len⟩
 ·obtain⟨sl,e1⟩:=I.base.slot b o e n hb hx;exact⟨sl,(hs.2 b (ab b o e)).trans e1⟩
 ·obtain⟨o',e1⟩:=I.base.there b o e hx;exact⟨o',(hs.2 b (ab b o e)).trans e1⟩
 ·by_cases hj:j=i
  ·subst hj;have hz:j < σ.length:=(by rw[I.len];exact(aK.mp hi).1);rw[oN hz]at e2;cases e2
  ·rw[rT (gH hj)]at e2;obtain⟨u',r',q⟩:=hl j y v e1 e2 e3;refine⟨u',r',?_⟩;rcases q with⟨k,z⟩ | ⟨k,c,z,w⟩
   ·refine .inl ⟨k,?_⟩;have:y≠n:=λe=>hj (xi hN e1 (e ▸ hi));simp[this,z]
   ·exact .inr ⟨k,c,z,w.sameBut hs (cne y c z)⟩
 ·obtain⟨v,z⟩:=I.cell y c e;exact⟨v,z.sameBut hs (cne y c e)⟩
 ·obtain⟨e,n,ne,nf,d⟩:=I.pin p hp;exact⟨(hs.2 p.1 ne).trans e,n,ne,nf,d⟩
 ·refine(I.hok b o e).stay (λc v hc q=>(hs.2 c ?_).trans q) (λ_ q=>q) λ_ _ q=>q;intro h_1;subst h_1;rcases hc with w | hc
  ·rw[<-w,I.free]at e;cases e
  ·rw[I.free]at hc;cases hc
end
section
variable {X:Cx}{x c n y:Str}{f SW:Addr}{fd:cC}{k i j:Nat}{ps:List Str}{sp:Sp}{a:Expr}{es:List Expr}{t:TA}{p pos pe pc py pn pa ph tp:Pos}
end
theorem K4 {K:aA}{e C:Addr}(c:ik K C)(hcl:aW K (.ref C) "__class__"=some (some (.builtin "object.__class__"))) :
  PySem.W.KitX K (.ref e) (.ref C) (λh=>∃oe vs,h.get? e=some oe/\oe.cls=.ref C/\oe.data=.fields vs) where
 ty:=λM h X ⟨oe,vs,z1,z2,_⟩=>by
  rw[<-z2];exact(PySem.W.Looks.ld z1).andThen .now
 it:=λM h X _=>by
  obtain⟨nm,q,N,bs,bm,sn,sub,ab,col,dd,k0,k1,k2,k3,k5,lk,T⟩:=c.obj;intro A' Q' E' s' k q;unfold isType loadHead;exact aC (wpAny_loadPart (k _ _ (X _ _ lk)) (wpAny_pure q))
 ne:=λh tp dd its n sl X htp=>by
  obtain⟨nm,q,N,bs,bm,sn,sub,ab,col,dd',k0,k1,k2,k3,k5,lk,T⟩:=c.obj;refine uA.mpr λz=>?_;have w:C=tp:=Value.ref.inj (beq_iff_eq.mp z);subst w;have z:=congrArg (Option.map Obj.cls) ((X _ _ lk).symm.trans htp);have z':some (rS "type")=some (rS "tuple"):=z;exact absurd z' (by decide)
 ca:=λ{prog w A E Q s} X ⟨oe,vs,z1,z2,_⟩ hq=>by
  obtain⟨nm,q,N,bs,bm,sn,sub,ab,col,dd,k0,k1,k2,k3,k5,lk,T⟩:=c.obj;obtain⟨hh,g,d,t,os⟩:=s;exact N2 PySem.F.attrBase_ValueError T.hB T.hO (X _ _ lk) (iA X hcl) (iA X c.ga) (iA X c.gt) z1 z2 hq
def IsX (H:Hp)(e C:Addr):Prop:=(∃dct,H e=some (fb e C dct))\/∃dx,H e=some (rh e C dx)
theorem IsX.get {P:aS}{w:bZ}{H:Hp}{h:Heap}{e C:Addr}(x:HOk P w H h)(i:IsX H e C):∃oe vs,h.get? e=some oe/\oe.cls=.ref C/\oe.data=.fields vs:=by
 rcases i with⟨dct,i⟩ | ⟨dx,i⟩
 ·obtain⟨t0,z⟩:=kg x i;exact⟨_,_,z,rfl,rfl⟩
 ·obtain⟨oe,vs,z1,z2,_,z3⟩:=C7 x i;exact⟨oe,vs,z1,z2,z3⟩
theorem XAs.isX {H:Hp}{e C:Addr}{fs:List (Str×V)}(x:XAs H e C fs):IsX H e C:=by
 obtain⟨dx,i | i,_⟩:=x
 ·exact .inl ⟨_,i⟩
 ·exact .inr ⟨_,i⟩
section
variable {X:Cx}
def N3:V->Option aB
 | .ref a=>some (.ref a)
 | .ty n=>some (.type n)
 |_=>none
theorem Db {v:V}{u c:aB}(r:RelV v u)(e:N3 v=some c):u=c:=by
 cases v with
 |ref a=>cases e;exact r
 |ty n=>cases e;exact r
 |_=>cases e
def rIsx (K:aA):List V->Hp->VK->Prop:=λxs H Q=>∃e C y c b,xs=[.ref e,y]/\IsX H e C/\ik K C/\aW K (.ref C) "__class__"=some (some (.builtin "object.__class__"))/\N3 y=some c/\eA K (.ref C) c=some b/\Q (.bl b) H
theorem nk:i9 X (.builtin "isinstance") (rIsx X.K):=by
 intro pins s σ H xs us Q I r ⟨e,C,y,c,b,ex,ix,cl,hcl,hc,hk,q⟩;subst ex;obtain⟨u1,u2,rfl,r1,r2⟩:=ub r;obtain rfl:u1=cH e:=r1;obtain rfl:=Db r2 hc;refine PySem.W.kia_one (K4 cl hcl) I.kIn (ix.get I.hok) hk ?_ λtk=>⟨.bl b,H,I.tok tk,rfl,q⟩;intro z;cases y<;>cases hc<;>cases z
def Qa:List V->List aB->Prop:=Paired λv c=>N3 v=some c
theorem Bw:∀{xs:List V}{us cs:List aB},Vals xs us->Qa xs cs->us=cs
 | [],_,_,.nil,.nil=>rfl
 |_::_,_,_,.cons r rs,.cons e es=>by rw[Db r e,Bw rs es]
def Wp (K:aA):List V->Hp->VK->Prop:=λxs H Q=>∃e C tp ys cs b,xs=[.ref e,.ref tp]/\IsX H e C/\ik K C/\aW K (.ref C) "__class__"=some (some (.builtin "object.__class__"))/\H tp=some (.tup ys)/\Qa ys cs/\oX K (.ref C) cs=some b/\Q (.bl b) H
theorem K5:i9 X (.builtin "isinstance") (Wp X.K):=by
 intro pins s σ H xs us Q I r ⟨e,C,tp,ys,cs,b,ex,ix,cl,hcl,ht,hc,hk,q⟩;subst ex;obtain⟨u1,u2,rfl,r1,r2⟩:=ub r;obtain rfl:u1=cH e:=r1;obtain rfl:u2=cH tp:=r2;obtain⟨_,its,rv,o,h1,h2,n,h3⟩:=(show ObjOk X.prog X.w H s.heap tp (.tup ys)from I.hok tp _ ht);obtain rfl:=Bw rv hc;obtain⟨oc,od,odt,osl⟩:=o;obtain rfl:oc=.type "tuple":=h2;obtain rfl:odt=.seq its.toArray n:=h3;exact PySem.W.kia_tup (K4 cl hcl) I.kIn (ix.get I.hok) h1 hk (λz=>nomatch z) λtk=>⟨.bl b,H,I.tok tk,rfl,q⟩
end
end L2
namespace L2
open PySem PySem.Spec PyProof.Rows
open Sem (wp)
open AutoSeq1 (wpAny_loadPart')
theorem Fc (l:Addr)(items:Array aB) :
  Meets (jA.«enumerate.__new__» ⟨[.type "enumerate",.ref l],[]⟩) (λ_ R s=>s.heap.IsTuple l items/\R (.ok (.ret (.ref (s.heap.push { cls:=.type "tuple_iterator",data:=.fields #[.ref l,.int 0 0] }).objs.size))) { s with heap:=(s.heap.push { cls:=.type "tuple_iterator",data:=.fields #[.ref l,.int 0 0] }).push { cls:=.type "enumerate",data:=.fields #[.none,.bool false,.ref s.heap.objs.size,jC 0,.none,.none] } }):=
 .of_wp λprog w A R s h=>by
  obtain⟨hp,g,d,tk,os⟩:=s;obtain⟨hL,h⟩:=h;have hsub:=sub_enumerate;have hL':Heap.IsTuple (vQ ⟨hp,g,d,tk,os⟩) l items:=hL
  wp_walk using oH hL'
  refine wpAny_stack_any λst=>wpAny_pure ?_
  split
  ·rename_i c _ _ _ _ _
   cases(c == rS "enumerate")
   ·wp_walk using oH hL'
    exact⟨_,rfl,h⟩
   ·wp_walk using oH hL'
    exact⟨_,rfl,h⟩
  ·wp_walk using oH hL'
   exact⟨_,rfl,h⟩
section
variable {prog:aS}{w:bZ}{A:cW}{E:aB->aI->Prop}{s:aI}
theorem Hx {l:Addr}{items:Array aB}{Q:aB->aI->Prop}(hL:s.heap.IsTuple l items)
  (h:∀h',lM h' (s.heap.objs.size+1) s.heap.objs.size 0 .none->h'.IsTupleIter s.heap.objs.size l 0->h'.objs.size=s.heap.objs.size+2->(∀b o,s.heap.get? b=some o->h'.get? b=some o)->Q (.ref (s.heap.objs.size+1)) { s with heap:=h' }) :
  aM (aX prog w) A (call (.type "enumerate") [.ref l]) Q E s:=by
 refine xA F.called_enumerate (by decide) (F.typeCall_enumerate_1 _) (F.newCall_enumerate_1 _) (λobj=>F.args_object_init_2 obj _) F.entry_enumerate_new (Fc l items) ⟨hL,?_⟩;have hz:(s.heap.push { cls:=.type "tuple_iterator",data:=.fields #[.ref l,.int 0 0] }).objs.size=s.heap.objs.size+1:=gP ..;show _/\_;rw[hz];have he:lM ((s.heap.push { cls:=.type "tuple_iterator",data:=.fields #[.ref l,.int 0 0] }).push { cls:=.type "enumerate",data:=.fields #[.none,.bool false,.ref s.heap.objs.size,jC 0,.none,.none] }) (s.heap.objs.size+1) s.heap.objs.size 0 .none:=by
  have z:=cJ (s.heap.push { cls:=.type "tuple_iterator",data:=.fields #[.ref l,.int 0 0] }) (o:={ cls:=.type "enumerate",data:=.fields #[.none,.bool false,.ref s.heap.objs.size,jC 0,.none,.none] }) rfl;rw[hz]at z;exact z
 exact⟨⟨_,he,rfl⟩,h _ he ⟨_,aJ _ (cJ _ rfl),rfl,rfl⟩ (by rw[gP,hz]) λb o x=>aJ _ (aJ _ x)⟩
theorem Hy {e it l:Addr}{i:Nat}{items:Array aB}{x old:aB}{Q:aB->aI->Prop}(he:lM s.heap e it i old)(hit:s.heap.IsTupleIter it l i)(hl:s.heap.IsTuple l items)(hx:items[i]?=some x)(hne:e≠it)
  (hQ:∀h',qI h' e it ((i:Int)+1) x s.heap.objs.size->h'.IsTupleIter it l (i+1)->h'.get? s.heap.objs.size=some { cls:=.type "tuple",data:=.seq #[.int i s.toks,x] }->h'.objs.size=s.heap.objs.size+1->(∀b o,b≠e->b≠it->s.heap.get? b=some o->h'.get? b=some o)->Q (.ref s.heap.objs.size) { s with heap:=h',toks:=s.toks+1 }) :
  aM (aX prog w) A (jA.«enumerate.__next__» ⟨[.ref e],[]⟩) (λfin s'=>∃v,fin=.done (.ret v)/\Q v s') E s:=by
 obtain⟨hp,g,d,tk,os⟩:=s;show aM _ _ (field (.ref e) 2 >>= _) _ _ _;refine aC (eC he rfl (x:=.ref it) rfl ?_);refine aC (Wk hit hl hx λh1 i1 s1=>?_)
 replace s1:gI it hp h1:=s1
 have e1:lM h1 e it i old:=(s1.2 e hne).trans he;show aM _ _ (field (.ref e) 3 >>= _) _ _ ⟨h1,g,d,tk,os⟩;refine aC (eC e1 rfl (x:=jC i) rfl ?_);show aM _ _ (field (.ref e) 4 >>= _) _ _ ⟨h1,g,d,tk,os⟩;refine aC (eC e1 rfl (x:=.none) rfl ?_);show aM _ _ (mkInt i >>= _) _ _ ⟨h1,g,d,tk,os⟩;refine aC (wpAny_mkInt ?_);show aM _ _ (wD (.ref e) 3 (jC ((i:Int)+1)) >>= _) _ _ ⟨h1,g,d,tk+1,os⟩;refine aC (fQ e1 (by simp) λh2 e2 s2=>?_)
 replace s2:gI e h1 h2:=s2
 replace e2:lM h2 e it ((i:Int)+1) old:=e2
 show aM _ _ (wD (.ref e) 4 .none >>= _) _ _ ⟨h2,g,d,tk+1,os⟩;refine aC (fQ e2 (by simp) λh3 e3 s3=>?_)
 replace s3:gI e h2 h3:=s3
 replace e3:lM h3 e it ((i:Int)+1) old:=e3
 show aM _ _ (newTuple [.int i tk,x] >>= _) _ _ ⟨h3,g,d,tk+1,os⟩;refine aC (vX ?_);have e4:lM (h3.push { cls:=.type "tuple",data:=.seq #[.int i tk,x] }) e it ((i:Int)+1) old:=aJ _ e3;generalize hh4:h3.push { cls:=.type "tuple",data:=.seq #[.int i tk,x] }=h4 at e4;have hsz:h3.objs.size=hp.objs.size:=(by rw[s3.1,s2.1,s1.1]);have hel:e < hp.objs.size:=bX he;have t4:h4.get? hp.objs.size=some { cls:=.type "tuple",data:=.seq #[.int i tk,x] }:=(by rw[<-hh4,<-hsz];exact cJ _ rfl);have z4:h4.objs.size=hp.objs.size+1:=(by rw[<-hh4,gP,hsz]);have k4:∀b o,b≠e->b≠it->hp.get? b=some o->h4.get? b=some o:=λb o hbe hbi hb=>by
  rw[<-hh4];exact aJ _ (s3.extBut b o hbe (s2.extBut b o hbe (s1.extBut b o hbi hb)))
 have i4:h4.IsTupleIter it l (i+1):=by
  rw[<-hh4];obtain⟨o,ho,r⟩:=(i1.extBut s2.extBut (gH hne)).extBut s3.extBut (gH hne);exact⟨o,aJ _ ho,r⟩
 show aM _ _ (gE (.ref e) >>= _) _ _ ⟨h4,g,d,tk+1,os⟩;rw[hsz];clear hh4 e3 s3 e2 s2 e1 s1 i1 hsz h3 h2 h1;refine aC ?_;unfold gE;refine aC (eC e4 rfl (x:=.none) rfl (wpAny_pure ?_));simp only[if_true];refine aC (pE ?_);refine aC (eC e4 rfl (x:=old) rfl ?_);refine aC (fQ e4 (by simp) λh5 e5 s5=>?_)
 replace s5:gI e h4 h5:=s5
 replace e5:lM h5 e it ((i:Int)+1) x:=e5
 show aM _ _ (gX (.ref e) (.ref hp.objs.size) >>= _) _ _ ⟨h5,g,d,tk+1,os⟩;refine aC ?_;unfold gX;refine aC (fQ e5 (by simp) λh6 e6 s6=>?_)
 replace s6:gI e h5 h6:=s6
 replace e6:qI h6 e it ((i:Int)+1) x hp.objs.size:=e6
 refine fQ e6 (by simp) λh7 e7 s7=>?_
 replace s7:gI e h6 h7:=s7
 replace e7:qI h7 e it ((i:Int)+1) x hp.objs.size:=e7
 refine aC (tL (wpAny_pure ⟨_,rfl,hQ h7 e7 ?_ ?_ ?_ ?_⟩))
 ·exact((i4.extBut s5.extBut (gH hne)).extBut s6.extBut (gH hne)).extBut s7.extBut (gH hne)
 ·exact s7.extBut _ _ (gT hel) (s6.extBut _ _ (gT hel) (s5.extBut _ _ (gT hel) t4))
 ·rw[s7.1,s6.1,s5.1,z4]
 ·exact λb o hbe hbi hb=>s7.extBut b o hbe (s6.extBut b o hbe (s5.extBut b o hbe (k4 b o hbe hbi hb)))
theorem Hz {e it l:Addr}{i:Nat}{items:Array aB}{x old:aB}{Q:Option aB->aI->Prop}(he:lM s.heap e it i old)(hit:s.heap.IsTupleIter it l i)(hl:s.heap.IsTuple l items)(hx:items[i]?=some x)(hne:e≠it)
  (hQ:∀h',qI h' e it ((i:Int)+1) x s.heap.objs.size->h'.IsTupleIter it l (i+1)->h'.get? s.heap.objs.size=some { cls:=.type "tuple",data:=.seq #[.int i s.toks,x] }->h'.objs.size=s.heap.objs.size+1->(∀b o,b≠e->b≠it->s.heap.get? b=some o->h'.get? b=some o)->Q (some (.ref s.heap.objs.size)) { s with heap:=h',toks:=s.toks+1 }):aM (aX prog w) A (mQ (.ref e)) Q E s:=by
 have hT:s.TypeIs (.ref e) "enumerate":=⟨_,he,rfl⟩;unfold mQ;exact aC (pM (gQ (name:=iN "__next__") hT F.slot_enumerate_next (iI F.slot_enumerate_next hT F.entry_enumerate_next (Hy he hit hl hx hne λh' a b c d k=>wpAny_pure (hQ h' a b c d k)) (F.args_enumerate_next_1 _))))
theorem K6 {e it l:Addr}{i:Nat}{items:Array aB}{old:aB}{Q:Option aB->aI->Prop}(hh:A.handled=none)(he:lM s.heap e it i old)(hit:s.heap.IsTupleIter it l i)(hl:s.heap.IsTuple l items)(hx:items[i]?=none)
  (hQ:∀h',vO it s.heap h'->Q none { s with heap:=h' }):aM (aX prog w) A (mQ (.ref e)) Q E s:=by
 have hT:s.TypeIs (.ref e) "enumerate":=⟨_,he,rfl⟩;unfold mQ;refine aC (pM (gQ (name:=iN "__next__") hT F.slot_enumerate_next (iI F.slot_enumerate_next hT F.entry_enumerate_next ?_ (F.args_enumerate_next_1 _))));show aM _ _ (field (.ref e) 2 >>= _) _ _ _;refine aC (eC he rfl (x:=.ref it) rfl ?_);refine aC (Kv hh hit hl hx λh' x ex hx'=>?_);obtain⟨o,ho,hc⟩:=hx';refine aC (lZ (T:="StopIteration") (b:=true) ⟨o,ho,hc⟩ vY ?_);exact wpAny_pure (hQ _ ex)
end
structure Wq (h:Heap)(e it l:Addr)(k:Nat):Prop where
 en:∃old,lM h e it k old
 one:h.IsTupleIter it l k
def Ite (K:aA)(a:Addr):It:=
 ⟨λi H=>∃xs x,SqT K H a xs/\xs[i]?=some x,λi H v H'=>∃p x,H p=none/\v=.ref p/\(∀xs,SqT K H a xs->xs[i]?=some x)/\H'=upd H p (.tup [.int (i:Int),x]),λi H=>∃xs,SqT K H a xs/\xs.length<=i⟩
theorem K7 {P:aS}{w:bZ}{K:aA}{es:List Expr}{j:Nat}{pos:Pos}{e it a:Addr}(hne:e≠it)(hae:a≠e)(hai:a≠it) :
  t9 P w K (.Tuple es j pos) (Ite K a) [e,it] e (λk h=>Wq h e it a k) where
 mem:=by simp
 obj:=λk h Z c hc=>by
  obtain⟨⟨old,u1⟩,⟨o4,u4,_,v4⟩⟩:=Z;simp only[cD,eU,or_false]at hc;rcases hc with q | q
  ·subst q;exact⟨_,u1,λv e=>by cases(show tK _=rH v from e)⟩
  ·subst q;exact⟨_,u4,λv e=>by rw[v4]at e;cases e⟩
 keep:=λk h h' Z kk=>by
  obtain⟨⟨old,u1⟩,⟨o4,u4,r4⟩⟩:=Z;exact⟨⟨old,kk e (by simp) _ u1⟩,⟨o4,kk it (by simp) _ u4,r4⟩⟩
 item:=by
  intro X hP hw hK hc k pins s σ H E I hf Z hg;subst hP hw hK;obtain⟨xs,x,hx,ex⟩:=hg;obtain⟨its,r1,p1,_⟩:=I.tuple hx;obtain⟨u,eu,ru⟩:=r1.get ex;obtain⟨⟨old,u1⟩,u2⟩:=Z;refine Hz u1 u2 (show s.heap.IsTuple a its.toArray from p1) (x:=u) (by simpa using eu) hne λh1 b1 b2 b3 b4 kk=>?_;refine⟨_,rfl,wpAny_letOwnedTupleGo_enum b1 λh2 c1 sb=>?_⟩;have ks:∀c o,c ∉ [e,it]->s.heap.get? c=some o->h2.get? c=some o:=λc o hc q=>by
   simp only[cD,eU,or_false,not_or]at hc;exact sb.extBut _ _ hc.1 (kk c o hc.1 hc.2 q)
  have ne:s.heap.objs.size≠e:=gT (bX u1);have b5:=sb.extBut _ _ ne b3;have I2:Inv X pins σ H { s with heap:=h2,toks:=s.toks+1 }:=I.turnedAll (t':=s.toks+1) hf ks;have fT:i8 X pins H s.heap.objs.size:=I.fpOk (aO _) (I.hok.fresh (aO _));have I3:Inv X pins σ (upd H s.heap.objs.size (.tup [.int (k:Int),x])) { s with heap:=h2,toks:=s.toks+1 }:=I2.track fT I.sz
   ⟨by show 2<=sizeLine;decide,[.int k s.toks,u],.cons ⟨_,rfl⟩ (.cons ru .nil),⟨_,b5,rfl,_,rfl⟩⟩
  refine⟨.ref s.heap.objs.size,_,I3,rfl,⟨_,x,fT.1,rfl,λus hu=>by rw[I.tuple_inj hu hx];exact ex,rfl⟩,?_,λc hc=>?_⟩
  ·obtain⟨w3,v3,q3⟩:=b2;exact⟨⟨_,c1⟩,⟨w3,sb.extBut _ _ (gH hne) v3,q3⟩⟩
  ·obtain⟨o,q⟩:∃o,s.heap.get? c=some o:=by
    obtain⟨o4,u4,_⟩:=u2;simp only[cD,eU,or_false]at hc;rcases hc with q | q
    ·subst q;exact⟨_,u1⟩
    ·subst q;exact⟨_,u4⟩
   rw[al (cK (bX q))];exact(hf c hc).1
 done:=by
  intro X hP hw hK hc k pins s σ H E I hf Z hg;subst hP hw hK;obtain⟨xs,hx,hend⟩:=hg;obtain⟨its,r1,p1,_⟩:=I.tuple hx;obtain⟨⟨old,u1⟩,u2⟩:=Z;have l1:=r1.length;refine K6 (I.ok.hd hc) u1 u2 (show s.heap.IsTuple a its.toArray from p1) (by simp;lia) λh1 kk=>⟨rfl,I.turnedAll (t':=s.toks) hf λc o hc q=>?_⟩;simp only[cD,eU,or_false,not_or]at hc;exact kk c o hc.2 q
 self:=λ_ _ _ _ _ Z h=>let ⟨_,u⟩:=Z.en;qU u h
section
variable {X:Cx}
def Ws (K:aA)(ta:TA):TI:=λσ H R=>ta σ H λvs H1=>∃a xs,vs=[.ref a]/\SqT K H1 a xs/\R (Ite K a) H1
theorem Rt {e1:Expr}{ta:TA}{p pos tpos:Pos}{es:List Expr}{j:Nat}(hg:Gl X "enumerate")(hm:X.mg "enumerate"=none)(ha:PA X [e1] ta)(hs:cZ [e1] X.env=[(false,eval e1 X.env)]:=by rfl)
  (hs2:cZ [] X.env=[]:=by rfl):PI X (.Tuple es j tpos) (.Call (.Name "enumerate" p) [e1] [] pos) (Ws X.K ta):=by
 intro pins s σ H R I h;refine Call_ (jy I hg hm (by kernel_rfl:lQ (iN "enumerate")=some (.type "enumerate")) (gU (thn (ha pos pins s σ H _ I h) λus s1 ⟨vs,H1,I1,r1,q1⟩=>?_) (by rw[hs,hs2]) (by rw[hs2];rfl)));obtain⟨a,xs,e,hx,q⟩:=q1;subst e;obtain⟨u,rfl,ru⟩:=jg r1;cases(show u=cH a from ru);obtain⟨its,k1,p1,_⟩:=I1.tuple hx;have a1:a < s1.heap.objs.size:=(by obtain⟨_,e,_⟩:=p1;exact bX e);refine Hx (show s1.heap.IsTuple a its.toArray from p1) λh2 Z1 Z2 sz kk=>?_;have I2:Inv X pins σ H1 { s1 with heap:=h2 }:=I1.kept (t':=s1.toks) kk;refine qU Z1 ⟨_,_,_,_,H1,rfl,I2,K7 (e:=s1.heap.objs.size+1) (it:=s1.heap.objs.size) (a:=a) (Nat.succ_ne_self _) (cK (uB a1)) (cK a1),⟨⟨_,Z1⟩,Z2⟩,λc hc=>?_,q⟩;refine I1.fpOk ?_ (I1.hok.fresh ?_)
 all_goals
  simp only[cD,eU,or_false]at hc;rcases hc with q | q<;>subst q<;>lia
end
theorem N4 {K:aA}{a:Addr}{xs:List V}{g:TG}{tb:TS}{D:db}{σ:St}{H:Hp}(Pv:Nat->St->Hp->Prop)(h0:Pv 0 σ H)
  (hl:∀i σ H,i<=xs.length->Pv i σ H->SqT K H a xs)
  (hs:∀i x p σ H,xs[i]?=some x->Pv i σ H->H p=none->g (.ref p) σ (upd H p (.tup [.int (i:Int),x])) λσ2 H2=>tb { D with nx:=Pv (i+1),ct:=Pv (i+1),bk:=D.nx } σ2 H2) (hd:∀σ H,Pv xs.length σ H->D.nx σ H) :
  ∃W:Nat->Nat->St->Hp->Prop,(∃m,W 0 m σ H)/\∀i m σ H,W i m σ H->
   ((Ite K a).stop i H/\D.nx σ H)\/((Ite K a).go i H/\∃N:St->Hp->Prop,(∀σ' H',N σ' H'->∃m',m' < m/\W (i+1) m' σ' H')/\∀x H',(Ite K a).yld i H x H'->g x σ H' λσ2 H2=>tb { D with nx:=N,ct:=N,bk:=D.nx } σ2 H2):=by
 refine⟨λi m σ H=>i+m=xs.length/\Pv i σ H,⟨xs.length,by lia,h0⟩,?_⟩;intro i m σ H h_1;obtain⟨e,p⟩:=h_1;have q1:=hl i σ H (by lia) p;by_cases hi:i < xs.length
 ·have ex:xs[i]?=some xs[i]:=aL hi;refine .inr ⟨⟨xs,_,q1,ex⟩,Pv (i+1),λσ' H' p'=>⟨m - 1,by lia,by lia,p'⟩,?_⟩;intro x H' h_1;obtain⟨pp,x',fp,rfl,eu,rfl⟩:=h_1;exact hs i x' pp σ H (eu xs q1) p fp
 ·have e':i=xs.length:=(by lia);subst e';exact .inl ⟨⟨xs,q1,aO _⟩,hd σ H p⟩
end L2
namespace S25
open PySem L2
abbrev Fld:={ f:Str // (qH f).length<=2000 }
abbrev Num:={ v:Int // v.natAbs.log2 < 1000 }
inductive Say where
 |nought | every | note
 |is (f:Fld) (v:Num)
 |put (f:Fld) (v:Num)
 |no (s:Say)
 |again (s:Say)
 |either (a b:Say)
 |both (a b:Say)
def Say.sort:Say->Str
 | .nought=>"none" | .every=>"all" | .note=>"note" | .is _ _=>"is" | .put _ _=>"put" | .no _=>"not" | .again _=>"again" | .either _ _=>"either" | .both _ _=>"then"
def Say.kids:Say->List Say
 | .no s=>[s] | .again s=>[s] | .either a b=>[a,b] | .both a b=>[a,b] | _=>[]
def Say.parts:Say->List Say
 | .no s=>.no s::s.parts
 | .again s=>.again s::s.parts
 | .either a b=>.either a b::(a.parts++b.parts)
 | .both a b=>.both a b::(a.parts++b.parts)
 |s=>[s]
def Say.size:Say->Nat
 | .no s=>s.size+1
 | .again s=>s.size+1
 | .either a b=>a.size+b.size+1
 | .both a b=>a.size+b.size+1
 |_=>1
def Say.isT:Say->Bool
 | .no s=>s.isT
 | .either a b=>a.isT && b.isT
 | .both a b=>a.isT && b.isT
 | .nought=>true | .every=>true | .is _ _=>true
 |_=>false
def Say.nts:Say->Nat
 | .no s=>s.nts
 | .again s=>s.nts
 | .either a b=>a.nts+b.nts
 | .both a b=>a.nts+b.nts
 | .note=>1
 |_=>0
def Say.inT:Say->Bool
 | .nought=>true | .every=>true | .is _ _=>true | .no _=>true | .either _ _=>true | .both _ _=>true
 |_=>false
def Say.isN:Say->Bool
 | .note=>true
 |_=>false
def Say.hasK:Say->Bool
 | .no _=>true | .again _=>true | .either _ _=>true | .both _ _=>true
 |_=>false
theorem jm (s:Say):s.parts=s::s.kids.flatMap Say.parts:=by
 cases s<;>simp[Say.parts,Say.kids]
theorem Fu (s:Say):s.size=(s.kids.map Say.size).sum+1:=by
 cases s<;>simp[Say.size,Say.kids]
theorem nn (s:Say):1<=s.size:=by rw[Fu];lia
theorem i6 (s:Say):s.parts.length=s.size:=by
 induction s with
 |no s ih=>simp[Say.parts,Say.size,ih]
 |again s ih=>simp[Say.parts,Say.size,ih]
 |either a b ia ib=>simp[Say.parts,Say.size,ia,ib]
 |both a b ia ib=>simp[Say.parts,Say.size,ia,ib]
 |_=>rfl
theorem Ia (s:Say):s.parts.all Say.inT=s.isT:=by
 induction s with
 |no s ih=>simp[Say.parts,Say.isT,<-ih,Say.inT]
 |again s ih=>simp[Say.parts,Say.isT,Say.inT]
 |either a b ia ib=>simp[Say.parts,Say.isT,<-ia,<-ib,Say.inT]
 |both a b ia ib=>simp[Say.parts,Say.isT,<-ia,<-ib,Say.inT]
 |_=>rfl
theorem wz (s:Say):(s.parts.filter Say.isN).length=s.nts:=by
 induction s with
 |no s ih=>simp[Say.parts,Say.nts,<-ih,Say.isN]
 |again s ih=>simp[Say.parts,Say.nts,<-ih,Say.isN]
 |either a b ia ib=>simp[Say.parts,Say.nts,<-ia,<-ib,Say.isN]
 |both a b ia ib=>simp[Say.parts,Say.nts,<-ia,<-ib,Say.isN]
 |_=>rfl
theorem Uu (s:Say):s.nts<=s.size:=by
 rw[<-wz,<-i6];exact jR _ _
theorem io:∀s:Say,s.isT=true->s.nts=0
 | .nought,_=>rfl | .every,_=>rfl | .is _ _,_=>rfl
 | .note,h=>by cases h
 | .put _ _,h=>by cases h
 | .again _,h=>by cases h
 | .no s,h=>io s h
 | .either a b,h=>by
  have z:(a.isT && b.isT)=true:=h;rw[iO]at z;show a.nts+b.nts=0;rw[io a z.1,io b z.2]
 | .both a b,h=>by
  have z:(a.isT && b.isT)=true:=h;rw[iO]at z;show a.nts+b.nts=0;rw[io a z.1,io b z.2]
def Say.da:Say->Da
 | .is f v=>.tup [.flat (.str "is"),.flat (.str f.1),.flat (.int v.1)]
 | .put f v=>.tup [.flat (.str "put"),.flat (.str f.1),.flat (.int v.1)]
 | .no s=>.tup [.flat (.str "not"),s.da]
 | .again s=>.tup [.flat (.str "again"),s.da]
 | .either a b=>.tup [.flat (.str "either"),a.da,b.da]
 | .both a b=>.tup [.flat (.str "then"),a.da,b.da]
 | .nought=>.tup [.flat (.str "none")]
 | .every=>.tup [.flat (.str "all")]
 | .note=>.tup [.flat (.str "note")]
theorem sr (s:Say):s.da.fix=true:=by
 induction s with
 |no s ih=>simp[Say.da,Da.fix,ir,ih]
 |again s ih=>simp[Say.da,Da.fix,ir,ih]
 |either a b ia ib=>simp[Say.da,Da.fix,ir,ia,ib]
 |both a b ia ib=>simp[Say.da,Da.fix,ir,ia,ib]
 |_=>simp[Say.da,Da.fix,ir]
theorem i5 {K:aA}{H:Hp}{x:V}{s:Say}(h:Hold K H x s.da):∃a xs,x=.ref a/\SqT K H a (.str s.sort::xs)/\(s.hasK=true->Holds K H xs (s.kids.map Say.da)):=by
 cases s
 all_goals
  obtain⟨a,ys,e,ha,hd⟩:=Hold.tupI h;cases hd with
  |cons h1 r1=>
   cases h1.flatI;refine⟨a,_,e,ha,λq=>?_⟩
   first | exact r1 | (cases q)
theorem Ru {s:Say}(h:s.hasK=false):s.kids=[]:=by cases s<;>first | rfl | cases h
def HS:List V:=[.str "not",.str "either",.str "then",.str "again"]
def TS:List V:=[.str "none",.str "all",.str "is",.str "not",.str "either",.str "then"]
theorem Wt (s:Say):inV (.str s.sort) HS=s.hasK:=by cases s<;>kernel_rfl
theorem Wu (s:Say):inV (.str s.sort) S25.TS=s.inT:=by cases s<;>kernel_rfl
theorem is_N (s:Say):decide (V.str s.sort=V.str "note")=s.isN:=by cases s<;>kernel_rfl
end S25
namespace S1
def longer (acc:List (List Int))(c:Nat):List (List Int):=acc.flatMap λl=>(fK c).map λ(v:Nat)=>l++[(v:Int)]
def j3 (acc:List (List Int))(cs:List Nat):List (List Int):=cs.foldl longer acc
def mul (cs:List Nat):Nat:=cs.foldl (· * ·) 1
theorem w6 (acc:List (List Int))(l:List Int)(c:Nat):longer (acc++[l]) c=longer acc c++(fK c).map λ(v:Nat)=>l++[(v:Int)]:=by
 simp[longer,iR]
theorem o0 (acc:List (List Int))(c:Nat):(longer acc c).length=acc.length * c:=by
 induction acc with
 |nil=>simp[longer]
 |cons l r ih=>
  have e:longer (l::r) c=((fK c).map λ(v:Nat)=>l++[(v:Int)])++longer r c:=(by simp[longer,iW]);rw[e,aN,ih,aG,gK,dX,wV,iY]
theorem w8:∀(cs:List Nat)(acc:List (List Int)),(j3 acc cs).length=cs.foldl (· * ·) acc.length
 | [],_=>rfl
 |c::r,acc=>by
  show(j3 (longer acc c) r).length=r.foldl (· * ·) (acc.length * c);rw[w8 r,o0]
structure Good (cs:List Nat)(ls:List (List Int)):Prop where
 wide:∀l∈ls,l.length=cs.length
 rng:∀l∈ls,∀(i:Nat)(v:Int),l[i]?=some v->∃c,cs[i]?=some c/\0<=v/\v < (c:Int)
 ord:ls.Pairwise λa b=>HT.lexLt a b=true
theorem Dc:∀(a:List Int)(x y:Int),x < y->HT.lexLt (a++[x]) (a++[y])=true
 | [],x,y,h=>by
  show HT.lexLt [x] [y]=true;rw[HT.lexLt_cons,if_neg (by lia)];exact decide_eq_true h
 |z::r,x,y,h=>by
  show HT.lexLt (z::(r++[x])) (z::(r++[y]))=true;rw[HT.lexLt_cons,if_pos rfl];exact Dc r x y h
theorem Fv:∀(a b:List Int)(x y:Int),a.length=b.length->HT.lexLt a b=true->HT.lexLt (a++[x]) (b++[y])=true
 | [],[],_,_,_,h=>by cases h
 | [],_::_,_,_,e,_=>by cases e
 |_::_,[],_,_,e,_=>by cases e
 |p::r,q::t,x,y,e,h=>by
  have e':r.length=t.length:=(by simpa using e);show HT.lexLt (p::(r++[x])) (q::(t++[y]))=true;rw[HT.lexLt_cons]at h ⊢;by_cases c:p=q
  ·rw[if_pos c]at h ⊢;exact Fv r t x y e' h
  ·rw[if_neg c]at h ⊢;exact h
theorem o8 {acc:List (List Int)}{c:Nat}{m:List Int}(h:m∈longer acc c):∃l∈acc,∃v:Nat,v < c/\m=l++[(v:Int)]:=by
 obtain⟨l,hl,h⟩:=List.mem_flatMap.mp h;obtain⟨v,hv,e⟩:=eE.mp h;exact⟨l,hl,v,eZ.mp hv,e.symm⟩
theorem Good.longer {cs:List Nat}{ls:List (List Int)}(g:Good cs ls)(c:Nat):Good (cs++[c]) (longer ls c) where
 wide:=λm hm=>by
  obtain⟨l,hl,v,hv,rfl⟩:=o8 hm;rw[aN,aN,g.wide l hl];rfl
 rng:=λm hm i v hi=>by
  obtain⟨l,hl,w,hw,rfl⟩:=o8 hm;have wl:=g.wide l hl;rcases Nat.lt_trichotomy i l.length with q | q | q
  ·rw[eP q]at hi;obtain⟨c',hc,r⟩:=g.rng l hl i v hi;exact⟨c',by rw[eP (by lia)];exact hc,r⟩
  ·subst q;have e:v=(w:Int):=(by simpa using hi.symm);refine⟨c,by rw[wl];simp,by lia,by lia⟩
  ·rw[List.getElem?_eq_none (by rw[aN,gF];lia)]at hi;cases hi
 ord:=by
  have w:=g.wide;have o:=g.ord;clear g
  induction ls with
  |nil=>exact List.Pairwise.nil
  |cons l r ih=>
   have e:S1.longer (l::r) c=((fK c).map λ(v:Nat)=>l++[(v:Int)])++S1.longer r c:=(by simp[S1.longer,iW]);obtain⟨o1,o2⟩:=List.pairwise_cons.mp o;rw[e,List.pairwise_append];refine⟨?_,ih (λm hm=>w m (cY _ hm)) o2,?_⟩
   ·rw[List.pairwise_map];exact List.Pairwise.imp (R:=λ(a b:Nat)=>a < b) (λ{a b} h=>Dc l (a:Int) (b:Int) (by lia)) List.pairwise_lt_range
   ·intro a ha b hb;obtain⟨v,hv,rfl⟩:=eE.mp ha;obtain⟨m,hm,u,hu,rfl⟩:=o8 hb;exact Fv l m _ _ (by rw[w l eG,w m (cY _ hm)]) (o1 m hm)
theorem Good.start:Good [] [[]] where
 wide:=λl hl=>by rw[cE.mp hl];rfl
 rng:=λl hl i v hi=>by rw[cE.mp hl]at hi;cases i<;>cases hi
 ord:=List.pairwise_singleton _ _
theorem Good.all:∀(r cs:List Nat) {ls:List (List Int)},Good cs ls->Good (cs++r) (j3 ls r)
 | [],cs,ls,g=>by rw[iM];exact g
 |c::r,cs,ls,g=>by
  have q:=Good.all r (cs++[c]) (g.longer c);rw[lU]at q;exact q
def letters (cs:List Nat):List (List Int):=j3 [[]] cs
theorem jn (cs:List Nat):Good cs (letters cs):=Good.all cs [] Good.start
theorem jr (cs:List Nat):(letters cs).length=mul cs:=w8 cs [[]]
theorem qk (cs:List Nat)(c:Nat):letters (cs++[c])=longer (letters cs) c:=by
 simp[letters,j3,List.foldl_append]
theorem Dd:∀(cs:List Nat)(k:Nat),(∀c∈cs,c<=6)->cs.foldl (· * ·) k<=k * 6 ^ cs.length
 | [],k,_=>by simp
 |c::r,k,h=>by
  have q:=Dd r (k * c) λd hd=>h d (cY _ hd);have hc:=h c eG;show r.foldl (· * ·) (k * c)<=k * 6 ^ (r.length+1);refine bK q ?_;rw[uV,Nat.mul_assoc,wW (6 ^ r.length) 6];exact Nat.mul_le_mul_left _ (sI _ hc)
theorem De (cs:List Nat)(h:∀c∈cs,c<=6):mul cs<=6 ^ cs.length:=by
 have q:=Dd cs 1 h
 rwa [Nat.one_mul]at q
end S1
namespace S25
open PySem L2
def top (i:Nat):Stmt:=PySem.Challenge.pw_switchsay_k25_refused.main.body.getD i (.Pass ⟨0,0,0,0⟩)
abbrev sNF:Stmt:=ig (top 2) 0
abbrev sNV:Stmt:=ig (top 3) 0
abbrev sNT:Stmt:=ig (top 4) 0
abbrev sNP:Stmt:=ig (top 5) 0
abbrev sTG:Stmt:=ig (top 6) 0
abbrev Df:Stmt:=top 11
abbrev Ib:Stmt:=top 12
abbrev Dg:Stmt:=top 26
abbrev Ic:Stmt:=top 27
abbrev Id:Stmt:=top 28
abbrev Dh:Stmt:=top 29
abbrev N5:Stmt:=top 30
abbrev N6:Stmt:=top 31
abbrev Di:Stmt:=top 32
abbrev Ar:Stmt:=top 33
abbrev Ie:Stmt:=top 60
abbrev Dj:Stmt:=top 61
abbrev Ig:Stmt:=top 62
abbrev As:Stmt:=top 63
abbrev Ce:Stmt:=top 64
abbrev Ih:Stmt:=top 65
abbrev Dk:Stmt:=top 66
abbrev Au:Stmt:=top 67
abbrev Av:Stmt:=top 68
abbrev Ii:Stmt:=top 69
abbrev Dl:Stmt:=top 70
abbrev N7:Stmt:=top 71
abbrev Aw:Stmt:=top 72
abbrev nq:Stmt:=top 73
abbrev ql:Stmt:=top 74
abbrev Dm:Stmt:=top 9
abbrev wj:Stmt:=top 10
abbrev sNo:Stmt:=top 14
abbrev Ij:Stmt:=top 15
abbrev Ik:Stmt:=top 16
abbrev Il:Stmt:=top 17
abbrev Dn:Stmt:=top 18
abbrev yp:Stmt:=top 19
abbrev Do:Stmt:=top 20
abbrev yq:Stmt:=top 21
abbrev Dp:Stmt:=ig (top 35) 0
abbrev Dq:Stmt:=ig (top 35) 1
abbrev Im:Stmt:=ig (top 35) 2
abbrev Cf:Stmt:=ig (top 35) 3
abbrev Dr:Stmt:=ig (top 35) 4
abbrev yr:Stmt:=ig (top 35) 5
abbrev yt:Stmt:=ig (top 35) 6
abbrev Ds:Stmt:=ig (top 36) 0
abbrev Cg:Stmt:=top 37
abbrev Dv:Stmt:=top 38
abbrev Dw:Stmt:=top 39
abbrev Io:Stmt:=top 40
abbrev yu:Stmt:=top 41
abbrev Dx:Stmt:=top 42
abbrev yw:Stmt:=top 43
abbrev yx:Stmt:=top 44
abbrev wn:Stmt:=top 45
abbrev Ip:Stmt:=top 46
abbrev wo:Stmt:=top 47
abbrev wq:Stmt:=top 48
abbrev Ax:Stmt:=top 51
abbrev Iq:Stmt:=top 52
abbrev yy:Stmt:=top 53
abbrev Ch:Stmt:=top 54
abbrev Dy:Stmt:=top 55
abbrev yz:Stmt:=top 56
abbrev Ir:Stmt:=top 57
abbrev Iu:Stmt:=top 58
theorem small {n:Nat}(h:n<=1000):n<=sizeLine:=iE (bg h)
theorem ad {H:Hp}{p:Addr}(h:H p=none)(o:HO):Same H (upd H p o):=λb u q=>by rw[al (am q h)];exact q
theorem Same.put {H G:Hp}{r:Addr}(e:Same H G)(h:H r=none)(o:HO):Same H (upd G r o):=λb u q=>by rw[al (am q h)];exact e b u q
def Keep (r:Addr)(H H':Hp):Prop:=∀b o,b≠r->H b=some o->H' b=some o
theorem Same.keep {H G G':Hp}{r:Addr}(e:Same H G)(h:H r=none)(k:Keep r G G'):Same H G':=λb u q=>k b u (am q h) (e b u q)
theorem ft (a:Int){m:Int}(h:0 < m):0<=a % m/\a % m < m:=⟨Int.emod_nonneg _ (Int.ne_of_gt h),Int.emod_lt_of_pos _ h⟩
theorem Dz {ns:List Int}{v:Int}(h0:0<=v)(h1:v < (ns.length:Int)):∃x∈ns,atI (ns.map V.int) v=some (.int x):=by
 have hk:v.toNat < ns.length:=(by lia);have ek:v=((v.toNat:Nat):Int):=(by lia);have q:atI (ns.map V.int) ((v.toNat:Nat):Int)=some (.int ns[v.toNat]):=bh (by rw[eK,aL hk]<;>rfl);rw[<-ek]at q;exact⟨_,nW hk,q⟩
def Qb (w:Str×Nat):Da:=.tup [.flat (.str w.1),.flat (.int (w.2:Int))]
def gj (ws:List (Str×Nat)):Da:=.tup (ws.map Qb)
structure vf (x:Str):Prop where
 len:x.length<=8
 cps:∀c∈x.cps.toList,97<=c/\c<=122
structure fg (ws:List (Str×Nat)):Prop where
 lo:1<=ws.length
 hi:ws.length<=3
 cnt:∀w∈ws,1<=w.2/\w.2<=6
 word:∀w∈ws,vf w.1
def Ay:Sp:=λvs H Q _=>∃n:Int,vs=[.int n]/\∀(r:Addr)(a b:Int),H r=none->0<=a->0<=b->Q (.ref r) (upd H r (.lst [.int a,.int b]))
def y8:Sp:=λvs H Q _=>∃(r:Addr)(a b m:Int),vs=[.ref r,.int m]/\H r=some (.lst [.int a,.int b])/\0<=a/\0<=b/\0 < m/\m < 1073741824/\
 ∀(v a' b':Int)(H':Hp),0<=v->v < m->0<=a'->0<=b'->H' r=some (.lst [.int a',.int b'])->Keep r H H'->Q (.int v) H'
section
variable {P:aS}{w:bZ}{K:aA}{mg:Str->Option aB}{base:Heap}
theorem Az:ar ["_law_cell_here","_law_number","_law_found","_law_k"] ["_law_cell_here"] (aj Dj):=⟨rfl,rfl,rfl,by decide +kernel,rfl,by decide +kernel,by decide +kernel⟩
theorem N8 {f:Addr}{fd:cC}(F:Fun K "_law_purse" "_law_purse" Dj f fd)(mr:mg "range"=none)(ma:mg "abs"=none):FnOk P w K mg base CX0 1 f fd ["_law_cell_here"] Ay:=by
 refine F.ok Az (λvs H Q E h=>?_) (λcdv A outer s H vs Q E hr h=>?_)
 ·obtain⟨n,rfl,_⟩:=h;rfl
 obtain⟨n,rfl,q⟩:=h;refine⟨_,ah (ax (i:=1) Az.nd rfl (bV rfl) (bc iz (pv 0) ag)) (ah (ax (i:=2) Az.nd rfl (bV rfl) ag) (ah (de eB rfl (ip rfl mr (ac ag af)) (ay (i:=3) Az.nd rfl (bV rfl)) (ah (ax (i:=1) Az.nd rfl (bV rfl) (bc iz (bc iy (bc iy (bc iy (bc sh (pv 1) (pv 1)) (bc sh (bc sh ag (pv 3)) (pv 3))) (pv 3)) ag) ag)) (ai (ax (i:=2) Az.nd rfl (bV rfl) (bc iy (bc sh (pv 2) ag) (bc iz (bc sh (pv 1) (pv 1)) ag)))))) (ah (cj (bi df (bc iz (pv 0) ag) ag (bn _)) (ai (au (av (ac (bc si (bp Nk rfl ma (by kernel_rfl) (ac (pv 0) af)) ag) (ac (pv 2) af))))) bo) (ai (au (av (ac ag (ac (pv 2) af)))))))),?_⟩;have r0:=ft n (m:=2147483647) (by decide);refine⟨_,rfl,_,_,rfl,rfl,(by show(0:Int) < 2147483647;decide),16,rfl,by decide,by decide,kq (n:=16) (λi σ G=>∃(x y:Int)(v:Option V),σ=[some (.int n),some (.int x),some (.int y),v]/\G=H/\0<=x/\x < 2147483647/\0<=y) ⟨_,_,_,rfl,rfl,r0.1,r0.2,by decide⟩ ?_ ?_⟩
 ·intro i σ G hi h_1;obtain⟨x,y,v,rfl,rfl,h1,h2,h3⟩:=h_1;generalize hE1_:db.mk _ _ _ _=E1_;revert hE1_ E1_;refine id ?_;intro E1_ hE1_;refine⟨_,rfl,_,rfl,_,_,rfl,rfl,.inl ⟨by lia,by lia⟩,_,rfl,_,_,rfl,rfl,.inl ⟨by decide,by decide⟩,_,rfl,_,_,rfl,rfl,.inr ⟨by lia,by lia⟩,_,_,rfl,rfl,_,rfl,_,_,rfl,rfl,_,_,rfl,rfl,_,_,rfl,rfl,(by show(0:Int) < 2147483629;decide),?_⟩;have r1:=ft (x * x+48271 * (0+(i:Int)) * (0+(i:Int))+(0+(i:Int))+3) (m:=2147483629) (by decide);have r2:=ft ((x * x+48271 * (0+(i:Int)) * (0+(i:Int))+(0+(i:Int))+3) % 2147483629 * ((x * x+48271 * (0+(i:Int)) * (0+(i:Int))+(0+(i:Int))+3) % 2147483629)) (m:=2147483587) (by decide);refine⟨_,rfl,_,_,rfl,rfl,.inr ⟨by decide,by decide⟩,_,rfl,_,rfl,_,_,rfl,rfl,.inl ⟨Int.lt_of_lt_of_le (by decide) r1.1,uW r1.2 (by decide)⟩,_,_,rfl,rfl,(by show(0:Int) < 2147483587;decide),_,_,rfl,rfl,?_⟩;subst hE1_;refine⟨_,_,_,rfl,rfl,r1.1,uW r1.2 (by decide),?_⟩;exact Int.add_nonneg (Int.mul_nonneg h3 (by decide)) r2.1
 ·intro σ G h_1;obtain⟨x,y,v,rfl,rfl,h1,h2,h3⟩:=h_1;refine⟨_,rfl,_,_,rfl,rfl,(by show(0:Int) < 2;decide),rfl,_,rfl,?_⟩;refine c9 (λ_=>?_) (λ_=>?_)
  ·refine⟨_,rfl,_,rfl,_,_,rfl,rfl,⟨by decide,by decide⟩,_,rfl,sz2,λr hr'=>?_⟩;refine q r _ _ hr' ?_ h3;have z:0<=(if n < 0 then -n else n):=by split<;>lia
   lia
  ·refine⟨_,rfl,sz2,λr hr'=>?_⟩;exact q r _ _ hr' (Int.le_refl 0) h3
theorem N9:ar ["_law_purse_here","_law_many","_law_at","_law_found"] ["_law_purse_here","_law_many"] (aj Ig):=⟨rfl,rfl,rfl,by decide +kernel,rfl,by decide +kernel,by decide +kernel⟩
theorem Rv {f:Addr}{fd:cC}(F:Fun K "_law_take" "_law_take" Ig f fd)(mi:mg "int"=none):FnOk P w K mg base CX0 1 f fd ["_law_purse_here","_law_many"] y8:=by
 refine F.ok N9 (λvs H Q E h=>?_) (λcdv A outer s H vs Q E hr h=>?_)
 ·obtain⟨r,a,b,m,rfl,_⟩:=h;rfl
 obtain⟨r,a,b,m,rfl,hl,ha,hb,m0,m1,q⟩:=h;refine⟨_,ah (ax (i:=2) N9.nd rfl (bV rfl) (ku Kl rfl mi (by kernel_rfl) (ac (fo df (aq aw (pv 0) ag (λ_ _=>rfl)) ag (bn _)) af))) (ah (ax (i:=3) N9.nd rfl (bV rfl) (bc iz (aq aw (pv 0) (pv 2) (λ_ _=>rfl)) (pv 1))) (ah (r8 (bc si (aq aw (pv 0) (pv 2) (λ_ _=>rfl)) (pv 1)) (Cw (pv 0) (pv 2) C1)) (ai (au (pv 3))))),?_⟩;dsimp only[bf,Cx.nox];refine⟨_,rfl,r,_,_,_,rfl,rfl,SqL.of hl,rfl,rfl,.inr ⟨_,rfl,?_⟩⟩;have kp:∀o,Keep r H (upd H r o):=λo c u hc e=>(by rw[al hc];exact e);generalize hk:decide (V.int a=V.int 0)=k;cases k with
 |true=>
  refine⟨_,rfl,_,rfl,r,_,_,_,rfl,rfl,SqL.of hl,rfl,_,rfl,_,_,rfl,rfl,m0,?_⟩;refine⟨_,rfl,_,rfl,r,_,_,_,rfl,rfl,SqL.of hl,rfl,_,rfl,_,_,rfl,rfl,⟨m0,m1⟩,_,rfl,_,rfl,r,_,_,_,rfl,rfl,hl,rfl,_,rfl,?_⟩;have r1:=ft b m0;exact q (b % m) a (b / m) _ r1.1 r1.2 ha (Int.ediv_nonneg hb (Int.le_of_lt m0)) ae (kp _)
 |false=>
  refine⟨_,rfl,_,rfl,r,_,_,_,rfl,rfl,SqL.of hl,rfl,_,rfl,_,_,rfl,rfl,m0,?_⟩;refine⟨_,rfl,_,rfl,r,_,_,_,rfl,rfl,SqL.of hl,rfl,_,rfl,_,_,rfl,rfl,⟨m0,m1⟩,_,rfl,_,rfl,r,_,_,_,rfl,rfl,hl,rfl,_,rfl,?_⟩;have r1:=ft a m0;exact q (a % m) (a / m) b _ r1.1 r1.2 (Int.ediv_nonneg ha (Int.le_of_lt m0)) hb ae (kp _)
end
end S25
namespace S25
open PySem L2
section
variable {P:aS}{w:bZ}{K:aA}{mg:Str->Option aB}{base:Heap}
theorem qo:ar ["_law_cell_here","_law_least","_law_purse_here","_law_first","_law_letters_here","_law_left","_law_many","_law_tail","_law_speech_here","_law_k","_law_count"] ["_law_cell_here","_law_least"] (aj As):=
 ⟨rfl,rfl,rfl,by decide +kernel,rfl,by decide +kernel,by decide +kernel⟩
def abc:Str:="abcdefghijklmnopqrstuvwxyz"
theorem Rw:abc.cps.toList.length=26:=by decide +kernel
theorem Rx:∀c∈abc.cps.toList,97<=c/\c<=122:=by decide +kernel
theorem Uv {v:Int}(h0:0<=v)(h1:v < 26):∃c,atI abc.cps.toList v=some c/\97<=c/\c<=122:=by
 have hk:v.toNat < abc.cps.toList.length:=(by rw[Rw];lia);have ek:v=((v.toNat:Nat):Int):=(by lia);have q:atI abc.cps.toList ((v.toNat:Nat):Int)=some abc.cps.toList[v.toNat]:=bh (aL hk);rw[<-ek]at q;exact⟨_,q,Rx _ (nW hk)⟩
theorem Oa {v:Int}(h0:0<=v)(h1:v < 8):∀c∈(vI ("abcdefg":Str) none (some v)).cps.toList,97<=c/\c<=122:=by
 have z:v=0\/v=1\/v=2\/v=3\/v=4\/v=5\/v=6\/v=7:=(by lia);rcases z with z | z | z | z | z | z | z | z<;>subst z<;>decide +kernel
theorem K8 {c:Nat}{x:Str}(hc:97<=c/\c<=122)(hl:x.length<=7)(hx:∀c∈x.cps.toList,97<=c/\c<=122):vf (⟨#[c]⟩++x) where
 len:=by rw[oE];show 1+x.length<=8;lia
 cps:=λd hd=>by
  have e:((⟨#[c]⟩:Str)++x).cps.toList=c::x.cps.toList:=by
   show(#[c]++x.cps).toList=_;simp
  rw[e]at hd;rcases cD.mp hd with q | q
  ·rw[q];exact hc
  ·exact hx d q
def K9 (K:aA):Sp:=λvs H Q _=>∃(a:Addr)(k:Int) (ns:List Int),vs=[.ref a,.int k]/\SqL K H a (ns.map V.int)/\0<=k/\∀x:Int,Q (.int x) H
theorem scCe:ar ["_law_script","_law_k"] ["_law_script","_law_k"] (aj Ie):=⟨rfl,rfl,rfl,by decide +kernel,rfl,by decide +kernel,by decide +kernel⟩
theorem Ry {f:Addr}{fd:cC}(F:Fun K "_law_cell" "_law_cell" Ie f fd)(ml:mg "len"=none):FnOk P w K mg base CX0 1 f fd ["_law_script","_law_k"] (K9 K):=by
 refine F.ok scCe (λvs H Q E h=>?_) (λcdv A outer s H vs Q E hr h=>?_)
 ·obtain⟨a,k,ns,rfl,_⟩:=h;rfl
 obtain⟨a,k,ns,rfl,hS,k0,q⟩:=h;refine⟨_,ah (cj (bi yd (pv 1) (bp br rfl ml eX (ac (pv 0) af)) (bn _)) (ai (au (aq aw (pv 0) (pv 1) (λ_ _=>rfl)))) bo) (ai (au ag)),?_⟩;dsimp only[bf,Cx.nox];refine⟨_,rfl,_,rfl,a,_,rfl,.inl hS,_,_,rfl,rfl,_,rfl,?_⟩;refine c9 (λc=>?_) (λ_=>?_)
 ·have c':k < (((ns.map V.int).length:Nat):Int):=of_decide_eq_true c;rw[aG]at c';obtain⟨x,_,e⟩:=Dz (ns:=ns) k0 c';exact⟨_,rfl,_,rfl,a,_,_,_,rfl,rfl,hS,e,q x⟩
 ·exact q 0
end
end S25
namespace L2
open PySem PySem.Spec PyProof.Rows Fly
section
variable {P:aS}{w:bZ}{K:aA}{mg:Str->Option aB}{base:Heap}
theorem Fun.okX {x qual:Str}{st:Stmt}{f:Addr}{fd:cC}{N ps:List Str}{k:Nat}{sp:Sp}(F:Fun K x qual st f fd)(S:ar N ps (aj st))(len:∀vs H Q E,sp vs H Q E->vs.length=ps.length)
  (hbody:∀(cdv:aB)(A:cW) (outer:List Env) (s:aI) (H:Hp) (vs:List V) (Q:VK) (E:XK),Room k (A.deeper (qY qual (aj st) s.heap.objs.size f cdv))->sp vs H Q E->∃t,PSs (bf (CXx P w) P w K mg base N qual (aj st) f cdv A outer s H E) (dj st) t/\t { nx:=λ_ H'=>Q .non H',rt:=Q } (start N vs) H):FnOk P w K mg base (CXx P w) (k+1) f fd ps sp:=by
 obtain⟨oc,od,kV,doc,pm,an,cdv,ct,osl,rfl,lk,hcd⟩:=F.ex;exact P7 lk hcd S len λA outer s H vs Q E hr hsp=>hbody cdv A outer s H vs Q E hr hsp
theorem qv {H:Hp}{e dx:Addr}{o1 o2 o3:HO}(he:H e=none)(hd:upd H e o1 dx=none)(ne:dx≠e):Same H (del (upd (upd (upd H e o1) dx o2) e o3) e)/\del (upd (upd (upd H e o1) dx o2) e o3) e dx=some o2/\H dx=none:=by
 have hd0:H dx=none:=(by rw[al ne]at hd;exact hd);refine⟨λb o z=>?_,?_,hd0⟩
 ·have h1:b≠e:=am z he;have h2:b≠dx:=am z hd0;rw[jk h1,al h1,al h2,al h1];exact z
 ·rw[jk ne,al ne,ae]
end
end L2
namespace S25
open PySem L2 Fly
structure Sw (K:aA)(mg:Str->Option aB)(SW:Addr):Prop where
 mg:mg "SwitchError"=some (.ref SW)
 ga:oQ K (.ref SW) "__getattribute__"=some (some (.builtin "type.__getattribute__"))
 rd:pV K SW (.type "type")=true
 fc:pW K (.ref SW) (.type "type") "__init__"=some (.val (.builtin "ValueError.__init__"))
def mo (K:aA)(C:Addr)(f:Str)(ok:V->Prop):Sp:=λvs H Q _=>∃(e:Addr)(y:V),vs=[.ref e,y]/\ik K C/\NoAttr K C f/\ok y/\H e=some (fb e C none)/\
 ∀dx,H dx=none->dx≠e->Q .non (upd (upd H dx (.xd [(f,y)])) e (fb e C (some dx)))
def Fw (K:aA)(C:Addr):Sp:=λvs H Q _=>∃(e:Addr)(y z:V),vs=[.ref e,y,z]/\ik K C/\NoAttr K C "number"/\NoAttr K C "most"/\ou y/\ou z/\H e=some (fb e C none)/\
 ∀dx,H dx=none->dx≠e->Q .non (upd (upd (upd H dx (.xd [("number",y)])) e (fb e C (some dx))) dx (.xd [("number",y),("most",z)]))
section
variable {P:aS}{w:bZ}{K:aA}{mg:Str->Option aB}{base:Heap}{SW C:Addr}
theorem scNF:ar ["self","field"] ["self","field"] (aj sNF):=⟨rfl,rfl,rfl,by decide +kernel,rfl,by decide +kernel,by decide +kernel⟩
theorem Wv {f:Addr}{fd:cC}(F:Fun K "__init__" "NoField.__init__" sNF f fd)(W:Sw K mg SW):FnOk P w K mg base CX0 1 f fd ["self","field"] (mo K C "field" ou):=by
 refine F.ok scNF (λvs H Q E h=>?_) (λcdv A outer s H vs Q E hr h=>?_)
 ·obtain⟨e,y,rfl,_⟩:=h;rfl
 obtain⟨e,y,rfl,c,n,ok,he,q⟩:=h;refine⟨_,ah (bx (qh rfl W.mg W.ga W.rd W.fc (ac (pv 0) (ac (Aq (yo (by decide +kernel) (wg (pv 1) C9)) (by decide)) af)))) (ai (px (pv 0) (pv 1) rfl)),?_⟩;dsimp only[bf,Cx.nox];refine⟨_,rfl,_,rfl,ok,λz=>⟨e,C,none,.str z,rfl,he,c,?_⟩⟩;exact⟨_,rfl,_,rfl,e,C,rfl,c,n,.inl ⟨he,q⟩⟩
theorem scNV:ar ["self","value"] ["self","value"] (aj sNV):=⟨rfl,rfl,rfl,by decide +kernel,rfl,by decide +kernel,by decide +kernel⟩
theorem Ww {f:Addr}{fd:cC}(F:Fun K "__init__" "NoValue.__init__" sNV f fd)(W:Sw K mg SW):FnOk P w K mg base CX0 1 f fd ["self","value"] (mo K C "value" ou):=by
 refine F.ok scNV (λvs H Q E h=>?_) (λcdv A outer s H vs Q E hr h=>?_)
 ·obtain⟨e,y,rfl,_⟩:=h;rfl
 obtain⟨e,y,rfl,c,n,ok,he,q⟩:=h;refine⟨_,ah (bx (qh rfl W.mg W.ga W.rd W.fc (ac (pv 0) (ac (Aq (yo (by decide +kernel) (wg (pv 1) (yo (by decide +kernel) C9))) (by decide)) af)))) (ai (px (pv 0) (pv 1) rfl)),?_⟩;dsimp only[bf,Cx.nox];refine⟨_,rfl,_,rfl,ok,λz=>⟨e,C,none,.str z,rfl,he,c,?_⟩⟩;exact⟨_,rfl,_,rfl,e,C,rfl,c,n,.inl ⟨he,q⟩⟩
theorem scNT:ar ["self","saying"] ["self","saying"] (aj sNT):=⟨rfl,rfl,rfl,by decide +kernel,rfl,by decide +kernel,by decide +kernel⟩
theorem Wx {f:Addr}{fd:cC}(F:Fun K "__init__" "NoTest.__init__" sNT f fd)(W:Sw K mg SW):FnOk P w K mg base CX0 1 f fd ["self","saying"] (mo K C "saying" λ_=>True):=by
 refine F.ok scNT (λvs H Q E h=>?_) (λcdv A outer s H vs Q E hr h=>?_)
 ·obtain⟨e,y,rfl,_⟩:=h;rfl
 obtain⟨e,y,rfl,c,n,ok,he,q⟩:=h;refine⟨_,ah (bx (qh rfl W.mg W.ga W.rd W.fc (ac (pv 0) (ac be af)))) (ai (px (pv 0) (pv 1) rfl)),?_⟩;dsimp only[bf,Cx.nox];refine⟨_,rfl,e,C,none,_,rfl,he,c,?_⟩;exact⟨_,rfl,_,rfl,e,C,rfl,c,n,.inl ⟨he,q⟩⟩
theorem scNP:ar ["self","saying"] ["self","saying"] (aj sNP):=⟨rfl,rfl,rfl,by decide +kernel,rfl,by decide +kernel,by decide +kernel⟩
theorem Wy {f:Addr}{fd:cC}(F:Fun K "__init__" "NoPlain.__init__" sNP f fd)(W:Sw K mg SW):FnOk P w K mg base CX0 1 f fd ["self","saying"] (mo K C "saying" λ_=>True):=by
 refine F.ok scNP (λvs H Q E h=>?_) (λcdv A outer s H vs Q E hr h=>?_)
 ·obtain⟨e,y,rfl,_⟩:=h;rfl
 obtain⟨e,y,rfl,c,n,ok,he,q⟩:=h;refine⟨_,ah (bx (qh rfl W.mg W.ga W.rd W.fc (ac (pv 0) (ac be af)))) (ai (px (pv 0) (pv 1) rfl)),?_⟩;dsimp only[bf,Cx.nox];refine⟨_,rfl,e,C,none,_,rfl,he,c,?_⟩;exact⟨_,rfl,_,rfl,e,C,rfl,c,n,.inl ⟨he,q⟩⟩
theorem scTG:ar ["self","number","most"] ["self","number","most"] (aj sTG):=⟨rfl,rfl,rfl,by decide +kernel,rfl,by decide +kernel,by decide +kernel⟩
theorem Wz {f:Addr}{fd:cC}(F:Fun K "__init__" "TooGreat.__init__" sTG f fd)(W:Sw K mg SW):FnOk P w K mg base CX0 1 f fd ["self","number","most"] (Fw K C):=by
 refine F.ok scTG (λvs H Q E h=>?_) (λcdv A outer s H vs Q E hr h=>?_)
 ·obtain⟨e,y,z,rfl,_⟩:=h;rfl
 obtain⟨e,y,z,rfl,c,n1,n2,ok1,ok2,he,q⟩:=h;refine⟨_,ah (bx (qh rfl W.mg W.ga W.rd W.fc (ac (pv 0) (ac (Aq (wg (pv 1) (yo (by decide +kernel) (wg (pv 2) C9))) (by decide)) af)))) (ah (px (pv 0) (pv 1) rfl) (ai (px (pv 0) (pv 2) rfl))),?_⟩;dsimp only[bf,Cx.nox];refine⟨_,rfl,_,rfl,ok1,_,rfl,ok2,λt=>⟨e,C,none,.str t,rfl,he,c,?_⟩⟩;refine⟨_,rfl,_,rfl,e,C,rfl,c,n1,.inl ⟨he,λdx h1 h2=>?_⟩⟩;refine⟨_,rfl,_,rfl,e,C,rfl,c,n2,.inr ⟨dx,[("number",y)],ae,(by rw[al h2,ae]),(by show 1 < 1000;decide),?_⟩⟩;have z1:iq "most" z [("number",y)]=([("number",y),("most",z)]:List (Str×V)):=by
  show(if ("number":Str)="most" then [(("number":Str),z)]else ("number",y)::iq "most" z [])=_
  rw[if_neg (by decide +kernel)];rfl
 rw[z1];exact q dx h1 h2
def La (cV:Addr):Sp:=λvs H Q E=>∃(c v:Int),vs=[.int c,.int v]/\v.natAbs.log2 < 1000/\(0<=v/\v < c->Q .non H)/\(¬(0<=v/\v < c)->∀dx H',Same H H'->H' dx=some (.xd [("value",.int v)])->E (.ref cV) (some dx) H')
theorem scMu:ar ["count","value"] ["count","value"] (aj Ib):=⟨rfl,rfl,rfl,by decide +kernel,rfl,by decide +kernel,by decide +kernel⟩
theorem Rz {f fI cV:Addr}{fd fdI:cC}(F:Fun K "must_value" "must_value" Ib f fd)(c:ik K cV)(n:NoAttr K cV "value")(hi:aW K (.ref cV) "__init__"=some (some (.ref fI)))(lf:∃oI,K.lookup fI=some oI/\oI.cls=.type "function")
  (GI:FnOk P w K mg base CX0 1 fI fdI ["self","value"] (mo K cV "value" ou)) (bI:Binds K fdI ["self","value"] []) (mV:mg "NoValue"=some (.ref cV)):FnOk P w K mg base (CXx P w) 3 f fd ["count","value"] (La cV):=by
 refine F.okX scMu (λvs H Q E h=>?_) (λcdv A outer s H vs Q E hr h=>?_)
 ·obtain⟨a,v,rfl,_⟩:=h;rfl
 obtain⟨a,v,rfl,lv,q1,q2⟩:=h;refine⟨_,ai (cj (PW.pt (Hc (bi yd (pv 1) ag (bn _)) (Cu (bi Wf (pv 1) (pv 0) (bn _))))) (ai (qj c (qi c hi lf GI hr rfl mV bI (ac (pv 1) af)))) bo),?_⟩;dsimp only[bf,Cx.nox];have bad:¬(0<=v/\v < a)->∃x,[some (V.int a),some (V.int v)][1]?=some (some x)/\([x].length<=100/\∀e,H e=none->mo K cV "value" ou (.ref e::[x]) (upd H e (fb e cV none)) (λu H2=>u=.non/\∃e' dx,V.ref e=.ref e'/\H2 e'=some (fb e' cV dx)/\H e'=none/\E (.ref cV) dx (del H2 e')) E0):=λnb=>by
  refine⟨_,rfl,(by show 1<=100;decide),λe he=>⟨e,.int v,rfl,c,n,lv,ae,λdx hd ne=>⟨rfl,e,some dx,rfl,ae,he,?_⟩⟩⟩;obtain⟨z1,z2,_⟩:=qv (o2:=.xd [("value",.int v)]) (o3:=fb e cV (some dx)) he hd ne;exact q2 nb dx _ z1 z2
 refine⟨_,rfl,_,_,rfl,rfl,_,rfl,?_⟩;refine c9 (λh1=>?_) (λh1=>?_)
 ·exact gw (bad λz=>by have:=of_decide_eq_true h1;lia)
 ·refine⟨_,rfl,_,rfl,_,_,rfl,rfl,_,rfl,?_⟩;refine c9 (λh2=>?_) (λh2=>?_)
  ·exact bad λz=>by have:=of_decide_eq_true h2;lia
  ·have n1:¬v < 0:=λz=>h1 (decide_eq_true z);have n2:¬a<=v:=λz=>h2 (decide_eq_true z);exact q1 ⟨by lia,by lia⟩
end
end S25
namespace S25
open PySem L2 Fly PyProof.Rows
def look:List (Str×Nat)->Str->Option (Nat×Nat)
 | [],_=>none
 |w::r,x=>if w.1=x then some (0,w.2)else (look r x).map λp=>(p.1+1,p.2)
theorem R1 {ws:List (Str×Nat)}{x:Str}{i:Nat}{w:Str×Nat}(hw:ws[i]?=some w)(h:look ws x=(look (ws.drop i) x).map λp=>(p.1+i,p.2)) :
  (w.1=x->look ws x=some (i,w.2))/\(w.1≠x->look ws x=(look (ws.drop (i+1)) x).map λp=>(p.1+(i+1),p.2)):=by
 have hi:i < ws.length:=(aK.mp hw).1;have e:ws.drop i=w::ws.drop (i+1):=by
  rw[lN hi];have z:=(aK.mp hw).2;rw[z]
 rw[e]at h;refine⟨λq=>?_,λq=>?_⟩
 ·rw[h];show((if w.1=x then some (0,w.2)else _):Option (Nat×Nat)).map _=_
  rw[if_pos q];show some (0+i,w.2)=_;rw[Nat.zero_add]
 ·rw[h];show((if w.1=x then some (0,w.2)else (look (ws.drop (i+1)) x).map λp=>(p.1+1,p.2)):Option (Nat×Nat)).map _=_
  rw[if_neg q,Option.map_map];congr 1
  funext p
  show(p.1+1+i,p.2)=(p.1+(i+1),p.2);rw[rC,iY 1 i]
theorem Fx:∀{ws:List (Str×Nat)}{x:Str}{i c:Nat},look ws x=some (i,c)->∃w,ws[i]?=some w/\w.1=x/\w.2=c
 | [],_,_,_,h=>by cases h
 |w::r,x,i,c,h=>by
  have h':(if w.1=x then some (0,w.2)else (look r x).map λp=>(p.1+1,p.2))=some (i,c):=h
  by_cases q:w.1=x
  ·rw[if_pos q]at h';cases h';exact⟨w,rfl,q,rfl⟩
  ·rw[if_neg q]at h';obtain⟨⟨j,d⟩,e1,e2⟩:=gJ.mp h';cases e2;obtain⟨w',z1,z2⟩:=Fx e1;exact⟨w',by rw[List.getElem?_cons_succ];exact z1,z2⟩
structure Uw (ws:List (Str×Nat))(x:Str)(v:Int)(cF cV:Addr)(H:Hp)(E:XK)(good:Nat->Prop):Prop where
 no:look ws x=none->∀dx H',Same H H'->H' dx=some (.xd [("field",.str x)])->E (.ref cF) (some dx) H'
 bad:∀i c,look ws x=some (i,c)->¬(0<=v/\v < (c:Int))->∀dx H',Same H H'->H' dx=some (.xd [("value",.int v)])->E (.ref cV) (some dx) H'
 ok:∀i c,look ws x=some (i,c)->0<=v/\v < (c:Int)->good i
def A0 (K:aA)(cF cV:Addr):Sp:=λvs H Q E=>∃(sp:Addr)(ws:List (Str×Nat)) (x:Str) (v:Int),vs=[.ref sp,.str x,.int v]/\Hold K H (.ref sp) (gj ws)/\v.natAbs.log2 < 1000/\(qH x).length<=2000/\
 Uw ws x v cF cV H E λi=>∀H',Same H H'->Q (.int (i:Int)) H'
section
variable {P:aS}{w:bZ}{K:aA}{mg:Str->Option aB}{base:Heap}{cF cV:Addr}
theorem Ob:ar ["speech","field","value","place","pair"] ["speech","field","value"] (aj Df):=⟨rfl,rfl,rfl,by decide +kernel,rfl,by decide +kernel,by decide +kernel⟩
theorem Oc {f fM fI:Addr}{fd fdM fdI:cC}(F:Fun K "place_of" "place_of" Df f fd)(c:ik K cF)(n:NoAttr K cF "field")(hi:aW K (.ref cF) "__init__"=some (some (.ref fI)))(lf:∃oI,K.lookup fI=some oI/\oI.cls=.type "function")
  (GI:FnOk P w K mg base CX0 1 fI fdI ["self","field"] (mo K cF "field" ou)) (bI:Binds K fdI ["self","field"] []) (mF:mg "NoField"=some (.ref cF))
  (GM:FnOk P w K mg base (CXx P w) 3 fM fdM ["count","value"] (La cV)) (bM:Binds K fdM ["count","value"] []) (kM:aU K (.ref fM)=true) (mM:mg "must_value"=some (.ref fM)) (me:mg "enumerate"=none) :
  FnOk P w K mg base (CXx P w) 4 f fd ["speech","field","value"] (A0 K cF cV):=by
 refine F.okX Ob (λvs H Q E h=>?_) (λcdv A outer s H vs Q E hr h=>?_)
 ·obtain⟨sp,ws,x,v,rfl,_⟩:=h;rfl
 obtain⟨sp,ws,x,v,rfl,hS,lv,lx,o⟩:=h;refine⟨_,ah (de uC rfl (Rt rfl me (ac (pv 0) af)) (jz rfl (cn (ay (i:=3) Ob.nd rfl (bV rfl)) (cn (ay (i:=4) Ob.nd rfl (bV rfl)) im))) (ai (cj (bi df (aq cf (pv 4) ag (λ_ _=>rfl)) (pv 1) (bn _)) (ah (bx (ao GM hr rfl mM kM bM .nil jq (ac (aq cf (pv 4) ag (λ_ _=>rfl)) (ac (pv 2) af)))) (ai (au (pv 3)))) bo))) (ai (qj c (qi c hi lf GI (hr.mono (by decide)) rfl mF bI (ac (pv 1) af)))),?_⟩;dsimp only[bf,Cx.nox];obtain⟨a,ys,ea,ha,hys⟩:=Hold.tupI hS;cases ea;have ll:ys.length=ws.length:=(by rw[hys.length,aG]);refine⟨_,rfl,sp,ys,rfl,ha,N4 (xs:=ys) (λi σ G=>∃v3 v4:Option V,σ=[some (.ref sp),some (.str x),some (.int v),v3,v4]/\Same H G/\look ws x=(look (ws.drop i) x).map λp=>(p.1+i,p.2)) ⟨_,_,rfl,λ_ _ z=>z,by simp⟩ (λi σ G _ h0_=>by obtain⟨_,_,_,sG,_⟩:=h0_;exact ha.same sG) ?_ ?_⟩
 ·intro i y p σ G hy h_1 hp;obtain⟨v3,v4,rfl,sG,lk⟩:=h_1;generalize hE1_:db.mk _ _ _ _=E1_;revert hE1_ E1_;refine id ?_;intro E1_ hE1_;obtain⟨w',ew,hw⟩:=hys.getm hy;obtain⟨b2,ys2,rfl,hb2,hys2⟩:=Hold.tupI hw;cases hys2 with
  |cons h1 r1=>
   cases r1 with
   |cons h2 r2=>
    cases r2;cases h1.flatI;cases h2.flatI;have sP:Same H (upd G p (.tup [.int (i:Int),.ref b2])):=Same.trans sG (ad hp _);have hb3:SqT K (upd G p (.tup [.int (i:Int),.ref b2])) b2 [.str w'.1,.int (w'.2:Int)]:=hb2.same sP;obtain⟨l1,l2⟩:=R1 ew lk;refine⟨p,_,rfl,SqT.of ae,rfl,_,_,rfl,_,_,rfl,rfl,?_⟩;refine⟨_,rfl,b2,_,_,_,rfl,rfl,hb3,rfl,_,rfl,rfl,_,rfl,?_⟩;refine c9 (λe=>?_) (λe=>?_)
    ·have e':w'.1=x:=(by have z:=of_decide_eq_true e;cases z;rfl);have lo:=l1 e';refine⟨_,rfl,b2,_,_,_,rfl,rfl,hb3,rfl,_,rfl,(w'.2:Int),v,rfl,lv,λg=>?_,λg dx H' s' hx=>?_⟩
     ·subst hE1_;exact⟨_,rfl,o.ok i w'.2 lo g _ sP⟩
     ·exact o.bad i w'.2 lo g dx H' (Same.trans sP s') hx
    ·have e':w'.1≠x:=λz=>(by rw[z]at e;simp at e);subst hE1_;exact⟨_,_,rfl,sP,l2 e'⟩
 ·intro σ G h_1;obtain⟨v3,v4,rfl,sG,lk⟩:=h_1;rw[ll,rF]at lk;refine⟨_,rfl,(by show 1<=100;decide),λe he=>⟨e,.str x,rfl,c,n,lx,ae,λdx hd ne=>⟨rfl,e,some dx,rfl,ae,Same.free sG he,?_⟩⟩⟩;obtain⟨z1,z2,_⟩:=qv (o2:=.xd [("field",.str x)]) (o3:=fb e cF (some dx)) he hd ne;exact o.no lk dx _ (Same.trans sG z1) z2
theorem Od {σ:L2.St}{G:Hp}{Q:VK}{a:Addr}{l:List Int}{i jl ji jv:Nat}{v:Int}(h1:σ[jl]?=some (some (.ref a)))(h2:σ[ji]?=some (some (.int (i:Int))))(h3:σ[jv]?=some (some (.int v)))(ha:SqT K G a (l.map V.int))(hi:i < l.length)(hl:l.length<=100)
  (q:∀p G',Same G G'->G' p=some (.tup ((l.take i++v::l.drop (i+1)).map V.int))->Q (.ref p) G') :
  tOp (λx y H Q=>mf K x y H Q\/jj K x y H Q) (tOp (λx y H Q=>mf K x y H Q\/jj K x y H Q) (tSl (Ai K) (tm jl) we (Cd (tm ji))) (Uk (yh (tm jv) No)))
   (tSl (Ai K) (tm jl) (Cd (tOp (rI0 λi j=>.int (i+j)) (tm ji) (tC (.int 1)))) we) σ G Q:=by
 have s0:HT.sIx (l.map V.int).length 0 none=0:=rfl;have s1:HT.sIx (l.map V.int).length (l.map V.int).length (some (i:Int))=i:=(by rw[HT.sIx_nat,aG];lia);have s2:HT.sIx (l.map V.int).length 0 (some ((i:Int)+1))=i+1:=by
  have z:=HT.sIx_nat (l.map V.int).length 0 (i+1);rw[aG]at z ⊢;rw[show((i:Int)+1)=((i+1:Nat):Int)from by lia,z];lia
 have s3:HT.sIx (l.map V.int).length (l.map V.int).length none=l.length:=(by rw[HT.sIx_none,aG]);have c1:fq (l.map V.int) none (some (i:Int))=(l.take i).map V.int:=by
  unfold fq;rw[s0,s1];simp
 have c2:fq (l.map V.int) (some ((i:Int)+1)) none=(l.drop (i+1)).map V.int:=by
  unfold fq;rw[s2,s3,oO (by rw[iH,aG];lia),List.map_drop]
 have fin:∀p G',Same G G'->G' p=some (.tup ((l.take i++[v]).map V.int))->
   tSl (Ai K) (tm jl) (Cd (tOp (rI0 λi j=>.int (i+j)) (tm ji) (tC (.int 1)))) we σ G' λy H2=>mf K (.ref p) y H2 Q\/jj K (.ref p) y H2 Q:=by
  intro p G' sG hp;have ha':=ha.same sG;refine⟨_,h1,_,h2,_,_,rfl,rfl,_,rfl,a,_,rfl,ha',?_,λp2 f2=>?_⟩
  ·rw[s2];lia
  ·rw[c2];have pp:p≠p2:=am hp f2;have hp2:upd G' p2 (.tup ((l.drop (i+1)).map V.int)) p=some (.tup ((l.take i++[v]).map V.int)):=(by rw[al pp];exact hp);have s2':Same G (upd G' p2 (.tup ((l.drop (i+1)).map V.int))):=Same.trans sG (ad f2 _);refine .inl ⟨p,p2,_,_,rfl,rfl,SqT.of hp2,SqT.of ae,by simp,small (by simp;lia),λe=>?_,λ_ p3 f3=>?_⟩
   ·have e':l.drop (i+1)=[]:=(by simpa using e);refine q p _ s2' ?_;rw[hp2,e']
   ·refine q p3 _ (Same.trans s2' (ad f3 _)) ?_;rw[ae];simp
 refine⟨_,h1,_,h2,_,rfl,a,_,rfl,ha,?_,λp1 f1=>?_⟩
 ·rw[s1,aG];lia
 rw[c1];refine⟨_,h3,sz1,λp2 f2=>?_⟩;have p12:p1≠p2:=λe=>(by rw[e,ae]at f2;cases f2);have hp1:upd (upd G p1 (.tup ((l.take i).map V.int))) p2 (.tup [.int v]) p1=some (.tup ((l.take i).map V.int)):=(by rw[al p12,ae]);have s2':Same G (upd (upd G p1 (.tup ((l.take i).map V.int))) p2 (.tup [.int v])):=Same.trans (ad f1 _) (ad f2 _);by_cases i0:l.take i=[]
 ·refine .inr ⟨p1,p2,_,rfl,rfl,SqT.of (by rw[hp1,i0];rfl),SqT.of ae,fin p2 _ s2' ?_⟩;rw[ae,i0];rfl
 ·refine .inl ⟨p1,p2,_,_,rfl,rfl,SqT.of hp1,SqT.of ae,(by simpa using i0),small (by simp;lia),(λe=>by cases e),λ_ p3 f3=>fin p3 _ (Same.trans s2' (ad f3 _)) ?_⟩;rw[ae];simp
end
end S25
namespace L2
open PySem PySem.Spec PyProof.Rows
end L2
namespace S25
open PySem L2 Fly
theorem y9 {x:Str}(hl:x.length<=100)(hc:∀c∈x.cps.toList,c < 1000):(qH x).length<=2000:=by
 have z:=StrLaws.reprText_len x λc h=>iZ (hc c h) (by decide);lia
theorem R8 (x y:Str):(x++y).cps.toList=x.cps.toList++y.cps.toList:=by
 show(x.cps++y.cps).toList=_;simp
theorem Lb {x:Str}(w:vf x):(qH (x++"x")).length<=2000:=by
 refine y9 ?_ λc hc=>?_
 ·rw[oE];have z:("x":Str).length=1:=(by decide +kernel);have:=w.len;lia
 ·rw[R8]at hc;rcases eI.mp hc with q | q
  ·have:=(w.cps c q).2;lia
  ·have:∀d∈("x":Str).cps.toList,d < 1000:=(by decide +kernel);exact this c q
theorem qw {x:Str}(w:vf x):(qH x).length<=2000:=y9 (by have:=w.len;lia) λc hc=>by have:=(w.cps c hc).2;lia
theorem W3 {ns:List Str}{v:Int}(h0:0<=v)(h1:v < (ns.length:Int)):∃x∈ns,atI (ns.map V.str) v=some (.str x):=by
 have hk:v.toNat < ns.length:=(by lia);have ek:v=((v.toNat:Nat):Int):=(by lia);have q:atI (ns.map V.str) ((v.toNat:Nat):Int)=some (.str ns[v.toNat]):=bh (by rw[eK,aL hk]<;>rfl);rw[<-ek]at q;exact⟨_,nW hk,q⟩
theorem vg {i:Int}(h:-1000000000000000000000000000000000000000000000000000000000000<=i/\i<=1000000000000000000000000000000000000000000000000000000000000):i.natAbs.log2 < 1000:=by
 by_cases z:i.natAbs=0
 ·rw[z];decide
 ·have h1:i.natAbs < 2 ^ 500:=jU (show i.natAbs<=1000000000000000000000000000000000000000000000000000000000000 by lia) (by decide);exact iZ ((Nat.log2_lt z).mpr h1) (by decide)
theorem p59:(10:Int) ^ ((59:Int).toNat)=100000000000000000000000000000000000000000000000000000000000:=by decide +kernel
end S25
namespace S25
open PySem L2
def D0 (K:aA):Sp:=λvs H Q _=>∃(x:V)(s:Say),vs=[x]/\Hold K H x s.da/\∀(a:Addr)(xs:List V) (H':Hp),Same H H'->SqT K H' a xs->Holds K H' xs (s.kids.map Say.da)->Q (.ref a) H'
def ss (K:aA):Sp:=λvs H Q _=>∃(x:V)(s:Say),vs=[x]/\Hold K H x s.da/\s.size<=500/\∀(r:Addr)(xs:List V) (H':Hp),Same H H'->H' r=some (.lst xs)->Holds K H' xs (s.parts.map Say.da)->Q (.ref r) H'
def Qc (K:aA):Sp:=λvs H Q _=>∃(x:V)(s:Say),vs=[x]/\Hold K H x s.da/\s.size<=500/\∀H':Hp,Same H H'->Q (.bl s.isT) H'
def Qd (K:aA):Sp:=λvs H Q _=>∃(x:V)(s:Say),vs=[x]/\Hold K H x s.da/\s.size<=500/\∀H':Hp,Same H H'->Q (.int (s.nts:Int)) H'
theorem D1:∀l:List Say,l.length<=(l.map Say.size).sum
 | []=>aO _
 |s::r=>by
  have z:=D1 r;have y:=nn s;rw[dX,fZ,List.sum_cons];lia
theorem d9 {α:Type}(x:α)(xs:List α):atI (x::xs) (0:Int)=some x:=bh (j:=0) rfl
theorem Oe (x:V)(xs:List V):fq (x::xs) (some 1) none=xs:=by
 unfold fq;have e:HT.sIx (x::xs).length 0 (some 1)=1:=by
  rw[show(some (1:Int))=some (((1:Nat):Int))from rfl,HT.sIx_nat,dX];lia
 rw[e,HT.sIx_none];show List.take ((x::xs).length - 1) xs=xs;rw[dX,Nat.add_sub_cancel];exact dZ
section
variable {P:aS}{w:bZ}{K:aA}{mg:Str->Option aB}{base:Heap}
theorem scHe:ar ["saying"] ["saying"] (aj Ic):=⟨rfl,rfl,rfl,by decide +kernel,rfl,by decide +kernel,by decide +kernel⟩
theorem R9 {f aH:Addr}{fd:cC}(F:Fun K "held_in" "held_in" Ic f fd)(mH:mg "HOLDING_SORTS"=some (.ref aH))(tH:∀H:Hp,SqT K H aH HS):FnOk P w K mg base CX0 1 f fd ["saying"] (D0 K):=by
 refine F.ok scHe (λvs H Q E h=>?_) (λcdv A outer s H vs Q E hr h=>?_)
 ·obtain⟨x,s,rfl,_⟩:=h;rfl
 obtain⟨x,sy,rfl,hx,q⟩:=h;refine⟨_,ah (cj (bi lg (aq cf (pv 0) ag (λ_ _=>rfl)) (ie (v:=.ref aH) rfl mH rfl) (by with_unfolding_all rfl)) (ai (au (cq vc (pv 0) (c7 ag) dh))) bo) (ai (au (bq af))),?_⟩
 dsimp only[bf,Cx.nox];obtain⟨a,xs,rfl,ha,hk⟩:=i5 hx;refine⟨_,rfl,a,_,_,_,rfl,rfl,ha,d9 _ _,aH,HS,rfl,.inr (tH _),rfl,by decide +kernel,_,rfl,?_⟩;show if inV (.str sy.sort) HS=true then _ else _
 rw[Wt];refine c9 (λc=>?_) (λc=>?_)
 ·refine⟨_,rfl,_,rfl,a,_,rfl,ha,λz=>?_,λp hp=>?_⟩
  ·have e:HT.sIx (V.str sy.sort::xs).length 0 (some 1)=1:=by
    rw[show(some (1:Int))=some (((1:Nat):Int))from rfl,HT.sIx_nat,dX];lia
   rw[e]at z;exact absurd z.1 (by decide)
  ·rw[Oe];exact q p xs _ (ad hp _) (SqT.of ae) (Holds.mono (ad hp _) (hk c))
 ·refine⟨sz0,λp hp=>?_⟩;refine q p [] _ (ad hp _) (SqT.of ae) ?_;rw[Ru (by simpa using c)];exact .nil
theorem Iv:ar ["saying","parts","waiting","part"] ["saying"] (aj Dg):=⟨rfl,rfl,rfl,by decide +kernel,rfl,by decide +kernel,by decide +kernel⟩
theorem jt {K:aA}{H:Hp}:∀{xs:List V}{ds:List Da}{d:Da},Holds K H xs (ds++[d])->∃ys y,xs=ys++[y]/\Holds K H ys ds/\Hold K H y d
 | [],[],_,h=>by cases h
 | [],_::_,_,h=>by cases h
 |x::xs,[],d,h=>by
  cases h with
  |cons a r=>
   cases r;exact⟨[],x,rfl,.nil,a⟩
 |x::xs,e::ds,d,h=>by
  cases h with
  |cons a r=>
   obtain⟨ys,y,rfl,h1,h2⟩:=jt r;exact⟨x::ys,y,rfl,.cons a h1,h2⟩
theorem Holds.rev {K:aA}{H:Hp}:∀{xs:List V}{ds:List Da},Holds K H xs ds->Holds K H xs.reverse ds.reverse
 | [],_,h=>by cases h;exact .nil
 |_::_,_,h=>by
  cases h with
  |cons a r=>
   rw[lT,lT];exact Holds.append (Holds.rev r) (.one a)
theorem Of {f g:Addr}{fd gd:cC}(F:Fun K "parts_of" "parts_of" Dg f fd)(G:FnOk P w K mg base CX0 1 g gd ["saying"] (D0 K))(bG:Binds K gd ["saying"] [])(kG:aU K (.ref g)=true)(mG:mg "held_in"=some (.ref g)) :
  FnOk P w K mg base CX0 2 f fd ["saying"] (ss K):=by
 refine F.ok Iv (λvs H Q E h=>?_) (λcdv A outer s H vs Q E hr h=>?_)
 ·obtain⟨x,s,rfl,_⟩:=h;rfl
 obtain⟨x,sy,rfl,hx,h500,q⟩:=h;refine⟨_,ah (ax (i:=1) Iv.nd rfl (bV rfl) (av af)) (ah (ax (i:=2) Iv.nd rfl (bV rfl) (av (ac (pv 0) af))) (ah (xj eB (j9 (pv 2) (λ_=>rfl)) (ah (ax (i:=3) Iv.nd rfl (bV rfl) (yk cX rL rM C4 (pv 2))) (ah (bx (gi cX fV fX dy (pv 1) (ac (pv 3) af))) (ai (bx (gi cX jV jW Rk (pv 2) (ac (Ri (ao G hr rfl mG kG bG .nil az (ac (pv 3) af)) (j7 je ag)) af))))))) (ai (au (pv 1))))),?_⟩;dsimp only[bf,Cx.nox];refine⟨sz0,λu hu=>⟨_,rfl,sz1,λv hv=>?_⟩⟩;have uv:u≠v:=am ae hv;have hv0:H v=none:=Same.free (ad hu _) hv;refine⟨λm σ G=>∃(done wait:List Say)(xs ys:List V) (v3:Option V),σ=[some x,some (.ref u),some (.ref v),v3]/\Same H G/\G u=some (.lst xs)/\G v=some (.lst ys)/\Holds K G xs (done.map Say.da)/\Holds K G ys (wait.map Say.da)/\done++wait.reverse.flatMap Say.parts=sy.parts/\m=(wait.map Say.size).sum/\done.length+(wait.map Say.size).sum=sy.size/\wait.length<=(wait.map Say.size).sum,⟨_,[],[sy],[],[x],none,rfl,Same.put (ad hu _) hv0 _,(by rw[al uv,ae]),ae,.nil,.one (Hold.mono (Same.put (ad hu _) hv0 _) hx),by simp,rfl,by simp,by simpa using nn sy⟩,?_⟩;intro m σ G h_1;obtain⟨done,wait,xs,ys,v3,rfl,sG,gu,gv,hd,hw,ep,em,el,lw⟩:=h_1;refine⟨_,rfl,!ys.isEmpty,.inl ⟨ys,SqL.of gv,rfl⟩,?_⟩;have ly:ys.length=wait.length:=(by rw[hw.length,aG]);have lx:xs.length=done.length:=(by rw[hd.length,aG]);refine c9 (λc=>?_) (λc=>?_)
 ·rcases rN wait with e | ⟨w0,p,e⟩
  ·subst e;have z:ys=[]:=gM.mp ly;rw[z]at c;cases c
  ·rw[rO]at e;subst e;rw[aZ]at hw;obtain⟨zs,y,rfl,hz,hy⟩:=jt hw;have sm:((w0++[p]).map Say.size).sum=(w0.map Say.size).sum+p.size:=(by simp);rw[sm]at em el lw;have w1:w0.length+1<=(w0.map Say.size).sum+p.size:=(by simpa using lw);have ps:=nn p;refine⟨λσ' G'=>∃(done wait:List Say)(xs ys:List V) (v3:Option V),σ'=[some x,some (.ref u),some (.ref v),v3]/\Same H G'/\G' u=some (.lst xs)/\G' v=some (.lst ys)/\Holds K G' xs (done.map Say.da)/\Holds K G' ys (wait.map Say.da)/\done++wait.reverse.flatMap Say.parts=sy.parts/\(wait.map Say.size).sum+1=m/\done.length+(wait.map Say.size).sum=sy.size/\wait.length<=(wait.map Say.size).sum,λσ' G' z=>?_,?_⟩
   ·obtain⟨d',w',xs',ys',v3',z1,z2,z3,z4,z5,z6,z7,z8,z9,z10⟩:=z;exact⟨m - 1,by lia,d',w',xs',ys',v3',z1,z2,z3,z4,z5,z6,z7,by lia,z9,z10⟩
   ·refine⟨_,rfl,.inl ⟨rfl,_,SqL.of gv⟩,v,zs++[y],y,rfl,rfl,gv,by simp,?_⟩;rw[List.dropLast_concat];have t1:Tups G (upd G v (.lst zs)):=Tups.put gv _;refine⟨_,rfl,.inl ⟨rfl,_,SqL.of (by rw[al uv];exact gu)⟩,_,rfl,u,xs,y,rfl,rfl,(by rw[al uv];exact gu),bg (by lia),?_⟩;have gu1:upd G v (.lst zs) u=some (.lst xs):=(by rw[al uv];exact gu);have t2:Tups G (upd (upd G v (.lst zs)) u (.lst (xs++[y]))):=t1.trans (Tups.put gu1 _);have s2:Same H (upd (upd G v (.lst zs)) u (.lst (xs++[y]))):=Same.put (Same.put sG hv0 _) hu _;have gv2:upd (upd G v (.lst zs)) u (.lst (xs++[y])) v=some (.lst zs):=(by rw[al uv.symm,ae]);refine⟨_,rfl,.inl ⟨rfl,_,SqL.of gv2⟩,_,rfl,y,p,rfl,Hold.stay t2 (sr p) hy,λa ks G3 s3 ha hk=>⟨_,rfl,rfl,a,ks,rfl,ha,λt ht=>?_⟩⟩;have gv3:G3 v=some (.lst zs):=s3 _ _ gv2;have vt:v≠t:=am gv3 ht;have gv4:upd G3 t (.tup ks.reverse) v=some (.lst zs):=(by rw[al vt];exact gv3);have lk:ks.length=p.kids.length:=(by rw[hk.length,aG]);have szp:=Fu p;have kl:p.kids.length<=(p.kids.map Say.size).sum:=D1 _;have zl:zs.length=w0.length:=(by rw[hz.length,aG]);refine⟨v,t,zs,ks.reverse,rfl,rfl,gv4,SqT.of ae,small (by rw[gZ];lia),?_⟩;have t4:Tups G (upd (upd G3 t (.tup ks.reverse)) v (.lst (zs++ks.reverse))):=(t2.trans (Tups.of s3)).trans ((Tups.of (ad ht _)).trans (Tups.put gv4 _));have t5:Tups G3 (upd (upd G3 t (.tup ks.reverse)) v (.lst (zs++ks.reverse))):=(Tups.of (ad ht _)).trans (Tups.put gv4 _);have ut:u≠t:=am (s3 _ _ ae) ht;have fx:∀l:List Say,ir (l.map Say.da)=true:=λl=>bw sr l;refine⟨done++[p],w0++p.kids.reverse,xs++[y],zs++ks.reverse,_,rfl,Same.put (Same.put (Same.trans s2 s3) (Same.free (Same.trans s2 s3) ht) _) hv0 _,(by rw[al uv,al ut];exact s3 _ _ ae),ae,?_,?_,?_,?_,?_,?_⟩
    ·rw[aZ];exact Holds.append (Holds.stay t4 (fx _) hd) (.one (Hold.stay t4 (sr p) hy))
    ·rw[aZ,pF];exact Holds.append (Holds.stay t4 (fx _) hz) (Holds.stay t5 (by rw[<-pF];exact fx _) (Holds.rev hk))
    ·rw[pS,nN,iR,<-ep,pS];simp[jm p]
    ·rw[aZ,sJ,pF,uX];lia
    ·rw[aZ,sJ,pF,uX,aN,gF];lia
    ·rw[aZ,sJ,pF,uX,aN,gZ];have w2:w0.length<=(w0.map Say.size).sum:=D1 w0;lia
 ·have z:ys=[]:=by
   cases ys with
   |nil=>rfl
   |cons _ _=>exact absurd rfl c
  rw[z]at ly;have e:wait=[]:=gM.mp ly.symm;subst e;refine⟨_,rfl,q u xs G sG gu ?_⟩;rw[<-ep];simpa using hd
end
end S25
namespace L2
open PySem PySem.Spec PyProof.Rows
theorem jo {X:Cx}{ns:List Str}{sc:gG}(kind:sc.kind=.function)(nofree:∀y∈sc.names,y.2≠.free)(nocell:∀y∈sc.names,y.2≠.cell)(locs:∀y∈sc.names,y.2=.local->sc.names.lookup y.1=some .local):cb X ns [] [] sc [] where
 clos:=closureFor_none nofree
 kind:=kind
 nocell:=nocell
 locs:=locs
 sub:=λp hp=>nomatch hp
 has:=λy h=>by
  have e:(oW sc X.env).names=sc.names:=map_eq_self λp hp=>by
   obtain⟨n,k⟩:=p;have z:(k == NameKind.free)=false:=(by simpa using nofree _ hp);simp[z]
  rw[e]at h;rcases h with h | h
  ·exact absurd rfl (nocell _ (dw h))
  ·exact absurd rfl (nofree _ (dw h))
 len:=rfl
 outs:=λj y e=>by cases j<;>cases e
end L2
namespace S25
open PySem L2
def Ux:gG:={ kind:=.function,names:=[(".0",.local),("part",.local),("TEST_SORTS",.globalImplicit)],isGenerator:=false,isCoroutine:=false,more:=[] }
def Uy:gG:={ kind:=.function,names:=[(".0",.local),("part",.local)],isGenerator:=false,isCoroutine:=false,more:=[] }
section
variable {P:aS}{w:bZ}{K:aA}{mg:Str->Option aB}{base:Heap}
theorem csC1 {X:Cx}:cb X ["part"] [] [] Ux []:=jo rfl (by decide +kernel) (by decide +kernel) (by decide +kernel)
theorem csC2 {X:Cx}:cb X ["part"] [] [] Uy []:=jo rfl (by decide +kernel) (by decide +kernel) (by decide +kernel)
theorem scTe:ar ["saying"] ["saying"] (aj N5):=⟨rfl,rfl,rfl,by decide +kernel,rfl,by decide +kernel,by decide +kernel⟩
theorem Uz {f g aT:Addr}{fd gd:cC}(F:Fun K "is_test" "is_test" N5 f fd)(G:FnOk P w K mg base CX0 2 g gd ["saying"] (ss K))(bG:Binds K gd ["saying"] [])(kG:aU K (.ref g)=true)(mG:mg "parts_of"=some (.ref g))
  (ma:mg "all"=none) (mT:mg "TEST_SORTS"=some (.ref aT)) (tT:∀H:Hp,SqT K H aT TS):FnOk P w K mg base CX0 3 f fd ["saying"] (Qc K):=by
 refine F.ok scTe (λvs H Q E h=>?_) (λcdv A outer s H vs Q E hr h=>?_)
 ·obtain⟨x,s,rfl,_⟩:=h;rfl
 obtain⟨x,sy,rfl,hx,h500,q⟩:=h;refine⟨_,ai (au (bp (Kx rfl) rfl ma (by kernel_rfl) (ac (cy (ns:=["part"]) (ys:=[]) (sc:=Ux) csC1 rfl (ck (ao G hr rfl mG kG bG .nil az (ac (pv 0) af))) (λC s H fp=>ay (i:=0) (by show(["part"]:List Str).Nodup;decide +kernel) rfl (bV rfl)) (λC s H fp=>cw) (λC s H fp=>fo (r:=rIn K false) lg (aq (r:=Ak K) cf (pv 0) ag (λ_ _=>rfl)) (ie (v:=.ref aT) rfl mT rfl) (by with_unfolding_all rfl))) af))),?_⟩
 dsimp only[bf,Cx.nox];refine⟨_,rfl,x,sy,rfl,hx,h500,λr xs G1 s1 gr hd=>⟨r,rfl,⟨_,SqL.of gr⟩,λD hD=>?_⟩⟩;have lx:xs.length=sy.size:=(by rw[hd.length,aG,i6]);refine dm (K:=K) (a:=r) (xs:=xs) (λi ys G2=>Same G1 G2/\G2 D=some (.lst ys)/\ys=((sy.parts.take i).map Say.inT).map V.bl) ⟨ad hD _,ae,rfl⟩ (λi ys G2 z=>z.2.1) (λi ys G2 _ z=>SqL.of (z.1 _ _ gr)) ?_ ?_
 ·intro i x' ys G2 hx' h_1;obtain⟨s2,d2,rfl⟩:=h_1;obtain⟨p,ep,hp⟩:=hd.getm hx';obtain⟨a,zs,rfl,ha,_⟩:=i5 hp;have il:i < sy.parts.length:=(aK.mp ep).1;rw[i6]at il;refine⟨bg (by rw[aG,aG,cQ];lia),⟨[some _],rfl,rfl⟩,?_⟩;refine⟨_,rfl,a,_,_,_,rfl,rfl,ha.same s2,d9 _ _,aT,TS,rfl,.inr (tT _),rfl,by decide +kernel,d2,Same.put s2 hD _,ae,?_⟩;rw[dJ,ep];show _++[V.bl (inV (.str p.sort) TS)]=_;rw[Wu];simp
 ·intro ys G2 h_1;obtain⟨s2,d2,rfl⟩:=h_1;refine⟨D,_,rfl,SqL.of d2,?_⟩;have e:((sy.parts.take xs.length).map Say.inT).all id=sy.isT:=by
   rw[lx,<-i6,dZ,<-Ia,List.all_map];rfl
  rw[e];exact q G2 (Same.trans s1 s2)
theorem scNo:ar ["saying"] ["saying"] (aj N6):=⟨rfl,rfl,rfl,by decide +kernel,rfl,by decide +kernel,by decide +kernel⟩
theorem U0 {f g:Addr}{fd gd:cC}(F:Fun K "notes_in" "notes_in" N6 f fd)(G:FnOk P w K mg base CX0 2 g gd ["saying"] (ss K))(bG:Binds K gd ["saying"] [])(kG:aU K (.ref g)=true)(mG:mg "parts_of"=some (.ref g))
  (ml:mg "len"=none):FnOk P w K mg base CX0 3 f fd ["saying"] (Qd K):=by
 refine F.ok scNo (λvs H Q E h=>?_) (λcdv A outer s H vs Q E hr h=>?_)
 ·obtain⟨x,s,rfl,_⟩:=h;rfl
 obtain⟨x,sy,rfl,hx,h500,q⟩:=h;refine⟨_,ai (au (bp br rfl ml eX (ac (cy (ns:=["part"]) (ys:=[]) (sc:=Uy) csC2 rfl (ck (ao G hr rfl mG kG bG .nil az (ac (pv 0) af))) (λC s H fp=>ay (i:=0) (by show(["part"]:List Str).Nodup;decide +kernel) rfl (bV rfl)) (λC s H fp=>nh (bi df (aq (r:=Ak K) cf (pv 0) ag (λ_ _=>rfl)) be (bn _))) (λC s H fp=>pv 0)) af))),?_⟩;dsimp only[bf,Cx.nox];refine⟨_,rfl,x,sy,rfl,hx,h500,λr xs G1 s1 gr hd=>⟨r,rfl,⟨_,SqL.of gr⟩,λD hD=>?_⟩⟩;have lx:xs.length=sy.size:=(by rw[hd.length,aG,i6]);refine dm (K:=K) (a:=r) (xs:=xs) (λi ys G2=>Same G1 G2/\G2 D=some (.lst ys)/\ys.length=((sy.parts.take i).filter Say.isN).length) ⟨ad hD _,ae,rfl⟩ (λi ys G2 z=>z.2.1) (λi ys G2 _ z=>SqL.of (z.1 _ _ gr)) ?_ ?_
 ·intro i x' ys G2 hx' h_1;obtain⟨s2,d2,e2⟩:=h_1;obtain⟨p,ep,hp⟩:=hd.getm hx';obtain⟨a,zs,rfl,ha,_⟩:=i5 hp;have il:i < sy.parts.length:=(aK.mp ep).1;rw[i6]at il;have yl:ys.length<=i:=by
   rw[e2];exact bK (jR _ _) (by rw[cQ];lia)
  have e3:((sy.parts.take (i+1)).filter Say.isN).length=ys.length+(if p.isN=true then 1 else 0):=by
   rw[dJ,ep,nB,aN,<-e2];cases q:p.isN<;>simp[q]
  refine⟨bg (by lia),⟨[some _],rfl,rfl⟩,?_⟩;refine⟨_,rfl,a,_,_,_,rfl,rfl,ha.same s2,d9 _ _,rfl,_,rfl,?_⟩;rw[is_N];refine c9 (λc=>?_) (λc=>?_)
  ·refine⟨_,rfl,d2,Same.put s2 hD _,ae,?_⟩;rw[e3,if_pos c,aN];rfl
  ·refine⟨s2,d2,?_⟩;rw[e3,if_neg c];rfl
 ·intro ys G2 h_1;obtain⟨s2,d2,e2⟩:=h_1;refine⟨D,ys,rfl,.inl (SqL.of d2),?_⟩;rw[e2,lx,<-i6,dZ,wz];exact q G2 (Same.trans s1 s2)
end
end S25
namespace L2
theorem ifS {c:TT}{a b:TS}{D:db}{σ:St}{H:Hp}(R T:Hp->Prop)(hc:∀k:Bool->Hp->Prop,(∀G,R G->k false G)->(∀G,T G->k true G)->c σ H k)(ha:∀G,T G->a D σ G)(hb:∀G,R G->b D σ G):Nd c a b D σ H:=
 hc _ (λG r=>cr (hb G r)) (λG t=>gw (ha G t))
theorem andV {ta tb:TE}{σ:St}{H:Hp}{Q:VK}{c d:Bool}(h1:∀k:VK,k (.bl c) H->ta σ H k)(h2:∀k:VK,k (.bl d) H->tb σ H k)(q:Q (.bl (c && d)) H):P4 ta tb σ H Q:=by
 refine h1 _ ⟨c,rfl,?_⟩;cases c with
 |false=>exact cr q
 |true=>exact gw (h2 _ q)
end L2
namespace S25
open PySem L2
abbrev dq:=Say×Int
def gn (i:dq):Da:=.lst [i.1.da,.flat (.bl i.1.isT),.flat (.int (i.1.nts:Int)),.flat (.int i.2)]
def dz (is:List dq):Nat:=(is.map λi=>i.1.size).sum
theorem d0 (a b:List dq):dz (a++b)=dz a+dz b:=by simp[dz]
theorem eh (i:dq):dz [i]=i.1.size:=by simp[dz]
theorem xq:∀is:List dq,is.length<=dz is
 | []=>aO _
 |i::r=>by
  have z:=xq r;have y:=nn i.1;show r.length+1<=dz ([i]++r);rw[d0,eh];lia
theorem Keep.trans {p:Addr}{H G G':Hp}(a:Keep p H G)(b:Keep p G G'):Keep p H G':=λc o h e=>b c o h (a c o h e)
theorem Keep.new {p t:Addr}{H G:Hp}(a:Keep p H G)(h:G t=none)(o:HO):Keep p H (upd G t o):=λc u hc e=>by
 have z:=a c u hc e;rw[al (am z h)];exact z
theorem ow {K:aA}{H:Hp}{x:V}{i:dq}(h:Hold K H x (gn i)):∃a y,x=.ref a/\SqL K H a [y,.bl i.1.isT,.int (i.1.nts:Int),.int i.2]/\Hold K H y i.1.da:=by
 obtain⟨a,xs,e,ha,hd⟩:=Hold.lstI h;cases hd with
 |cons h1 r1=>
  cases r1 with
  |cons h2 r2=>
   cases r2 with
   |cons h3 r3=>
    cases r3 with
    |cons h4 r4=>
     cases r4;cases h2.flatI;cases h3.flatI;cases h4.flatI;exact⟨a,_,e,ha,h1⟩
theorem lh {K:aA}{H:Hp}{a:Addr}{y:V}{i:dq}{t:Bool}{n:Int}(ha:H a=some (.lst [y,.bl t,.int n,.int i.2]))(hy:Hold K H y i.1.da)(ht:t=i.1.isT)(hn:n=(i.1.nts:Int)):Hold K H (.ref a) (gn i):=by
 subst ht hn;exact .lst (SqL.of ha) (.cons hy (.cons (.flat rfl) (.cons (.flat rfl) (.cons (.flat rfl) .nil))))
theorem D3 (ys:List V)(a:V):fq (ys++[a]) none (some (-1))=ys:=by
 unfold fq;have e:HT.sIx (ys++[a]).length (ys++[a]).length (some (-1))=ys.length:=by
  show(if (-1:Int) < 0 then ((-1:Int)+((ys++[a]).length:Int)).toNat else min (-1:Int).toNat (ys++[a]).length)=_
  rw[if_pos (by decide),aN,gF];lia
 rw[e,HT.sIx_none,tI,uY];exact List.take_left
theorem Og (ys:List V)(a b:V):fq (ys++[a,b]) none (some (-2))=ys:=by
 unfold fq;have e:HT.sIx (ys++[a,b]).length (ys++[a,b]).length (some (-2))=ys.length:=by
  show(if (-2:Int) < 0 then ((-2:Int)+((ys++[a,b]).length:Int)).toNat else min (-2:Int).toNat (ys++[a,b]).length)=_
  rw[if_pos (by decide),aN];show((-2:Int)+((ys.length+2:Nat):Int)).toNat=ys.length;lia
 rw[e,HT.sIx_none,tI,uY];exact List.take_left
theorem Lc (ys:List V)(a b:V):fq (ys++[a,b]) (some (-2)) none=[a,b]:=by
 unfold fq;have e:HT.sIx (ys++[a,b]).length 0 (some (-2))=ys.length:=by
  show(if (-2:Int) < 0 then ((-2:Int)+((ys++[a,b]).length:Int)).toNat else min (-2:Int).toNat (ys++[a,b]).length)=_
  rw[if_pos (by decide),aN];show((-2:Int)+((ys.length+2:Nat):Int)).toNat=ys.length;lia
 rw[e,HT.sIx_none,List.drop_left,aN,Nat.add_sub_cancel_left];rfl
section
variable {P:aS}{w:bZ}{K:aA}{mg:Str->Option aB}{base:Heap}
theorem Oh:ar ["_law_sort","_law_purse_here","_law_speech_here","_law_field","_law_count"] ["_law_sort","_law_purse_here","_law_speech_here"] (aj Ih):=⟨rfl,rfl,rfl,by decide +kernel,rfl,by decide +kernel,by decide +kernel⟩
theorem Fd {xs:List V}{is0:List dq}{i1 i2:dq}{H:Hp}(h:Holds K H xs ((is0++[i1,i2]).map gn)):∃ys x1 x2,xs=ys++[x1,x2]/\Holds K H ys (is0.map gn)/\Hold K H x1 (gn i1)/\Hold K H x2 (gn i2):=by
 have e:(is0++[i1,i2]).map gn=(is0.map gn++[gn i1])++[gn i2]:=(by simp);rw[e]at h;obtain⟨zs,x2,rfl,h1,h2⟩:=jt h;obtain⟨ys,x1,rfl,h3,h4⟩:=jt h1;exact⟨ys,x1,x2,by simp,h3,h4,h2⟩
theorem Iw:ar ["_law_row","_law_word","_law_one","_law_other","_law_made"] ["_law_row","_law_word"] (aj Au):=⟨rfl,rfl,rfl,by decide +kernel,rfl,by decide +kernel,by decide +kernel⟩
end
end S25
namespace L2
open PySem
theorem ifQ {c:TT}{a b u:TS}{D:db}{σ:St}{H:Hp}(R T:Hp->Prop)(hc:∀k:Bool->Hp->Prop,(∀G,R G->k false G)->(∀G,T G->k true G)->c σ H k)(ha:∀G,T G->a { D with nx:=u D } σ G)(hb:∀G,R G->b { D with nx:=u D } σ G):Ua (Nd c a b) u D σ H:=ifS R T hc ha hb
end L2
namespace S25
open PySem L2
def U1:gG:={ kind:=.function,names:=[(".0",.local),("_law_one",.local)],isGenerator:=false,isCoroutine:=false,more:=[] }
theorem csC3 {X:Cx}:cb X ["_law_one"] [] [] U1 []:=jo rfl (by decide +kernel) (by decide +kernel) (by decide +kernel)
def oj (H:Hp)(p:Addr)(G:Hp):Prop:=Same H G/\∃a b:Int,G p=some (.lst [.int a,.int b])/\0<=a/\0<=b
section
variable {P:aS}{w:bZ}{K:aA}{mg:Str->Option aB}{base:Heap}
theorem D4:ar ["_law_row","_law_cell_here","_law_speech_here","_law_most","_law_purse_here","_law_sort","_law_last"] ["_law_row","_law_cell_here","_law_speech_here","_law_most"] (aj Dk):=
 ⟨rfl,rfl,rfl,by decide +kernel,rfl,by decide +kernel,by decide +kernel⟩
end
end S25
namespace S25
open PySem L2 Fly PyProof.Rows
inductive Flt where
 |field (f:Str)
 |value (v:Int)
 |test (s:Say)
def dt (ws:List (Str×Nat))(x:Str)(v:Int):Option Flt:=
 match look ws x with
 |none=>some (.field x)
 |some (_,c)=>if 0<=v/\v < (c:Int)then none else some (.value v)
def Say.own (ws:List (Str×Nat)):Say->Option Flt
 | .is f v=>dt ws f.1 v.1
 | .put f v=>dt ws f.1 v.1
 | .no s=>if s.isT=true then none else some (.test s)
 |_=>none
def Say.due (ws:List (Str×Nat)):Say->Option Flt
 | .is f v=>dt ws f.1 v.1
 | .put f v=>dt ws f.1 v.1
 | .no s=>if s.isT=true then s.due ws else some (.test s)
 | .again s=>s.due ws
 | .either a b=>(a.due ws).or (b.due ws)
 | .both a b=>(a.due ws).or (b.due ws)
 |_=>none
theorem Ld (ws:List (Str×Nat))(s:Say):s.parts.findSome? (Say.own ws)=s.due ws:=by
 induction s with
 |no s ih=>
  rw[Say.parts,lC,Say.own,Say.due,ih];by_cases h:s.isT=true
  ·rw[if_pos h,if_pos h]
  ·rw[if_neg h,if_neg h]
 |again s ih=>rw[Say.parts,lC,Say.due,ih];rfl
 |either a b ia ib=>rw[Say.parts,lC,Say.due,List.findSome?_append,ia,ib];rfl
 |both a b ia ib=>rw[Say.parts,lC,Say.due,List.findSome?_append,ia,ib];rfl
 |is f v=>
  show List.findSome? (Say.own ws) [Say.is f v]=dt ws f.1 v.1;rw[lC,Say.own];cases dt ws f.1 v.1<;>rfl
 |put f v=>
  show List.findSome? (Say.own ws) [Say.put f v]=dt ws f.1 v.1;rw[lC,Say.own];cases dt ws f.1 v.1<;>rfl
 |_=>rfl
def FOut (K:aA)(H:Hp)(E:XK)(cF cV cT:Addr):Flt->Prop
 | .field x=>∀dx H',Same H H'->H' dx=some (.xd [("field",.str x)])->E (.ref cF) (some dx) H'
 | .value v=>∀dx H',Same H H'->H' dx=some (.xd [("value",.int v)])->E (.ref cV) (some dx) H'
 | .test t=>∀dx y H',Same H H'->H' dx=some (.xd [("saying",y)])->Hold K H' y t.da->E (.ref cT) (some dx) H'
theorem FOut.later {K:aA}{H G:Hp}{E:XK}{cF cV cT:Addr}{f:Flt}(h:FOut K H E cF cV cT f)(s:Same H G):FOut K G E cF cV cT f:=by
 cases f with
 |field x=>exact λdx H' z=>h dx H' (Same.trans s z)
 |value v=>exact λdx H' z=>h dx H' (Same.trans s z)
 |test t=>exact λdx y H' z=>h dx y H' (Same.trans s z)
def Oi (K:aA)(cT:Addr):Sp:=λvs H Q E=>∃(x:V)(s:Say),vs=[x]/\Hold K H x s.da/\s.size<=500/\(s.isT=true->∀H',Same H H'->Q .non H')/\(s.isT=false->∀dx y H',Same H H'->H' dx=some (.xd [("saying",y)])->Hold K H' y s.da->E (.ref cT) (some dx) H')
def U2 (K:aA)(cF cV cT:Addr):Sp:=λvs H Q E=>∃(sp:Addr)(x:V) (ws:List (Str×Nat)) (s:Say),vs=[.ref sp,x]/\Hold K H (.ref sp) (gj ws)/\Hold K H x s.da/\s.size<=500/\(s.own ws=none->∀H',Same H H'->Q .non H')/\(∀f,s.own ws=some f->FOut K H E cF cV cT f)
def Ix (K:aA)(cF cV cT:Addr):Sp:=λvs H Q E=>∃(sp:Addr)(x:V) (ws:List (Str×Nat)) (s:Say),vs=[.ref sp,x]/\Hold K H (.ref sp) (gj ws)/\Hold K H x s.da/\s.size<=500/\(s.due ws=none->∀H',Same H H'->Q .non H')/\(∀f,s.due ws=some f->FOut K H E cF cV cT f)
def FS:List V:=[.str "is",.str "put"]
def Say.isF:Say->Bool
 | .is _ _=>true | .put _ _=>true
 |_=>false
theorem W4 (s:Say):inV (.str s.sort) FS=s.isF:=by cases s<;>kernel_rfl
theorem U3 {ws:List (Str×Nat)}{x:Str}{v:Int}{K:aA}{H:Hp}{E:XK}{cF cV cT:Addr}{good:Nat->Prop}(h1:dt ws x v=none->∀i,good i)(h2:∀f,dt ws x v=some f->FOut K H E cF cV cT f):Uw ws x v cF cV H E good where
 no:=λl=>h2 (.field x) (by unfold dt;rw[l])
 bad:=λi c l n=>h2 (.value v) (by unfold dt;rw[l];exact if_neg n)
 ok:=λi c l g=>h1 (by unfold dt;rw[l];exact if_pos g) i
def Say.isNo:Say->Bool
 | .no _=>true
 |_=>false
theorem Qe (s:Say):decide (V.str s.sort=V.str "not")=s.isNo:=by cases s<;>kernel_rfl
theorem Oj {K:aA}{H:Hp}{x:V}{s:Say}(ws:List (Str×Nat))(h:Hold K H x s.da)(hf:s.isF=true):∃(a:Addr)(fx:Fld) (vx:Num),x=.ref a/\SqT K H a [.str s.sort,.str fx.1,.int vx.1]/\s.own ws=dt ws fx.1 vx.1/\s.isNo=false:=by
 cases s
 case is f v=>
  obtain⟨a,ys,e,ha,hd⟩:=Hold.tupI h;cases hd with
  |cons h1 r1=>cases r1 with
   |cons h2 r2=>cases r2 with
    |cons h3 r3=>
     cases r3;cases h1.flatI;cases h2.flatI;cases h3.flatI;exact⟨a,f,v,e,ha,rfl,rfl⟩
 case put f v=>
  obtain⟨a,ys,e,ha,hd⟩:=Hold.tupI h;cases hd with
  |cons h1 r1=>cases r1 with
   |cons h2 r2=>cases r2 with
    |cons h3 r3=>
     cases r3;cases h1.flatI;cases h2.flatI;cases h3.flatI;exact⟨a,f,v,e,ha,rfl,rfl⟩
 all_goals cases hf
theorem Sa {K:aA}{H:Hp}{x:V}{s:Say}(h:Hold K H x s.da)(hf:s.isNo=true):∃(a:Addr)(y:V) (t:Say),s=.no t/\x=.ref a/\SqT K H a [.str s.sort,y]/\Hold K H y t.da:=by
 cases s
 case no t=>
  obtain⟨a,ys,e,ha,hd⟩:=Hold.tupI h;cases hd with
  |cons h1 r1=>cases r1 with
   |cons h2 r2=>cases r2;cases h1.flatI;exact⟨a,_,t,rfl,e,ha,h2⟩
 all_goals cases hf
theorem Ol {ws:List (Str×Nat)}{s:Say}(h1:s.isF=false)(h2:s.isNo=false):s.own ws=none:=by cases s<;>first | rfl | exact absurd h1 (by decide) | exact absurd h2 (by decide) | (simp[Say.isF]at h1;done) | (simp[Say.isNo]at h2;done)
section
variable {P:aS}{w:bZ}{K:aA}{mg:Str->Option aB}{base:Heap}{cF cV cT:Addr}
theorem scMT:ar ["saying"] ["saying"] (aj Di):=⟨rfl,rfl,rfl,by decide +kernel,rfl,by decide +kernel,by decide +kernel⟩
theorem Om {f fT fI:Addr}{fd fdT fdI:cC}(F:Fun K "must_test" "must_test" Di f fd)(c:ik K cT)(n:NoAttr K cT "saying")(hi:aW K (.ref cT) "__init__"=some (some (.ref fI)))(lf:∃oI,K.lookup fI=some oI/\oI.cls=.type "function")
  (GI:FnOk P w K mg base CX0 1 fI fdI ["self","saying"] (mo K cT "saying" λ_=>True)) (bI:Binds K fdI ["self","saying"] []) (mC:mg "NoTest"=some (.ref cT))
  (GT:FnOk P w K mg base CX0 3 fT fdT ["saying"] (Qc K)) (bT:Binds K fdT ["saying"] []) (kT:aU K (.ref fT)=true) (mT:mg "is_test"=some (.ref fT)):FnOk P w K mg base (CXx P w) 4 f fd ["saying"] (Oi K cT):=by
 refine F.okX scMT (λvs H Q E h=>?_) (λcdv A outer s H vs Q E hr h=>?_)
 ·obtain⟨x,sy,rfl,_⟩:=h;rfl
 obtain⟨x,sy,rfl,hx,h500,q1,q2⟩:=h;refine⟨_,ai (cj (u9 (jh (ao GT hr rfl mT kT bT .nil az (ac (pv 0) af)))) (ai (qj c (qi c hi lf GI (hr.mono (by decide)) rfl mC bI (ac (pv 0) af)))) bo),?_⟩;dsimp only[bf,Cx.nox];refine⟨_,rfl,x,sy,rfl,hx,h500,λG1 s1=>⟨_,rfl,?_⟩⟩;cases ht:sy.isT with
 |true=>exact cr (q1 ht G1 s1)
 |false=>
  refine gw ⟨_,rfl,(by show 1<=100;decide),λe he=>⟨e,x,rfl,c,n,trivial,ae,λdx hd ne=>⟨rfl,e,some dx,rfl,ae,Same.free s1 he,?_⟩⟩⟩;obtain⟨z1,z2,_⟩:=qv (o2:=.xd [("saying",x)]) (o3:=fb e cT (some dx)) he hd ne;exact q2 ht dx x _ (Same.trans s1 z1) z2 (Hold.mono (Same.trans s1 z1) hx)
theorem scMP:ar ["speech","part"] ["speech","part"] (aj Dh):=⟨rfl,rfl,rfl,by decide +kernel,rfl,by decide +kernel,by decide +kernel⟩
theorem On {f fP fT aF:Addr}{fd fdP fdT:cC}(F:Fun K "must_part" "must_part" Dh f fd)
  (GP:FnOk P w K mg base (CXx P w) 4 fP fdP ["speech","field","value"] (A0 K cF cV)) (bP:Binds K fdP ["speech","field","value"] []) (kP:aU K (.ref fP)=true) (mP:mg "place_of"=some (.ref fP))
  (GT:FnOk P w K mg base (CXx P w) 4 fT fdT ["saying"] (Oi K cT)) (bT:Binds K fdT ["saying"] []) (kT:aU K (.ref fT)=true) (mT:mg "must_test"=some (.ref fT))
  (mF:mg "FIELD_SORTS"=some (.ref aF)) (tF:∀H:Hp,SqT K H aF FS):FnOk P w K mg base (CXx P w) 5 f fd ["speech","part"] (U2 K cF cV cT):=by
 refine F.okX scMP (λvs H Q E h=>?_) (λcdv A outer s H vs Q E hr h=>?_)
 ·obtain⟨sp,x,ws,sy,rfl,_⟩:=h;rfl
 obtain⟨sp,x,ws,sy,rfl,hs,hx,h500,q1,q2⟩:=h;refine⟨_,ah (cj (bi lg (aq cf (pv 1) ag (λ_ _=>rfl)) (ie (v:=.ref aF) rfl mF rfl) (by with_unfolding_all rfl)) (ai (bx (ao GP hr rfl mP kP bP .nil jq (ac (pv 0) (ac (aq cf (pv 1) ag (λ_ _=>rfl)) (ac (aq cf (pv 1) ag (λ_ _=>rfl)) af)))))) bo) (ai (cj (bi df (aq cf (pv 1) ag (λ_ _=>rfl)) be (bn _)) (ai (bx (ao GT hr rfl mT kT bT .nil jq (ac (aq cf (pv 1) ag (λ_ _=>rfl)) af)))) bo)),?_⟩
 dsimp only[bf,Cx.nox];obtain⟨a,xs,rfl,ha,hk⟩:=i5 hx;refine⟨_,rfl,a,_,_,_,rfl,rfl,ha,d9 _ _,aF,FS,rfl,.inr (tF _),rfl,by decide +kernel,_,rfl,?_⟩;show if inV (.str sy.sort) FS=true then _ else _
 rw[W4];refine c9 (λc=>?_) (λc=>?_)
 ·obtain⟨b,fx,vx,e,hb,ho,hn⟩:=Oj ws hx c;cases e;refine⟨_,rfl,_,rfl,a,_,_,_,rfl,rfl,hb,rfl,_,rfl,a,_,_,_,rfl,rfl,hb,rfl,sp,ws,fx.1,vx.1,rfl,hs,vx.2,fx.2,U3 (K:=K) (cT:=cT) (λz i H' s'=>?_) (λf z=>?_)⟩
  ·refine⟨_,rfl,a,_,_,_,rfl,rfl,hb.same s',rfl,rfl,_,rfl,?_⟩;show if decide (V.str sy.sort=V.str "not")=true then _ else _
   rw[Qe,hn];exact q1 (ho.trans z) H' s'
  ·exact q2 f (ho.trans z)
 ·refine⟨_,rfl,a,_,_,_,rfl,rfl,ha,d9 _ _,rfl,_,rfl,?_⟩;show if decide (V.str sy.sort=V.str "not")=true then _ else _
  rw[Qe];refine c9 (λd=>?_) (λd=>?_)
  ·obtain⟨b,y,t,rfl,e,hb,hy⟩:=Sa hx d;cases e;refine⟨_,rfl,a,_,_,_,rfl,rfl,hb,rfl,y,t,rfl,hy,?_,λz H' s'=>?_,λz dx y' H' s' hd hh=>?_⟩
   ·have:t.size+1<=500:=h500;lia
   ·exact q1 (if_pos z) H' s'
   ·exact q2 (.test t) (if_neg (by rw[z];decide)) dx y' H' s' hd hh
  ·exact q1 (Ol (by simpa using c) (by simpa using d)) H (Same.refl _)
theorem U4:ar ["speech","saying","part"] ["speech","saying"] (aj Id):=⟨rfl,rfl,rfl,by decide +kernel,rfl,by decide +kernel,by decide +kernel⟩
theorem A1 {s p:Say}(h:p∈s.parts):p.size<=s.size:=by
 induction s with
 |no s ih=>
  rcases cD.mp h with e | e
  ·rw[e];exact aO _
  ·have:=ih e;show p.size<=s.size+1;lia
 |again s ih=>
  rcases cD.mp h with e | e
  ·rw[e];exact aO _
  ·have:=ih e;show p.size<=s.size+1;lia
 |either a b ia ib=>
  rcases cD.mp h with e | e
  ·rw[e];exact aO _
  ·show p.size<=a.size+b.size+1;rcases eI.mp e with z | z
   ·have:=ia z;lia
   ·have:=ib z;lia
 |both a b ia ib=>
  rcases cD.mp h with e | e
  ·rw[e];exact aO _
  ·show p.size<=a.size+b.size+1;rcases eI.mp e with z | z
   ·have:=ia z;lia
   ·have:=ib z;lia
 |_=>rw[cE.mp h];exact aO _
theorem Sb {α β:Type}{f:α->Option β}{l:List α}{i:Nat}{x:α}{r:Option β}(hx:l[i]?=some x)(h:(l.drop i).findSome? f=r):(∀y,f x=some y->r=some y)/\(f x=none->(l.drop (i+1)).findSome? f=r):=by
 have hi:i < l.length:=(aK.mp hx).1;have e:l.drop i=x::l.drop (i+1):=by
  rw[lN hi,(aK.mp hx).2]
 rw[e,lC]at h;constructor
 ·intro y q;rw[q]at h;exact h.symm
 ·intro q;rw[q]at h;exact h
theorem Sc {f fA fP:Addr}{fd fdA fdP:cC}(F:Fun K "must_saying" "must_saying" Id f fd)
  (GA:FnOk P w K mg base CX0 2 fA fdA ["saying"] (ss K)) (bA:Binds K fdA ["saying"] []) (kA:aU K (.ref fA)=true) (mA:mg "parts_of"=some (.ref fA))
  (GP:FnOk P w K mg base (CXx P w) 5 fP fdP ["speech","part"] (U2 K cF cV cT)) (bP:Binds K fdP ["speech","part"] []) (kP:aU K (.ref fP)=true) (mP:mg "must_part"=some (.ref fP)):FnOk P w K mg base (CXx P w) 6 f fd ["speech","saying"] (Ix K cF cV cT):=by
 refine F.okX U4 (λvs H Q E h=>?_) (λcdv A outer s H vs Q E hr h=>?_)
 ·obtain⟨sp,x,ws,sy,rfl,_⟩:=h;rfl
 obtain⟨sp,x,ws,sy,rfl,hs,hx,h500,q1,q2⟩:=h;refine⟨_,ai (de uC rfl (ck (ao GA (hr.mono (by decide)) rfl mA kA bA .nil az (ac (pv 1) af))) (ay (i:=2) U4.nd rfl (bV rfl)) (ai (bx (ao GP hr rfl mP kP bP .nil jq (ac (pv 0) (ac (pv 2) af)))))),?_⟩;dsimp only[bf,Cx.nox];refine⟨_,rfl,x,sy,rfl,hx,h500,λr xs G1 s1 gr hd=>⟨r,rfl,⟨_,SqL.of gr⟩,gq (K:=K) (a:=r) (xs:=xs) (λi σ G=>∃v2:Option V,σ=[some (.ref sp),some x,v2]/\Same G1 G/\(sy.parts.drop i).findSome? (Say.own ws)=sy.due ws) ⟨none,rfl,Same.refl _,Ld ws sy⟩ (λi σ G _ h0_=>by obtain⟨_,_,sG,_⟩:=h0_;exact SqL.of (sG _ _ gr)) ?_ ?_⟩⟩
 ·intro i y σ G hy h_1;obtain⟨v2,rfl,sG,lk⟩:=h_1;generalize hE1_:db.mk _ _ _ _=E1_;revert hE1_ E1_;refine id ?_;intro E1_ hE1_;obtain⟨p,ep,hp⟩:=hd.getm hy;obtain⟨n1,n2⟩:=Sb ep lk;have pz:=A1 (bQ ep);refine⟨_,rfl,_,rfl,sp,y,ws,p,rfl,Hold.mono (Same.trans s1 sG) hs,Hold.mono sG hp,by lia,λz H' s'=>?_,λf z=>?_⟩
  ·subst hE1_;exact⟨_,rfl,Same.trans sG s',n2 z⟩
  ·exact(q2 f (n1 f z)).later (Same.trans s1 sG)
 ·intro σ G h_1;obtain⟨v2,rfl,sG,lk⟩:=h_1;have lx:xs.length=sy.parts.length:=(by rw[hd.length,aG]);rw[lx,rF]at lk;exact q1 lk.symm G (Same.trans s1 sG)
end
end S25
namespace S25
open PySem L2
section
variable {P:aS}{w:bZ}{K:aA}{mg:Str->Option aB}{base:Heap}
theorem D5:ar ["_law_cells","_law_speech_here","_law_most","_law_row","_law_cell_here"] ["_law_cells","_law_speech_here","_law_most"] (aj Av):=⟨rfl,rfl,rfl,by decide +kernel,rfl,by decide +kernel,by decide +kernel⟩
end
end S25
namespace L2
open PySem PySem.Spec PyProof.Rows
theorem nv {X:Cx}{i0:Nat}{y0:Str}{py spos:Pos}{elt iter tg:Expr}{ifs:List Expr}{sc:gG}{pos:Pos}{ns ys:List Str}{fr:List Nat}{cl:List (Str×Addr)}{wi:TI}{g:TG}{tt:TT}{te:TE}(hN:X.N.Nodup)(hi0:X.N[i0]?=some y0)(hy0:X.env.scope.names.lookup y0=some .local)(S:cb X ns ys fr sc cl)(hc:X.calm=true)
  (hi:PI X tg iter wi) (hg:∀C s H fp,PG (cxC X (ns++ys) sc cl C s H fp) tg g) (ht:∀C s H fp,PTs (cxC X (ns++ys) sc cl C s H fp) ifs tt) (he:∀C s H fp,PE (cxC X (ns++ys) sc cl C s H fp) elt te)
  (hs:∀x,tY iter X.env x=pure x:=by intro _;rfl) (hsw:qA (.ListComp elt [⟨tg,iter,ifs,0⟩] sc pos) (some (.Name y0 py)) spos.line X.env=pure true:=by rfl) :
  PS X (.Assign [.Name y0 py] (.ListComp elt [⟨tg,iter,ifs,0⟩] sc pos) spos) (λD σ H=>P8 ns.length fr wi g tt te σ H λx H1=>D.nx (σ.set i0 (some x)) H1):=by
 intro pins s σ H D I h;rw[exec_Assign_Name_used _ _ _ _ hsw];refine aC (nG (aC ?_));show aM _ _ (do let _ <-comprehension (.ListComp elt [⟨tg,iter,ifs,0⟩] sc pos) sc X.env _ (newList []) false (eval iter X.env) (some (tP (.Name y0 py) X.env))) _ _ s
 refine aC (gC (wpAny_comprehension_free (use:=some (tP (.Name y0 py) X.env)) (Q:=λ_ s'=>SP X pins D .next s') rfl hs S.clos S.kind S.locs (thn (hi pins s σ H _ I h) λv s1 h1=>thn h1 λitv s2 h2=>?_)) (λ_ s' hq=>wpAny_pure (wpAny_pure hq)) λ_ _ e=>e)
 obtain⟨it,fp,tn,J,H2,e,I2,T,st2,f2,rest⟩:=h2;subst e;obtain⟨W,⟨m0,w0⟩,turn⟩:=rest s2.heap.objs.size (I2.hok.fresh (aO _));refine hZ (wpAny_newFunctionEnv S.nocell (by intro y hy;simp at hy) (λh3 hn3 hb3=>?_) S.kind);dsimp only at hn3 hb3 ⊢;generalize hG:s2.heap.push { cls:=.type "list",dict:=none,data:=.seq ([]:List aB).toArray }=G at hn3 hb3 ⊢;have zG:G.objs.size=s2.heap.objs.size+1:=(by rw[<-hG,gP]);have ltC:s2.heap.objs.size < G.objs.size:=(by rw[zG];exact pB _);have old:∀b o,s2.heap.get? b=some o->h3.get? b=some o:=λb o e=>
  hb3.extBut b o (cK (iZ (bX e) ltC)) (aJ _ (hG ▸ aJ _ e))
 have hD:=hb3.extBut _ _ (cK ltC) (aJ _ (hG ▸ cJ _ rfl));have below:∀b∈fp,b < s2.heap.objs.size:=λb hb=>by
  obtain⟨o,eo,_⟩:=T.obj _ _ st2 b hb;exact bX eo
 have I3:=Bt (ns:=ns) (ys:=ys) (fr:=fr) (t':=s2.toks+([]:List (Str×aB)).length) I2 S f2 below ltC old hD hn3;have stat:∀{H':Hp},(∀b∈fp,H' b=none)->∀b∈fp,i8 (cxC X (ns++ys) sc cl G.objs.size s2 H2 fp) [] H' b:=λhn b hb=>
  ⟨hn b hb,cK (iZ (below b hb) ltC),I3.ok.exfs b hb,.inl hb,λx c e=>(I3.ok.exf b hb).2 x c e,λp hp=>nomatch hp⟩
 have st3:tn 0 h3:=T.keep _ _ _ st2 λb _ o e=>old b o e;have fr3:∀b∈fp,upd H2 s2.heap.objs.size (.lst []) b=none:=λb hb=>by
  rw[al (cK (below b hb))];exact(f2 b hb).1
 have loop:∀s3:aI,s3={ s2 with heap:=h3,toks:=s2.toks+([]:List (Str×aB)).length }->
   nQ (aX X.prog X.w) X.A (.compLoop (.ListComp elt [⟨tg,iter,ifs,0⟩] sc pos) 0 (.ref it) (.ref s2.heap.objs.size) (compEnvC sc cl G.objs.size X.env))
    (compPost (aX X.prog X.w) X.A X.xe (some (tP (.Name y0 py) X.env)) (λ_ s'=>SP X pins D .next s') (.ref s2.heap.objs.size) G.objs.size) s3:=by
  intro s3 h_1;subst h_1;refine Ku (λn s'=>∃i zs H',Inv (cxC X (ns++ys) sc cl G.objs.size s2 H2 fp) [] (dQ ns.length none++pick σ fr) H' s'/\tn i s'.heap/\(∀b∈fp,H' b=none)/\W i n zs H') ?_ m0 ⟨0,[],_,I3,st3,fr3,w0⟩;intro n s5 h_1;obtain⟨i,zs,H5,I5,st5,fr5,w5⟩:=h_1;obtain⟨d5,alt⟩:=turn i n zs H5 w5;rcases alt with⟨stop,q⟩ | ⟨go,hz,N,hN,step⟩
  ·refine thn (T.done (cxC X (ns++ys) sc cl G.objs.size s2 H2 fp) rfl rfl rfl hc i [] s5 _ H5 _ I5 (stat fr5) st5 stop) λr s6 h0_=>?_;obtain⟨hr,I6⟩:=h0_;subst hr;obtain⟨m6,hn6,_⟩:=I6.loc;have J6:Inv X pins σ H5 s6:=C6 I2 f2 (iE ltC) I6 (Heap.SameBut.refl _ _);have lL:X.env.locals < s2.heap.objs.size:=I2.lt;have cL:∀x c,X.env.cells.lookup x=some c->c < s2.heap.objs.size:=λx c e=>by
    obtain⟨_,o,ho,_⟩:=I2.cell x c e;exact bX ho
   show aM _ X.A (tP (.Name y0 py) X.env (.ref s2.heap.objs.size)) _ _ s6;refine wpAny_assign_Name (Bk (v:=.ref s2.heap.objs.size) J6 hN hi0 (.inl hy0) rfl (λs8 I8 h0_=>?_) (.inr hy0));obtain⟨b8,sb8,hb8⟩:=h0_;have nb:G.objs.size≠b8:=λe=>by
    rcases hb8 with z | z
    ·exact absurd (e.trans z) (gT (iZ lL ltC))
    ·exact absurd e (gT (iZ (cL _ _ z) ltC))
   refine⟨m6,hn6.sameBut sb8 nb,λh9 hs9=>⟨_,H5,?_,q⟩⟩;refine I8.turned (it:=G.objs.size) (t':=s8.toks) (λb o hb e=>(hs9.2 b hb).trans e) I6.free (gT (iZ lL ltC)) (.inr (bK I2.sz (iE ltC))) (λx c e=>cK (iZ (cL x c e) ltC)) λp hp=>?_;obtain⟨e,_⟩:=I2.pin p hp;exact cK (iZ (bX e) ltC)
  ·refine thn (T.item (cxC X (ns++ys) sc cl G.objs.size s2 H2 fp) rfl rfl rfl hc i [] s5 _ H5 _ I5 (stat fr5) st5 go) λr s6 h0_=>?_;obtain⟨u,hr,h6⟩:=h0_;subst hr;refine thn h6 λ_ s7 h0_=>?_;obtain⟨x,H7,I7,r7,y7,st7,fr7⟩:=h0_;have I7':=I7.pinned (stat fr7) (T.obj _ _ st7);refine thn (hg _ _ _ _ _ s7 _ H7 x u _ I7' r7 (step x H7 y7)) λ_ s8 h0_=>?_;obtain⟨σ8,H8,I8,⟨ts,eσ,lts⟩,q8⟩:=h0_;have again:∀{H9:Hp}{s9:aI}{zs':List V}{m':Nat},m' < n->Inv (cxC X (ns++ys) sc cl G.objs.size s2 H2 fp) ([]++r9 fp s7.heap) σ8 H9 s9->W (i+1) m' zs' H9->
     ∃m,m < n/\∃i zs H',Inv (cxC X (ns++ys) sc cl G.objs.size s2 H2 fp) [] (dQ ns.length none++pick σ fr) H' s9/\tn i s9.heap/\(∀b∈fp,H' b=none)/\W i m zs H':=λ{H9 s9 zs' m'} hm I9 w9=>by
    refine⟨m',hm,i+1,zs',H9,I9.unpinned.weak ?_ ?_,T.keep _ _ _ st7 λb hb o e=>(I9.pin (b,o) (eJ _ (eJ _ (jp hb e)))).1,λb hb=>?_,w9⟩
    ·rw[eσ,aN,aN,gN,lts]
    ·intro j v e;rw[eσ];by_cases hj:j < ns.length
     ·rw[eP (by simpa using hj),kX,if_pos hj]at e;cases e
     ·have hj':ns.length<=j:=rE hj;rw[gB (by simpa using hj'),gN]at e;rw[gB (by rw[lts];exact hj'),lts];exact e
    ·obtain⟨o,e,d⟩:=T.obj _ _ st7 b hb;exact(I9.pin (b,o) (eJ _ (eJ _ (jp hb e)))).2.1
   refine thn (ht _ _ _ _ _ s8 σ8 H8 _ I8 q8) λok s9 h0_=>?_;obtain⟨H9,I9,q9⟩:=h0_;cases ok with
   |false=>
    rw[if_neg cU]at q9 ⊢;obtain⟨m',hm,w9⟩:=hN _ _ q9;exact again hm I9 w9
   |true=>
    rw[if_pos rfl]at q9 ⊢;refine thn (he _ _ _ _ _ s9 σ8 H9 _ I9 q9) λyv s10 h0_=>?_;obtain⟨y,H10,I10,r10,d10,w10⟩:=h0_;refine thn (dy _ s10 σ8 H10 (.ref s2.heap.objs.size) [y] (.ref s2.heap.objs.size) [yv] (λ_ H11=>N (zs++[y]) H11) I10 rfl (.cons r10 .nil) ⟨_,zs,y,rfl,rfl,d10,hz,w10⟩) λ_ s11 h0_=>?_;obtain⟨_,H11,I11,_,w11⟩:=h0_;obtain⟨m',hm,w12⟩:=hN _ _ w11;exact again hm I11 w12
 exact codeAny_compStart_list (loop _ rfl) (T.self X.A 0 _ _ _ st3 (loop _ rfl))
end L2
namespace L2
open PySem PySem.Spec PyProof.Rows
section
variable {X:Cx}
def rLL (K:aA)(b:Bool):R2:=λx y H Q=>∃l r xs ys,x=.ref l/\y=.ref r/\SqL K H l xs/\SqL K H r ys/\((xs.length≠ys.length/\Q (.bl (!b)) H)\/∃ds,Holds K H xs ds/\Holds K H ys ds/\oz ds<=60/\Q (.bl b) H)
theorem Fy (hu:X.A.units+64 < iJ):OpR X (kZ .Eq) (rLL X.K true):=by
 intro pins s σ H x y v u Q I rx ry h;obtain⟨a,b,xs,ys,rfl,rfl,ha,hb,h⟩:=h;cases rx;cases ry;rcases h with⟨hl,q⟩ | ⟨ds,h1,h2,hd,q⟩
 ·obtain⟨its,r1,p1,_⟩:=I.list ha;obtain⟨its2,r2,p2,_⟩:=I.list hb;have e:(its.toArray.size != its2.toArray.size)=true:=by
   rw[aY,aY,<-r1.length,<-r2.length];simpa using hl
  exact SeqAt.RcAt.lists_lengths (A:=X.A) (s:=s) p1.isList p2.isList e (by lia) _ _ _ _ (show EP X pins σ Q (.bool false) s from⟨.bl false,H,I,rfl,q⟩)
 ·exact Am I ha hb h1 h2 (by lia) (λd hm x y u v kx ky qx qy=>pw I 60 (bK (nj hm) (by lia)) (by rw[lK];lia) kx ky qx qy) _ _ _ _ (show EP X pins σ Q (.bool true) s from⟨.bl true,H,I,rfl,q⟩)
theorem A3 (hu:X.A.units+64 < iJ):OpR X (kZ .NotEq) (rLL X.K false):=by
 intro pins s σ H x y v u Q I rx ry h;obtain⟨a,b,xs,ys,rfl,rfl,ha,hb,h⟩:=h;cases rx;cases ry;obtain⟨its,r1,p1,_⟩:=I.list ha;obtain⟨its2,r2,p2,_⟩:=I.list hb;rcases h with⟨hl,q⟩ | ⟨ds,h1,h2,hd,q⟩
 ·have e:(its.toArray.size != its2.toArray.size)=true:=by
   rw[aY,aY,<-r1.length,<-r2.length];simpa using hl
  exact SeqAt.RcNeAt.lists_lengths (A:=X.A) (s:=s) p1.isList p2.isList e (by lia) _ _ _ _ (show EP X pins σ Q (.bool true) s from⟨.bl true,H,I,rfl,q⟩)
 ·have e:its.toArray.size=its2.toArray.size:=by
   rw[aY,aY,<-r1.length,<-r2.length,h1.length,h2.length]
  have el:=ud (s:=s) (A:=X.A.in1) h1 h2 r1 r2 λd hm x y u v kx ky qx qy=>pw I 60 (bK (nj hm) hd) (by rw[lK];lia) kx ky qx qy;have qn:=SeqAt.RcNeAt.lists (s:=s) (A:=X.A) (e:=λ_=>true) p1.isList p2.isList e (by lia) el;rw[nU.mpr (λ_ _=>rfl)]at qn;have qm:SeqAt.RcNeAt X.A s (.ref a) (.ref b) false:=(by simpa using qn);exact qm _ _ _ _ (show EP X pins σ Q (.bool false) s from⟨.bl false,H,I,rfl,q⟩)
end
end L2
namespace S25
open PySem L2
abbrev noV:List V:=[.str "put",.str "again",.str "note"]
abbrev D6:List V:=[.str "is",.str "all",.str "none"]
def Say.no1:Say->Bool
 | .put _ _=>true | .again _=>true | .note=>true
 |_=>false
def Say.yes1:Say->Bool
 | .is _ _=>true | .every=>true | .nought=>true
 |_=>false
theorem U5 (s:Say):inV (.str s.sort) noV=s.no1:=by cases s<;>kernel_rfl
theorem Sd (s:Say):inV (.str s.sort) D6=s.yes1:=by cases s<;>kernel_rfl
theorem Se {s:Say}(h:s.no1=true):s.isT=false:=by cases s<;>first | rfl | cases h
theorem Oo {s:Say}(h:s.yes1=true):s.isT=true:=by cases s<;>first | rfl | cases h
theorem Sf {s:Say}(h1:s.no1=false)(h2:s.yes1=false):s.hasK=true/\s.isT=s.kids.all Say.isT:=by
 cases s<;>first | (simp[Say.no1]at h1;done) | (simp[Say.yes1]at h2;done) | (refine⟨rfl,?_⟩;simp[Say.isT,Say.kids])
theorem D7 {s k:Say}(h:k∈s.kids):k.size < s.size:=by
 cases s<;>simp[Say.kids]at h<;>simp only[Say.size]
 ·subst h;lia
 ·subst h;lia
 ·rcases h with h | h<;>subst h<;>lia
 ·rcases h with h | h<;>subst h<;>lia
theorem Fz (s:Say):s.kids.length<=2:=by cases s<;>simp[Say.kids]
theorem Op (l:List Say):decide (V.int (((l.filter λk=>!k.isT).length:Nat):Int)=V.int 0)=l.all Say.isT:=by
 rw[jM,decide_eq_true_iff,nU];constructor
 ·intro h k hk;have z:((l.filter λk=>!k.isT).length:Int)=0:=(by injection h);have z':l.filter (λk=>!k.isT)=[]:=gM.mp (by lia);have:=List.filter_eq_nil_iff.mp z' k hk;simpa using this
 ·intro h;have z:l.filter (λk=>!k.isT)=[]:=List.filter_eq_nil_iff.mpr λk hk=>(by rw[h k hk];decide);rw[z];rfl
def Oq (K:aA)(n:Nat):Sp:=λvs H Q _=>∃(x:V)(s:Say),vs=[x]/\Hold K H x s.da/\s.size<=n/\∀H':Hp,Same H H'->Q (.bl s.isT) H'
def U6:gG:={ kind:=.function,names:=[(".0",.local),("_law_one",.local),("_law_is_test",.globalImplicit)],isGenerator:=false,isCoroutine:=false,more:=[] }
theorem D8 {s:Say}{xs:List V}:¬(HT.sIx (V.str s.sort::xs).length 0 (some 1)=0/\HT.sIx (V.str s.sort::xs).length (V.str s.sort::xs).length none=(V.str s.sort::xs).length):=λz=>by
 have e:HT.sIx (V.str s.sort::xs).length 0 (some 1)=1:=by
  rw[show(some (1:Int))=some (((1:Nat):Int))from rfl,HT.sIx_nat,dX];lia
 rw[e]at z;exact absurd z.1 (by decide)
section
variable {P:aS}{w:bZ}{K:aA}{mg:Str->Option aB}{base:Heap}
theorem csIT {X:Cx}:cb X ["_law_one"] [] [] U6 []:=jo rfl (by decide +kernel) (by decide +kernel) (by decide +kernel)
theorem U7:ar ["_law_saying_here"] ["_law_saying_here"] (aj Ii):=⟨rfl,rfl,rfl,by decide +kernel,rfl,by decide +kernel,by decide +kernel⟩
theorem Qf {f:Addr}{fd:cC}(F:Fun K "_law_is_test" "_law_is_test" Ii f fd)(bF:Binds K fd ["_law_saying_here"] [])(kF:aU K (.ref f)=true)(mF:mg "_law_is_test"=some (.ref f))(ml:mg "len"=none) :
  ∀n:Nat,FnOk P w K mg base CX0 (n+1) f fd ["_law_saying_here"] (Oq K n)
 |0=>by
  refine F.ok U7 (λvs H Q E h=>?_) (λcdv A outer s H vs Q E hr h=>?_)
  ·obtain⟨x,s,rfl,_⟩:=h;rfl
  ·obtain⟨x,sy,rfl,hx,hn,q⟩:=h;have:=nn sy;lia
 |n+1=>by
  have G:=Qf F bF kF mF ml n;refine F.ok U7 (λvs H Q E h=>?_) (λcdv A outer s H vs Q E hr h=>?_)
  ·obtain⟨x,s,rfl,_⟩:=h;rfl
  obtain⟨x,sy,rfl,hx,hn,q⟩:=h;refine⟨_,ah (cj (bi lg (aq cf (pv 0) ag (λ_ _=>rfl)) (av (bj be (bj be (bj be af)))) (by with_unfolding_all rfl)) (ai (au j6)) bo) (ah (cj (bi lg (aq cf (pv 0) ag (λ_ _=>rfl)) (av (bj be (bj be (bj be af)))) (by with_unfolding_all rfl)) (ai (au j6)) bo) (ai (au (fo df (bp br rfl ml eX (ac (cy (ns:=["_law_one"]) (ys:=[]) (sc:=U6) csIT rfl (on (cq vc (pv 0) (c7 ag) dh)) (λC s H fp=>ay (i:=0) (by show(["_law_one"]:List Str).Nodup;decide +kernel) rfl (bV rfl)) (λC s H fp=>nh (u9 (jh (ao G hr rfl mF kF bF .nil az (ac (pv 0) af))))) (λC s H fp=>pv 0)) af)) ag (bn _))))),?_⟩
  dsimp only[bf,Cx.nox];obtain⟨a,xs,rfl,ha,hk⟩:=i5 hx;refine⟨_,rfl,a,_,_,_,rfl,rfl,ha,d9 _ _,sz3,λl1 hl1=>⟨l1,noV,rfl,.inl (SqL.of ae),rfl,by decide +kernel,_,rfl,?_⟩⟩;show if inV (.str sy.sort) noV=true then _ else _
  rw[U5];have s1:=ad hl1 (.lst noV);refine c9 (λc=>?_) (λc=>?_)
  ·have:=q _ s1;rw[Se c]at this;exact this
  have c1:sy.no1=false:=(by simpa using c);refine⟨_,rfl,a,_,_,_,rfl,rfl,ha.same s1,d9 _ _,sz3,λl2 hl2=>⟨l2,D6,rfl,.inl (SqL.of ae),rfl,by decide +kernel,_,rfl,?_⟩⟩;show if inV (.str sy.sort) D6=true then _ else _
  rw[Sd];have s2:=Same.trans s1 (ad hl2 (.lst D6));refine c9 (λc=>?_) (λc=>?_)
  ·have:=q _ s2;rw[Oo c]at this;exact this
  have c2:sy.yes1=false:=(by simpa using c);obtain⟨hK,eT⟩:=Sf c1 c2;refine⟨_,rfl,_,rfl,a,_,rfl,ha.same s2,D8,λp hp=>?_⟩;rw[Oe];have s3:=Same.trans s2 (ad hp (.tup xs));have hk3:=Holds.mono s3 (hk hK);refine⟨p,rfl,⟨_,SqT.of ae⟩,λD hD=>?_⟩;generalize hG3:upd (upd (upd H l1 (.lst noV)) l2 (.lst D6)) p (.tup xs)=G3 at hD s3 hk3 ⊢;have hp3:G3 p=some (.tup xs):=(by rw[<-hG3,ae]);have lx:xs.length=sy.kids.length:=(by rw[hk3.length,aG]);have l2':=Fz sy;refine qf (K:=K) (a:=p) (xs:=xs) (λi ys G2=>Same G3 G2/\G2 D=some (.lst ys)/\ys.length=((sy.kids.take i).filter λk=>!k.isT).length) ⟨ad hD _,ae,rfl⟩ (λi ys G2 z=>z.2.1) (λi ys G2 _ z=>SqT.of (z.1 _ _ hp3)) ?_ ?_
  ·intro i x' ys G2 hx' h_1;obtain⟨sG,d2,e2⟩:=h_1;obtain⟨k,ek,hk'⟩:=hk3.getm hx';have km:k∈sy.kids:=bQ ek;have kz:=D7 km;have yl:ys.length<=2:=by
    rw[e2];exact bK (jR _ _) (by rw[cQ];lia)
   have e3:((sy.kids.take (i+1)).filter λk=>!k.isT).length=ys.length+(if (!k.isT)=true then 1 else 0):=by
    rw[dJ,ek,nB,aN,<-e2];cases q:k.isT<;>simp[q]
   refine⟨bg (by lia),⟨[some _],rfl,rfl⟩,?_⟩;refine⟨_,rfl,x',k,rfl,Hold.mono sG hk',by lia,λG4 s4=>⟨_,rfl,?_⟩⟩;refine c9 (λc=>?_) (λc=>?_)
   ·refine⟨_,rfl,s4 _ _ d2,Same.put (Same.trans sG s4) hD _,ae,?_⟩;rw[e3,if_pos c,aN];rfl
   ·refine⟨Same.trans sG s4,s4 _ _ d2,?_⟩;rw[e3,if_neg c];rfl
  ·intro ys G2 h_1;obtain⟨sG,d2,e2⟩:=h_1;refine⟨D,ys,rfl,.inl (SqL.of d2),rfl,?_⟩;rw[e2,lx,dZ,Op,<-eT];exact q G2 (Same.trans s3 sG)
end
end S25
namespace L2
open PySem PySem.Spec PyProof.Rows
open Sem (wp)
section
variable {prog:aS}{w:bZ}{A:cW}{E:aB->aI->Prop}{s:aI}
structure A4 (h:Heap)(z TI TO i1 i2 l1 l2:Addr)(k:Nat):Prop where
 zip:tM h z TI TO .none
 its:pN h TI (.ref i1) (.ref i2)
 out:∃a b,pN h TO a b
 one:h.IsListIter i1 l1 k
 two:h.IsListIter i2 l2 k
theorem Le {z TI TO i1 i2 l1 l2:Addr}{k:Nat}{xs ys:Array aB}{x y:aB}{Q:aB->aI->Prop}(D:wE z TI TO i1 i2 l1 l2)(Z:A4 s.heap z TI TO i1 i2 l1 l2 k)
  (hl1:s.heap.IsList l1 xs) (hl2:s.heap.IsList l2 ys) (hx:xs[k]?=some x) (hy:ys[k]?=some y)
  (hQ:∀h',tM h' z TI TO (jC s.heap.objs.size)->pN h' TO x y->h'.IsListIter i1 l1 (k+1)->h'.IsListIter i2 l2 (k+1)->pN h' s.heap.objs.size x y->(∀c o,c≠z->c≠TO->c≠i1->c≠i2->s.heap.get? c=some o->h'.get? c=some o)->Q (.ref s.heap.objs.size) { s with heap:=h' }) :
  aM (aX prog w) A (jA.«zip.__next__» ⟨[.ref z],[]⟩) (λfin s'=>∃v,fin=.done (.ret v)/\Q v s') E s:=by
 obtain⟨hz,hTI,⟨a,b,hTO⟩,h1,h2⟩:=Z;show aM _ _ (field (.ref z) 2 >>= _) _ _ _;refine aC (eC hz rfl (x:=.bool false) rfl ?_);show aM _ _ (field (.ref z) 3 >>= _) _ _ _;refine aC (eC hz rfl (x:=.ref TI) rfl ?_);refine aC (jI hTI rfl ?_);show aM _ _ (gE (.ref z) >>= _) _ _ _;refine aC ?_;unfold gE;refine aC (eC hz rfl (x:=.none) rfl (wpAny_pure ?_));simp only[if_true];refine aC (pE ?_);refine aC (eC hz rfl (x:=.ref TO) rfl ?_);refine aC (fQ hz (by simp) λha za sa=>?_)
 replace za:tM ha z TI TO .ellipsis:=za
 refine aC ?_;simp only[List.zipIdx_cons,List.zipIdx_nil,List.forIn_cons,List.forIn_nil];refine aC (aC (pL ?_));show aM _ _ (iC (.ref i1) >>= _) _ _ _;refine aC (oP (h1.extBut sa.extBut D.i1z) (hl1.extBut sa.extBut D.l1z) hx λhb h1b sb=>wpAny_pure ?_);have ob:pN hb TO a b:=sb.extBut _ _ D.TOi1 (sa.extBut _ _ D.TOz hTO);refine aC (jI ob rfl ?_);refine aC (sK ob λhc oc sc=>?_)
 replace oc:pN hc TO x b:=oc
 refine aC (tL (wpAny_pure ?_));refine aC (aC (pL ?_));show aM _ _ (iC (.ref i2) >>= _) _ _ _;refine aC (oP (((h2.extBut sa.extBut D.i2z).extBut sb.extBut D.i12.symm).extBut sc.extBut D.TOi2.symm) (((hl2.extBut sa.extBut D.l2z).extBut sb.extBut D.l2i1).extBut sc.extBut D.l2TO) hy λhd h2d sd=>wpAny_pure ?_);have od:pN hd TO x b:=sd.extBut _ _ D.TOi2 oc;refine aC (jI od rfl ?_);refine aC (sK od λhe oe se=>?_)
 replace oe:pN he TO x y:=oe
 refine aC (tL (wpAny_pure (wpAny_pure ?_)));refine aC (jI oe rfl ?_);refine aC (vX ?_);have zz:he.objs.size=s.heap.objs.size:=(by rw[se.1,sd.1,sc.1,sb.1,sa.1]);have ze:tM he z TI TO .ellipsis:=se.extBut _ _ D.TOz.symm (sd.extBut _ _ D.i2z.symm (sc.extBut _ _ D.TOz.symm (sb.extBut _ _ D.i1z.symm za)));have ke:∀c o,c≠z->c≠TO->c≠i1->c≠i2->s.heap.get? c=some o->he.get? c=some o:=λc o c1 c2 c3 c4 q=>
  se.extBut _ _ c2 (sd.extBut _ _ c4 (sc.extBut _ _ c2 (sb.extBut _ _ c3 (sa.extBut _ _ c1 q))))
 have e1:he.IsListIter i1 l1 (k+1):=((h1b.extBut sc.extBut D.TOi1.symm).extBut sd.extBut D.i12).extBut se.extBut D.TOi1.symm;have e2:he.IsListIter i2 l2 (k+1):=h2d.extBut se.extBut D.TOi2.symm;have zlt:z < he.objs.size:=bX ze;show aM _ _ (gX (.ref z) (.ref he.objs.size) >>= _) _ _ _;refine aC ?_;unfold gX;have zf:tM (he.push { cls:=.type "tuple",data:=.seq #[x,y] }) z TI TO .ellipsis:=aJ _ ze;refine aC (fQ zf (by simp) λhg zg sg=>?_)
 replace zg:tM hg z TI TO (jC he.objs.size):=zg
 refine fQ zg (by simp) λhk zk sk=>?_
 replace zk:tM hk z TI TO (jC he.objs.size):=zk
 have up:∀c o,c≠z->he.get? c=some o->hk.get? c=some o:=λc o c1 q=>sk.extBut _ _ c1 (sg.extBut _ _ c1 (aJ _ q));have tk:pN hk he.objs.size x y:=sk.extBut _ _ (gT zlt) (sg.extBut _ _ (gT zlt) (cJ _ rfl));rw[zz]at zk tk;refine wpAny_pure ⟨_,rfl,?_⟩;show Q (.ref he.objs.size) _;rw[zz];obtain⟨w1,v1,r1⟩:=e1;obtain⟨w2,v2,r2⟩:=e2;exact hQ hk zk (up _ _ D.TOz oe) ⟨w1,up _ _ D.i1z v1,r1⟩ ⟨w2,up _ _ D.i2z v2,r2⟩ tk λc o c1 c2 c3 c4 q=>up c o c1 (ke c o c1 c2 c3 c4 q)
theorem Lf {z TI TO i1 i2 l1 l2:Addr}{k:Nat}{xs ys:Array aB}{x y:aB}{Q:Option aB->aI->Prop}(D:wE z TI TO i1 i2 l1 l2)(Z:A4 s.heap z TI TO i1 i2 l1 l2 k)
  (hl1:s.heap.IsList l1 xs) (hl2:s.heap.IsList l2 ys) (hx:xs[k]?=some x) (hy:ys[k]?=some y)
  (hQ:∀h',tM h' z TI TO (jC s.heap.objs.size)->pN h' TO x y->h'.IsListIter i1 l1 (k+1)->h'.IsListIter i2 l2 (k+1)->pN h' s.heap.objs.size x y->(∀c o,c≠z->c≠TO->c≠i1->c≠i2->s.heap.get? c=some o->h'.get? c=some o)->Q (some (.ref s.heap.objs.size)) { s with heap:=h' }):aM (aX prog w) A (mQ (.ref z)) Q E s:=by
 have hT:s.TypeIs (.ref z) "zip":=⟨_,Z.zip,rfl⟩;unfold mQ;exact aC (pM (gQ (name:=iN "__next__") hT F.slot_zip_next (iI F.slot_zip_next hT F.entry_zip_next (Le D Z hl1 hl2 hx hy λh' a1 a2 a3 a4 a5 a6=>wpAny_pure (hQ h' a1 a2 a3 a4 a5 a6)) (F.args_zip_next_1 _))))
theorem Lg {z TI TO i1 i2 l1 l2:Addr}{k:Nat}{xs ys:Array aB}{Q:Fin->aI->Prop}(hh:A.handled=none)(D:wE z TI TO i1 i2 l1 l2)(Z:A4 s.heap z TI TO i1 i2 l1 l2 k)
  (hl1:s.heap.IsList l1 xs) (hl2:s.heap.IsList l2 ys) (hend:xs[k]?=none\/ys[k]?=none)
  (hE:∀h' e,(∀c o,c≠z->c≠TO->c≠i1->c≠i2->s.heap.get? c=some o->h'.get? c=some o)->(∃o,h'.get? e=some o/\o.cls=.type "StopIteration")->E (.ref e) { s with heap:=h' }) :
  aM (aX prog w) A (jA.«zip.__next__» ⟨[.ref z],[]⟩) Q E s:=by
 obtain⟨hz,hTI,⟨a,b,hTO⟩,h1,h2⟩:=Z;show aM _ _ (field (.ref z) 2 >>= _) _ _ _;refine aC (eC hz rfl (x:=.bool false) rfl ?_);show aM _ _ (field (.ref z) 3 >>= _) _ _ _;refine aC (eC hz rfl (x:=.ref TI) rfl ?_);refine aC (jI hTI rfl ?_);show aM _ _ (gE (.ref z) >>= _) _ _ _;refine aC ?_;unfold gE;refine aC (eC hz rfl (x:=.none) rfl (wpAny_pure ?_));simp only[if_true];refine aC (pE ?_);refine aC (eC hz rfl (x:=.ref TO) rfl ?_);refine aC (fQ hz (by simp) λha za sa=>?_)
 replace za:tM ha z TI TO .ellipsis:=za
 refine aC ?_;simp only[List.zipIdx_cons,List.zipIdx_nil,List.forIn_cons,List.forIn_nil];refine aC (aC (pL ?_));show aM _ _ (iC (.ref i1) >>= _) _ _ _;cases hx:xs[k]? with
 |none=>
  refine aC (rP hh (h1.extBut sa.extBut D.i1z) (hl1.extBut sa.extBut D.l1z) hx λhb e sb he=>?_);obtain⟨oe,he1,he2⟩:=he;have zb:tM hb z TI TO .ellipsis:=sb _ _ D.i1z.symm za;have hez:e≠z:=λq=>(by subst q;rw[zb]at he1;cases he1;simp at he2);refine fQ zb (by simp) λhc _ sc=>hE hc e (λc o c1 _ c3 _ q=>sc.extBut _ _ c1 (sb _ _ c3 (sa.extBut _ _ c1 q))) ⟨oe,sc.extBut _ _ hez he1,he2⟩
 |some x=>
  have hy:ys[k]?=none:=by
   rcases hend with q | q
   ·rw[hx]at q;cases q
   ·exact q
  refine aC (oP (h1.extBut sa.extBut D.i1z) (hl1.extBut sa.extBut D.l1z) hx λhb h1b sb=>wpAny_pure ?_);have ob:pN hb TO a b:=sb.extBut _ _ D.TOi1 (sa.extBut _ _ D.TOz hTO);refine aC (jI ob rfl ?_);refine aC (sK ob λhc oc sc=>?_);refine aC (tL (wpAny_pure ?_));refine aC (aC (pL ?_));show aM _ _ (iC (.ref i2) >>= _) _ _ _;refine aC (rP hh (((h2.extBut sa.extBut D.i2z).extBut sb.extBut D.i12.symm).extBut sc.extBut D.TOi2.symm) (((hl2.extBut sa.extBut D.l2z).extBut sb.extBut D.l2i1).extBut sc.extBut D.l2TO) hy λhd e sd he=>?_);obtain⟨oe,he1,he2⟩:=he;have zd:tM hd z TI TO .ellipsis:=sd _ _ D.i2z.symm (sc.extBut _ _ D.TOz.symm (sb.extBut _ _ D.i1z.symm za));have hez:e≠z:=λq=>(by subst q;rw[zd]at he1;cases he1;simp at he2);refine fQ zd (by simp) λhf _ sf=>hE hf e (λc o c1 c2 c3 c4 q=>sf.extBut _ _ c1 (sd _ _ c4 (sc.extBut _ _ c2 (sb.extBut _ _ c3 (sa.extBut _ _ c1 q))))) ⟨oe,sf.extBut _ _ hez he1,he2⟩
theorem Os {z TI TO i1 i2 l1 l2:Addr}{k:Nat}{xs ys:Array aB}{Q:Option aB->aI->Prop}(hh:A.handled=none)(D:wE z TI TO i1 i2 l1 l2)(Z:A4 s.heap z TI TO i1 i2 l1 l2 k)
  (hl1:s.heap.IsList l1 xs) (hl2:s.heap.IsList l2 ys) (hend:xs[k]?=none\/ys[k]?=none)
  (hQ:∀h',(∀c o,c≠z->c≠TO->c≠i1->c≠i2->s.heap.get? c=some o->h'.get? c=some o)->Q none { s with heap:=h' }):aM (aX prog w) A (mQ (.ref z)) Q E s:=by
 have hT:s.TypeIs (.ref z) "zip":=⟨_,Z.zip,rfl⟩;unfold mQ;refine aC (pM (gQ (name:=iN "__next__") hT F.slot_zip_next (iI F.slot_zip_next hT F.entry_zip_next (Lg hh D Z hl1 hl2 hend λh' e kk he=>?_) (F.args_zip_next_1 _))));obtain⟨o,ho,hc⟩:=he;refine aC (lZ (T:="StopIteration") (b:=true) ⟨o,ho,hc⟩ vY ?_);exact wpAny_pure (hQ _ kk)
end
abbrev zL1 (h:Heap)(a:Addr):Heap:=h.push { cls:=.type "list_iterator",data:=.fields #[.ref a,.int 0 0] }
abbrev zL2 (h:Heap)(a b:Addr):Heap:=(zL1 h a).push { cls:=.type "list_iterator",data:=.fields #[.ref b,.int 0 0] }
abbrev zL3 (h:Heap)(a b:Addr):Heap:=(zL2 h a b).push { cls:=.type "tuple",data:=.seq #[.ref h.objs.size,.ref (zL1 h a).objs.size] }
abbrev zL4 (h:Heap)(a b:Addr):Heap:=(zL3 h a b).push { cls:=.type "tuple",data:=.seq #[.none,.none] }
abbrev zL5 (h:Heap)(a b:Addr):Heap:=(zL4 h a b).push { cls:=.type "zip",data:=.fields #[.none,.bool false,.bool false,.ref (zL2 h a b).objs.size,.ref (zL3 h a b).objs.size] }
theorem Iy (a b:Addr)(xs ys:Array aB) :
  Meets (jA.«zip.__new__» ⟨[.type "zip",.ref a,.ref b],[]⟩) (λ_ R s=>s.heap.IsList a xs/\s.heap.IsList b ys/\R (.ok (.ret (.ref (zL4 s.heap a b).objs.size))) { s with heap:=zL5 s.heap a b }):=
 .of_wp λprog w A R s h=>by
  obtain⟨hp,gs,dr,tk,os⟩:=s;obtain⟨h1,h2,h⟩:=h;have hsub:=sub_zip;have k1:xJ (vQ ⟨hp,gs,dr,tk,os⟩) a xs:=h1;have k2:xJ (vQ ⟨hp.push { cls:=.type "list_iterator",data:=.fields #[.ref a,.int 0 0] },gs,dr,tk,os⟩) b ys:=nV h2 _
  wp_walk using hX k1,hX k2
  exact⟨_,rfl,h⟩
section
variable {prog:aS}{w:bZ}{A:cW}{E:aB->aI->Prop}{s:aI}
theorem Lh {a b:Addr}{xs ys:Array aB}{Q:aB->aI->Prop}(h1:s.heap.IsList a xs)(h2:s.heap.IsList b ys)
  (h:∀h',A4 h' (s.heap.objs.size+4) (s.heap.objs.size+2) (s.heap.objs.size+3) s.heap.objs.size (s.heap.objs.size+1) a b 0->(∀c o,s.heap.get? c=some o->h'.get? c=some o)->h'.objs.size=s.heap.objs.size+5->Q (.ref (s.heap.objs.size+4)) { s with heap:=h' }):aM (aX prog w) A (call (.type "zip") [.ref a,.ref b]) Q E s:=by
 refine xA F.called_zip (by decide) (F.typeCall_zip_2 _ _) (F.newCall_zip_2 _ _) (λobj=>F.args_object_init_3 obj _ _) F.entry_zip_new (Iy a b xs ys) ⟨h1,h2,?_⟩;have z1:(zL1 s.heap a).objs.size=s.heap.objs.size+1:=gP ..;have z2:(zL2 s.heap a b).objs.size=s.heap.objs.size+2:=(by rw[gP,z1]);have z3:(zL3 s.heap a b).objs.size=s.heap.objs.size+3:=(by rw[gP,z2]);have z4:(zL4 s.heap a b).objs.size=s.heap.objs.size+4:=(by rw[gP,z3]);have z5:(zL5 s.heap a b).objs.size=s.heap.objs.size+5:=(by rw[gP,z4]);have g5:(zL5 s.heap a b).get? (zL4 s.heap a b).objs.size=some _:=cJ _ rfl;have g4:(zL5 s.heap a b).get? (zL3 s.heap a b).objs.size=some _:=aJ _ (cJ _ rfl);have g3:(zL5 s.heap a b).get? (zL2 s.heap a b).objs.size=some _:=aJ _ (aJ _ (cJ _ rfl));have g2:(zL5 s.heap a b).get? (zL1 s.heap a).objs.size=some _:=aJ _ (aJ _ (aJ _ (cJ _ rfl)));have g1:(zL5 s.heap a b).get? s.heap.objs.size=some _:=aJ _ (aJ _ (aJ _ (aJ _ (cJ _ rfl))));show _/\_;rw[z2,z3,z4]at g5;rw[z1,z2]at g3;rw[z3]at g4;rw[z1]at g2;rw[z4];exact⟨⟨_,g5,rfl⟩,h _ ⟨g5,g3,⟨_,_,g4⟩,⟨_,g1,rfl,rfl⟩,⟨_,g2,rfl,rfl⟩⟩ (λc o q=>aJ _ (aJ _ (aJ _ (aJ _ (aJ _ q))))) z5⟩
end
def Ot (K:aA)(a b:Addr):It:=
 ⟨λi H=>∃xs ys x y,SqL K H a xs/\SqL K H b ys/\xs[i]?=some x/\ys[i]?=some y,λi H v H'=>∃p x y,H p=none/\v=.ref p/\(∀xs,SqL K H a xs->xs[i]?=some x)/\(∀ys,SqL K H b ys->ys[i]?=some y)/\H'=upd H p (.tup [x,y]),λi H=>∃xs ys,SqL K H a xs/\SqL K H b ys/\(xs.length<=i\/ys.length<=i)⟩
theorem Li {P:aS}{w:bZ}{K:aA}{es:List Expr}{j:Nat}{pos:Pos}{z TI TO i1 i2 a b:Addr}(D:wE z TI TO i1 i2 a b) :
  t9 P w K (.Tuple es j pos) (Ot K a b) [z,TI,TO,i1,i2] z (λk h=>A4 h z TI TO i1 i2 a b k) where
 mem:=by simp
 obj:=λk h Z c hc=>by
  obtain⟨u1,u2,⟨_,_,u3⟩,⟨o4,u4,_,v4⟩,⟨o5,u5,_,v5⟩⟩:=Z;simp only[cD,eU,or_false]at hc;rcases hc with q | q | q | q | q
  ·subst q;exact⟨_,u1,λv e=>by cases(show tK _=rH v from e)⟩
  ·subst q;exact⟨_,u2,λv e=>by cases(show yO _ _=rH v from e)⟩
  ·subst q;exact⟨_,u3,λv e=>by cases(show yO _ _=rH v from e)⟩
  ·subst q;exact⟨_,u4,λv e=>by rw[v4]at e;cases e⟩
  ·subst q;exact⟨_,u5,λv e=>by rw[v5]at e;cases e⟩
 keep:=λk h h' Z kk=>by
  obtain⟨u1,u2,⟨c1,c2,u3⟩,⟨o4,u4,r4⟩,⟨o5,u5,r5⟩⟩:=Z;exact⟨kk z (by simp) _ u1,kk TI (by simp) _ u2,⟨c1,c2,kk TO (by simp) _ u3⟩,⟨o4,kk i1 (by simp) _ u4,r4⟩,⟨o5,kk i2 (by simp) _ u5,r5⟩⟩
 item:=by
  intro X hP hw hK hc k pins s σ H E I hf Z hg;subst hP hw hK;obtain⟨xs,ys,x,y,hx,hy,ex,ey⟩:=hg;obtain⟨its,r1,p1,_⟩:=I.list hx;obtain⟨its2,r2,p2,_⟩:=I.list hy;obtain⟨u,eu,ru⟩:=r1.get ex;obtain⟨v,ev,rv⟩:=r2.get ey;refine Lf D Z (p1.isList) (p2.isList) (x:=u) (y:=v) (by simpa using eu) (by simpa using ev) λh1 b1 b2 b3 b4 b5 kk=>?_;refine⟨_,rfl,wpAny_letOwnedTupleGo_zip b1 λh2 c1 sb=>?_⟩;have ks:∀c o,c ∉ [z,TI,TO,i1,i2]->s.heap.get? c=some o->h2.get? c=some o:=λc o hc q=>by
   simp only[cD,eU,or_false,not_or]at hc;exact sb.extBut _ _ hc.1 (kk c o hc.1 hc.2.2.1 hc.2.2.2.1 hc.2.2.2.2 q)
  have nz:s.heap.objs.size≠z:=gT (bX Z.zip);have b6:pN h2 s.heap.objs.size u v:=sb.extBut _ _ nz b5;have I2:Inv X pins σ H { s with heap:=h2 }:=I.turnedAll (t':=s.toks) hf ks;have fT:i8 X pins H s.heap.objs.size:=I.fpOk (aO _) (I.hok.fresh (aO _));have I3:Inv X pins σ (upd H s.heap.objs.size (.tup [x,y])) { s with heap:=h2 }:=I2.track fT I.sz
   ⟨by show 2<=sizeLine;decide,[u,v],.cons ru (.cons rv .nil),⟨_,b6,rfl,_,rfl⟩⟩
  refine⟨.ref s.heap.objs.size,_,I3,rfl,⟨_,x,y,fT.1,rfl,λus hu=>by rw[I.list_inj hu hx];exact ex,λus hu=>by rw[I.list_inj hu hy];exact ey,rfl⟩,?_,λc hc=>?_⟩
  ·obtain⟨w3,v3,q3⟩:=b3;obtain⟨w4,v4,q4⟩:=b4;exact⟨c1,sb.extBut _ _ D.TIz (kk _ _ D.TIz D.TITO D.TIi1 D.TIi2 Z.its),⟨_,_,sb.extBut _ _ D.TOz b2⟩,⟨w3,sb.extBut _ _ D.i1z v3,q3⟩,⟨w4,sb.extBut _ _ D.i2z v4,q4⟩⟩
  ·obtain⟨o,q,_⟩:∃o,s.heap.get? c=some o/\True:=by
    obtain⟨u1,u2,⟨_,_,u3⟩,⟨o4,u4,_⟩,⟨o5,u5,_⟩⟩:=Z;simp only[cD,eU,or_false]at hc;rcases hc with q | q | q | q | q
    ·subst q;exact⟨_,u1,trivial⟩
    ·subst q;exact⟨_,u2,trivial⟩
    ·subst q;exact⟨_,u3,trivial⟩
    ·subst q;exact⟨_,u4,trivial⟩
    ·subst q;exact⟨_,u5,trivial⟩
   rw[al (cK (bX q))];exact(hf c hc).1
 done:=by
  intro X hP hw hK hc k pins s σ H E I hf Z hg;subst hP hw hK;obtain⟨xs,ys,hx,hy,hend⟩:=hg;obtain⟨its,r1,p1,_⟩:=I.list hx;obtain⟨its2,r2,p2,_⟩:=I.list hy;have l1:=r1.length;have l2:=r2.length;have en:its.toArray[k]?=none\/its2.toArray[k]?=none:=by
   rcases hend with q | q
   ·exact .inl (by simp;lia)
   ·exact .inr (by simp;lia)
  refine Os (I.ok.hd hc) D Z (p1.isList) (p2.isList) en λh1 kk=>⟨rfl,I.turnedAll (t':=s.toks) hf λc o hc q=>?_⟩;simp only[cD,eU,or_false,not_or]at hc;exact kk c o hc.1 hc.2.2.1 hc.2.2.2.1 hc.2.2.2.2 q
 self:=λ_ _ _ _ _ Z h=>wpAny_pyIter_zip Z.zip h
section
variable {X:Cx}
def W5 (K:aA)(ta:TA):TI:=λσ H R=>ta σ H λvs H1=>∃a b xs ys,vs=[.ref a,.ref b]/\SqL K H1 a xs/\SqL K H1 b ys/\R (Ot K a b) H1
theorem A6 {e1 e2:Expr}{ta:TA}{p pos tpos:Pos}{es:List Expr}{j:Nat}(hg:Gl X "zip")(hm:X.mg "zip"=none)(ha:PA X [e1,e2] ta)(hs:cZ [e1,e2] X.env=[(false,eval e1 X.env),(false,eval e2 X.env)]:=by rfl)
  (hs2:cZ [e2] X.env=[(false,eval e2 X.env)]:=by rfl):PI X (.Tuple es j tpos) (.Call (.Name "zip" p) [e1,e2] [] pos) (W5 X.K ta):=by
 intro pins s σ H R I h;refine Call_ (jy I hg hm (by kernel_rfl:lQ (iN "zip")=some (.type "zip")) (gU (thn (ha pos pins s σ H _ I h) λus s1 ⟨vs,H1,I1,r1,q1⟩=>?_) (by rw[hs,hs2]) (by rw[hs2];rfl)));obtain⟨a,b,xs,ys,e,hx,hy,q⟩:=q1;subst e;obtain⟨u,v,rfl,ru,rv⟩:=ub r1;cases(show u=cH a from ru);cases(show v=cH b from rv);obtain⟨its,k1,p1,_⟩:=I1.list hx;obtain⟨its2,k2,p2,_⟩:=I1.list hy;have a1:a < s1.heap.objs.size:=(by obtain⟨_,e,_⟩:=p1.isList;exact bX e);have a2:b < s1.heap.objs.size:=(by obtain⟨_,e,_⟩:=p2.isList;exact bX e);refine Lh (p1.isList) (p2.isList) λh2 Z kk sz=>?_;have I2:Inv X pins σ H1 { s1 with heap:=h2 }:=I1.kept (t':=s1.toks) kk;refine wpAny_pyIter_zip Z.zip ⟨_,_,_,_,H1,rfl,I2,Li (zipApart_new a1 a2),Z,λc hc=>?_,q⟩;refine I1.fpOk ?_ (I1.hok.fresh ?_)
 all_goals
  simp only[cD,eU,or_false]at hc;rcases hc with q | q | q | q | q<;>subst q<;>lia
end
end L2
namespace L2
open PySem PySem.Spec PyProof.Rows
open Sem (wp)
open AutoSeq1 (wpAny_loadPart')
theorem Fe (l:Addr)(items:Array aB) :
  Meets (jA.«enumerate.__new__» ⟨[.type "enumerate",.ref l],[]⟩) (λ_ R s=>s.heap.IsList l items/\R (.ok (.ret (.ref (s.heap.push { cls:=.type "list_iterator",data:=.fields #[.ref l,.int 0 0] }).objs.size))) { s with heap:=(s.heap.push { cls:=.type "list_iterator",data:=.fields #[.ref l,.int 0 0] }).push { cls:=.type "enumerate",data:=.fields #[.none,.bool false,.ref s.heap.objs.size,jC 0,.none,.none] } }):=
 .of_wp λprog w A R s h=>by
  obtain⟨hp,g,d,tk,os⟩:=s;obtain⟨hL,h⟩:=h;have hsub:=sub_enumerate;have hL':xJ (vQ ⟨hp,g,d,tk,os⟩) l items:=hL
  wp_walk using hX hL'
  refine wpAny_stack_any λst=>wpAny_pure ?_
  split
  ·rename_i c _ _ _ _ _
   cases(c == rS "enumerate")
   ·wp_walk using hX hL'
    exact⟨_,rfl,h⟩
   ·wp_walk using hX hL'
    exact⟨_,rfl,h⟩
  ·wp_walk using hX hL'
   exact⟨_,rfl,h⟩
section
variable {prog:aS}{w:bZ}{A:cW}{E:aB->aI->Prop}{s:aI}
theorem Iz {l:Addr}{items:Array aB}{Q:aB->aI->Prop}(hL:s.heap.IsList l items)
  (h:∀h',lM h' (s.heap.objs.size+1) s.heap.objs.size 0 .none->h'.IsListIter s.heap.objs.size l 0->h'.objs.size=s.heap.objs.size+2->(∀b o,s.heap.get? b=some o->h'.get? b=some o)->Q (.ref (s.heap.objs.size+1)) { s with heap:=h' }) :
  aM (aX prog w) A (call (.type "enumerate") [.ref l]) Q E s:=by
 refine xA F.called_enumerate (by decide) (F.typeCall_enumerate_1 _) (F.newCall_enumerate_1 _) (λobj=>F.args_object_init_2 obj _) F.entry_enumerate_new (Fe l items) ⟨hL,?_⟩;have hz:(s.heap.push { cls:=.type "list_iterator",data:=.fields #[.ref l,.int 0 0] }).objs.size=s.heap.objs.size+1:=gP ..;show _/\_;rw[hz];have he:lM ((s.heap.push { cls:=.type "list_iterator",data:=.fields #[.ref l,.int 0 0] }).push { cls:=.type "enumerate",data:=.fields #[.none,.bool false,.ref s.heap.objs.size,jC 0,.none,.none] }) (s.heap.objs.size+1) s.heap.objs.size 0 .none:=by
  have z:=cJ (s.heap.push { cls:=.type "list_iterator",data:=.fields #[.ref l,.int 0 0] }) (o:={ cls:=.type "enumerate",data:=.fields #[.none,.bool false,.ref s.heap.objs.size,jC 0,.none,.none] }) rfl;rw[hz]at z;exact z
 exact⟨⟨_,he,rfl⟩,h _ he ⟨_,aJ _ (cJ _ rfl),rfl,rfl⟩ (by rw[gP,hz]) λb o x=>aJ _ (aJ _ x)⟩
theorem I0 {e it l:Addr}{i:Nat}{items:Array aB}{x old:aB}{Q:aB->aI->Prop}(he:lM s.heap e it i old)(hit:s.heap.IsListIter it l i)(hl:s.heap.IsList l items)(hx:items[i]?=some x)(hne:e≠it)
  (hQ:∀h',qI h' e it ((i:Int)+1) x s.heap.objs.size->h'.IsListIter it l (i+1)->h'.get? s.heap.objs.size=some { cls:=.type "tuple",data:=.seq #[.int i s.toks,x] }->h'.objs.size=s.heap.objs.size+1->(∀b o,b≠e->b≠it->s.heap.get? b=some o->h'.get? b=some o)->Q (.ref s.heap.objs.size) { s with heap:=h',toks:=s.toks+1 }) :
  aM (aX prog w) A (jA.«enumerate.__next__» ⟨[.ref e],[]⟩) (λfin s'=>∃v,fin=.done (.ret v)/\Q v s') E s:=by
 obtain⟨hp,g,d,tk,os⟩:=s;show aM _ _ (field (.ref e) 2 >>= _) _ _ _;refine aC (eC he rfl (x:=.ref it) rfl ?_);refine aC (oP hit hl hx λh1 i1 s1=>?_)
 replace s1:gI it hp h1:=s1
 have e1:lM h1 e it i old:=(s1.2 e hne).trans he;show aM _ _ (field (.ref e) 3 >>= _) _ _ ⟨h1,g,d,tk,os⟩;refine aC (eC e1 rfl (x:=jC i) rfl ?_);show aM _ _ (field (.ref e) 4 >>= _) _ _ ⟨h1,g,d,tk,os⟩;refine aC (eC e1 rfl (x:=.none) rfl ?_);show aM _ _ (mkInt i >>= _) _ _ ⟨h1,g,d,tk,os⟩;refine aC (wpAny_mkInt ?_);show aM _ _ (wD (.ref e) 3 (jC ((i:Int)+1)) >>= _) _ _ ⟨h1,g,d,tk+1,os⟩;refine aC (fQ e1 (by simp) λh2 e2 s2=>?_)
 replace s2:gI e h1 h2:=s2
 replace e2:lM h2 e it ((i:Int)+1) old:=e2
 show aM _ _ (wD (.ref e) 4 .none >>= _) _ _ ⟨h2,g,d,tk+1,os⟩;refine aC (fQ e2 (by simp) λh3 e3 s3=>?_)
 replace s3:gI e h2 h3:=s3
 replace e3:lM h3 e it ((i:Int)+1) old:=e3
 show aM _ _ (newTuple [.int i tk,x] >>= _) _ _ ⟨h3,g,d,tk+1,os⟩;refine aC (vX ?_);have e4:lM (h3.push { cls:=.type "tuple",data:=.seq #[.int i tk,x] }) e it ((i:Int)+1) old:=aJ _ e3;generalize hh4:h3.push { cls:=.type "tuple",data:=.seq #[.int i tk,x] }=h4 at e4;have hsz:h3.objs.size=hp.objs.size:=(by rw[s3.1,s2.1,s1.1]);have hel:e < hp.objs.size:=bX he;have t4:h4.get? hp.objs.size=some { cls:=.type "tuple",data:=.seq #[.int i tk,x] }:=(by rw[<-hh4,<-hsz];exact cJ _ rfl);have z4:h4.objs.size=hp.objs.size+1:=(by rw[<-hh4,gP,hsz]);have k4:∀b o,b≠e->b≠it->hp.get? b=some o->h4.get? b=some o:=λb o hbe hbi hb=>by
  rw[<-hh4];exact aJ _ (s3.extBut b o hbe (s2.extBut b o hbe (s1.extBut b o hbi hb)))
 have i4:h4.IsListIter it l (i+1):=by
  rw[<-hh4];obtain⟨o,ho,r⟩:=(i1.extBut s2.extBut (gH hne)).extBut s3.extBut (gH hne);exact⟨o,aJ _ ho,r⟩
 show aM _ _ (gE (.ref e) >>= _) _ _ ⟨h4,g,d,tk+1,os⟩;rw[hsz];clear hh4 e3 s3 e2 s2 e1 s1 i1 hsz h3 h2 h1;refine aC ?_;unfold gE;refine aC (eC e4 rfl (x:=.none) rfl (wpAny_pure ?_));simp only[if_true];refine aC (pE ?_);refine aC (eC e4 rfl (x:=old) rfl ?_);refine aC (fQ e4 (by simp) λh5 e5 s5=>?_)
 replace s5:gI e h4 h5:=s5
 replace e5:lM h5 e it ((i:Int)+1) x:=e5
 show aM _ _ (gX (.ref e) (.ref hp.objs.size) >>= _) _ _ ⟨h5,g,d,tk+1,os⟩;refine aC ?_;unfold gX;refine aC (fQ e5 (by simp) λh6 e6 s6=>?_)
 replace s6:gI e h5 h6:=s6
 replace e6:qI h6 e it ((i:Int)+1) x hp.objs.size:=e6
 refine fQ e6 (by simp) λh7 e7 s7=>?_
 replace s7:gI e h6 h7:=s7
 replace e7:qI h7 e it ((i:Int)+1) x hp.objs.size:=e7
 refine aC (tL (wpAny_pure ⟨_,rfl,hQ h7 e7 ?_ ?_ ?_ ?_⟩))
 ·exact((i4.extBut s5.extBut (gH hne)).extBut s6.extBut (gH hne)).extBut s7.extBut (gH hne)
 ·exact s7.extBut _ _ (gT hel) (s6.extBut _ _ (gT hel) (s5.extBut _ _ (gT hel) t4))
 ·rw[s7.1,s6.1,s5.1,z4]
 ·exact λb o hbe hbi hb=>s7.extBut b o hbe (s6.extBut b o hbe (s5.extBut b o hbe (k4 b o hbe hbi hb)))
theorem Ja {e it l:Addr}{i:Nat}{items:Array aB}{x old:aB}{Q:Option aB->aI->Prop}(he:lM s.heap e it i old)(hit:s.heap.IsListIter it l i)(hl:s.heap.IsList l items)(hx:items[i]?=some x)(hne:e≠it)
  (hQ:∀h',qI h' e it ((i:Int)+1) x s.heap.objs.size->h'.IsListIter it l (i+1)->h'.get? s.heap.objs.size=some { cls:=.type "tuple",data:=.seq #[.int i s.toks,x] }->h'.objs.size=s.heap.objs.size+1->(∀b o,b≠e->b≠it->s.heap.get? b=some o->h'.get? b=some o)->Q (some (.ref s.heap.objs.size)) { s with heap:=h',toks:=s.toks+1 }):aM (aX prog w) A (mQ (.ref e)) Q E s:=by
 have hT:s.TypeIs (.ref e) "enumerate":=⟨_,he,rfl⟩;unfold mQ;exact aC (pM (gQ (name:=iN "__next__") hT F.slot_enumerate_next (iI F.slot_enumerate_next hT F.entry_enumerate_next (I0 he hit hl hx hne λh' a b c d k=>wpAny_pure (hQ h' a b c d k)) (F.args_enumerate_next_1 _))))
theorem Lj {e it l:Addr}{i:Nat}{items:Array aB}{old:aB}{Q:Option aB->aI->Prop}(hh:A.handled=none)(he:lM s.heap e it i old)(hit:s.heap.IsListIter it l i)(hl:s.heap.IsList l items)(hx:items[i]?=none)
  (hQ:∀h',vO it s.heap h'->Q none { s with heap:=h' }):aM (aX prog w) A (mQ (.ref e)) Q E s:=by
 have hT:s.TypeIs (.ref e) "enumerate":=⟨_,he,rfl⟩;unfold mQ;refine aC (pM (gQ (name:=iN "__next__") hT F.slot_enumerate_next (iI F.slot_enumerate_next hT F.entry_enumerate_next ?_ (F.args_enumerate_next_1 _))));show aM _ _ (field (.ref e) 2 >>= _) _ _ _;refine aC (eC he rfl (x:=.ref it) rfl ?_);refine aC (rP hh hit hl hx λh' x ex hx'=>?_);obtain⟨o,ho,hc⟩:=hx';refine aC (lZ (T:="StopIteration") (b:=true) ⟨o,ho,hc⟩ vY ?_);exact wpAny_pure (hQ _ ex)
end
structure W6 (h:Heap)(e it l:Addr)(k:Nat):Prop where
 en:∃old,lM h e it k old
 one:h.IsListIter it l k
def A7 (K:aA)(a:Addr):It:=
 ⟨λi H=>∃xs x,SqL K H a xs/\xs[i]?=some x,λi H v H'=>∃p x,H p=none/\v=.ref p/\(∀xs,SqL K H a xs->xs[i]?=some x)/\H'=upd H p (.tup [.int (i:Int),x]),λi H=>∃xs,SqL K H a xs/\xs.length<=i⟩
theorem Jb {P:aS}{w:bZ}{K:aA}{es:List Expr}{j:Nat}{pos:Pos}{e it a:Addr}(hne:e≠it)(hae:a≠e)(hai:a≠it) :
  t9 P w K (.Tuple es j pos) (A7 K a) [e,it] e (λk h=>W6 h e it a k) where
 mem:=by simp
 obj:=λk h Z c hc=>by
  obtain⟨⟨old,u1⟩,⟨o4,u4,_,v4⟩⟩:=Z;simp only[cD,eU,or_false]at hc;rcases hc with q | q
  ·subst q;exact⟨_,u1,λv e=>by cases(show tK _=rH v from e)⟩
  ·subst q;exact⟨_,u4,λv e=>by rw[v4]at e;cases e⟩
 keep:=λk h h' Z kk=>by
  obtain⟨⟨old,u1⟩,⟨o4,u4,r4⟩⟩:=Z;exact⟨⟨old,kk e (by simp) _ u1⟩,⟨o4,kk it (by simp) _ u4,r4⟩⟩
 item:=by
  intro X hP hw hK hc k pins s σ H E I hf Z hg;subst hP hw hK;obtain⟨xs,x,hx,ex⟩:=hg;obtain⟨its,r1,p1,_⟩:=I.list hx;obtain⟨u,eu,ru⟩:=r1.get ex;obtain⟨⟨old,u1⟩,u2⟩:=Z;refine Ja u1 u2 (p1.isList) (x:=u) (by simpa using eu) hne λh1 b1 b2 b3 b4 kk=>?_;refine⟨_,rfl,wpAny_letOwnedTupleGo_enum b1 λh2 c1 sb=>?_⟩;have ks:∀c o,c ∉ [e,it]->s.heap.get? c=some o->h2.get? c=some o:=λc o hc q=>by
   simp only[cD,eU,or_false,not_or]at hc;exact sb.extBut _ _ hc.1 (kk c o hc.1 hc.2 q)
  have ne:s.heap.objs.size≠e:=gT (bX u1);have b5:=sb.extBut _ _ ne b3;have I2:Inv X pins σ H { s with heap:=h2,toks:=s.toks+1 }:=I.turnedAll (t':=s.toks+1) hf ks;have fT:i8 X pins H s.heap.objs.size:=I.fpOk (aO _) (I.hok.fresh (aO _));have I3:Inv X pins σ (upd H s.heap.objs.size (.tup [.int (k:Int),x])) { s with heap:=h2,toks:=s.toks+1 }:=I2.track fT I.sz
   ⟨by show 2<=sizeLine;decide,[.int k s.toks,u],.cons ⟨_,rfl⟩ (.cons ru .nil),⟨_,b5,rfl,_,rfl⟩⟩
  refine⟨.ref s.heap.objs.size,_,I3,rfl,⟨_,x,fT.1,rfl,λus hu=>by rw[I.list_inj hu hx];exact ex,rfl⟩,?_,λc hc=>?_⟩
  ·obtain⟨w3,v3,q3⟩:=b2;exact⟨⟨_,c1⟩,⟨w3,sb.extBut _ _ (gH hne) v3,q3⟩⟩
  ·obtain⟨o,q⟩:∃o,s.heap.get? c=some o:=by
    obtain⟨o4,u4,_⟩:=u2;simp only[cD,eU,or_false]at hc;rcases hc with q | q
    ·subst q;exact⟨_,u1⟩
    ·subst q;exact⟨_,u4⟩
   rw[al (cK (bX q))];exact(hf c hc).1
 done:=by
  intro X hP hw hK hc k pins s σ H E I hf Z hg;subst hP hw hK;obtain⟨xs,hx,hend⟩:=hg;obtain⟨its,r1,p1,_⟩:=I.list hx;obtain⟨⟨old,u1⟩,u2⟩:=Z;have l1:=r1.length;refine Lj (I.ok.hd hc) u1 u2 (p1.isList) (by simp;lia) λh1 kk=>⟨rfl,I.turnedAll (t':=s.toks) hf λc o hc q=>?_⟩;simp only[cD,eU,or_false,not_or]at hc;exact kk c o hc.2 q
 self:=λ_ _ _ _ _ Z h=>let ⟨_,u⟩:=Z.en;qU u h
section
variable {X:Cx}
def U8 (K:aA)(ta:TA):TI:=λσ H R=>ta σ H λvs H1=>∃a xs,vs=[.ref a]/\SqL K H1 a xs/\R (A7 K a) H1
theorem ue {e1:Expr}{ta:TA}{p pos tpos:Pos}{es:List Expr}{j:Nat}(hg:Gl X "enumerate")(hm:X.mg "enumerate"=none)(ha:PA X [e1] ta)(hs:cZ [e1] X.env=[(false,eval e1 X.env)]:=by rfl)
  (hs2:cZ [] X.env=[]:=by rfl):PI X (.Tuple es j tpos) (.Call (.Name "enumerate" p) [e1] [] pos) (U8 X.K ta):=by
 intro pins s σ H R I h;refine Call_ (jy I hg hm (by kernel_rfl:lQ (iN "enumerate")=some (.type "enumerate")) (gU (thn (ha pos pins s σ H _ I h) λus s1 ⟨vs,H1,I1,r1,q1⟩=>?_) (by rw[hs,hs2]) (by rw[hs2];rfl)));obtain⟨a,xs,e,hx,q⟩:=q1;subst e;obtain⟨u,rfl,ru⟩:=jg r1;cases(show u=cH a from ru);obtain⟨its,k1,p1,_⟩:=I1.list hx;have a1:a < s1.heap.objs.size:=(by obtain⟨_,e,_⟩:=p1.isList;exact bX e);refine Iz (p1.isList) λh2 Z1 Z2 sz kk=>?_;have I2:Inv X pins σ H1 { s1 with heap:=h2 }:=I1.kept (t':=s1.toks) kk;refine qU Z1 ⟨_,_,_,_,H1,rfl,I2,Jb (e:=s1.heap.objs.size+1) (it:=s1.heap.objs.size) (a:=a) (Nat.succ_ne_self _) (cK (uB a1)) (cK a1),⟨⟨_,Z1⟩,Z2⟩,λc hc=>?_,q⟩;refine I1.fpOk ?_ (I1.hok.fresh ?_)
 all_goals
  simp only[cD,eU,or_false]at hc;rcases hc with q | q<;>subst q<;>lia
end
theorem Lk {K:aA}{a:Addr}{xs:List V}{g:TG}{tb:TS}{D:db}{σ:St}{H:Hp}(Pv:Nat->St->Hp->Prop)(h0:Pv 0 σ H)
  (hl:∀i σ H,i<=xs.length->Pv i σ H->SqL K H a xs)
  (hs:∀i x p σ H,xs[i]?=some x->Pv i σ H->H p=none->g (.ref p) σ (upd H p (.tup [.int (i:Int),x])) λσ2 H2=>tb { D with nx:=Pv (i+1),ct:=Pv (i+1),bk:=D.nx } σ2 H2) (hd:∀σ H,Pv xs.length σ H->D.nx σ H) :
  ∃W:Nat->Nat->St->Hp->Prop,(∃m,W 0 m σ H)/\∀i m σ H,W i m σ H->
   ((A7 K a).stop i H/\D.nx σ H)\/((A7 K a).go i H/\∃N:St->Hp->Prop,(∀σ' H',N σ' H'->∃m',m' < m/\W (i+1) m' σ' H')/\∀x H',(A7 K a).yld i H x H'->g x σ H' λσ2 H2=>tb { D with nx:=N,ct:=N,bk:=D.nx } σ2 H2):=by
 refine⟨λi m σ H=>i+m=xs.length/\Pv i σ H,⟨xs.length,by lia,h0⟩,?_⟩;intro i m σ H h_1;obtain⟨e,p⟩:=h_1;have q1:=hl i σ H (by lia) p;by_cases hi:i < xs.length
 ·have ex:xs[i]?=some xs[i]:=aL hi;refine .inr ⟨⟨xs,_,q1,ex⟩,Pv (i+1),λσ' H' p'=>⟨m - 1,by lia,by lia,p'⟩,?_⟩;intro x H' h_1;obtain⟨pp,x',fp,rfl,eu,rfl⟩:=h_1;exact hs i x' pp σ H (eu xs q1) p fp
 ·have e':i=xs.length:=(by lia);subst e';exact .inl ⟨⟨xs,q1,aO _⟩,hd σ H p⟩
end L2
namespace L2
open PySem PySem.Spec PyProof.Rows
section
variable {k:Nat}{fr:List Nat}{g:TG}{tt:TT}{te:TE}{σ:St}{Q:VK}{D:Addr}{H:Hp}
theorem vh {K:aA}{a b:Addr}{xs ws:List V}(hlen:xs.length=ws.length)(Pv:Nat->List V->Hp->Prop)(h0:Pv 0 [] (upd H D (.lst [])))(hd:∀i ys H,Pv i ys H->H D=some (.lst ys))(hl:∀i ys H,i<=xs.length->Pv i ys H->SqL K H a xs/\SqL K H b ws)
  (hz:∀i ys H,i < xs.length->Pv i ys H->ys.length < sizeLine) (hs:∀i x y p ys H,xs[i]?=some x->ws[i]?=some y->Pv i ys H->H p=none->wf k fr g tt te σ D ys (Pv (i+1)) (.ref p) (upd H p (.tup [x,y]))) (he:∀ys H,Pv xs.length ys H->Q (.ref D) H):uc k fr g tt te σ Q (Ot K a b) H D:=by
 refine⟨λi m ys H=>i+m=xs.length/\Pv i ys H,⟨xs.length,by lia,h0⟩,?_⟩;intro i m ys H2 h_1;obtain⟨e,p⟩:=h_1;obtain⟨q1,q2⟩:=hl i ys H2 (by lia) p;refine⟨hd i ys H2 p,?_⟩;by_cases hi:i < xs.length
 ·have ex:xs[i]?=some xs[i]:=aL hi;have ey:ws[i]?=some ws[i]:=aL (by lia);refine .inr ⟨⟨xs,ws,_,_,q1,q2,ex,ey⟩,hz i ys H2 hi p,Pv (i+1),λys' H' p'=>⟨m - 1,by lia,by lia,p'⟩,?_⟩;intro x H3 h_1;obtain⟨pp,x',y',fp,rfl,eu,ev,rfl⟩:=h_1;exact hs i x' y' pp ys H2 (eu xs q1) (ev ws q2) p fp
 ·have e':i=xs.length:=(by lia);subst e';exact .inl ⟨⟨xs,ws,q1,q2,.inl (aO _)⟩,he ys H2 p⟩
theorem uf {K:aA}{a:Addr}{xs:List V}(Pv:Nat->List V->Hp->Prop)(h0:Pv 0 [] (upd H D (.lst [])))(hd:∀i ys H,Pv i ys H->H D=some (.lst ys))(hl:∀i ys H,i<=xs.length->Pv i ys H->SqL K H a xs)
  (hz:∀i ys H,i < xs.length->Pv i ys H->ys.length < sizeLine) (hs:∀i x p ys H,xs[i]?=some x->Pv i ys H->H p=none->wf k fr g tt te σ D ys (Pv (i+1)) (.ref p) (upd H p (.tup [.int (i:Int),x]))) (he:∀ys H,Pv xs.length ys H->Q (.ref D) H):uc k fr g tt te σ Q (A7 K a) H D:=by
 refine⟨λi m ys H=>i+m=xs.length/\Pv i ys H,⟨xs.length,by lia,h0⟩,?_⟩;intro i m ys H2 h_1;obtain⟨e,p⟩:=h_1;have q1:=hl i ys H2 (by lia) p;refine⟨hd i ys H2 p,?_⟩;by_cases hi:i < xs.length
 ·have ex:xs[i]?=some xs[i]:=aL hi;refine .inr ⟨⟨xs,_,q1,ex⟩,hz i ys H2 hi p,Pv (i+1),λys' H' p'=>⟨m - 1,by lia,by lia,p'⟩,?_⟩;intro x H3 h_1;obtain⟨pp,x',fp,rfl,eu,rfl⟩:=h_1;exact hs i x' pp ys H2 (eu xs q1) p fp
 ·have e':i=xs.length:=(by lia);subst e';exact .inl ⟨⟨xs,q1,aO _⟩,he ys H2 p⟩
end
end L2
namespace L2
open PySem PySem.Spec PyProof.Rows
theorem W7 {X:Cx}{ns ys:List Str}{fr:List Nat}{sc:gG}{cl:List (Str×Addr)}(L:List (Str×uP))(clos:yA sc X.env=pure cl)(kind:sc.kind=.function)(nocell:∀y∈sc.names,y.2≠.cell)(locs:∀y∈sc.names,y.2=.local->sc.names.lookup y.1=some .local)
  (sub:∀p∈cl,X.env.cells.lookup p.1=some p.2) (eL:(oW sc X.env).names=L) (hL:∀p∈L,p.2=.cell\/p.2=.free->∃c,cl.lookup p.1=some c) (len:fr.length=ys.length)
  (outs:∀(j:Nat)(y:Str),ys[j]?=some y->∃i:Nat,fr[j]?=some i/\X.N[i]?=some y/\(X.env.kindOf y=some .cell\/X.env.kindOf y=some .free)/\((oW sc X.env).names.lookup y=some .cell\/(oW sc X.env).names.lookup y=some .free)):cb X ns ys fr sc cl where
 clos:=clos
 kind:=kind
 nocell:=nocell
 locs:=locs
 sub:=sub
 has:=λy h=>by
  rw[eL]at h;rcases h with h | h
  ·exact hL _ (dw h) (.inl rfl)
  ·exact hL _ (dw h) (.inr rfl)
 len:=len
 outs:=outs
section
variable {X:Cx}
def W8:V->List V->Hp->VK->Prop:=λx vs H Q=>∃i,x=.int i/\vs=[]/\Q (.int (pT i:Nat)) H
theorem Sg:MtM X "int.bit_length" W8:=by
 intro pins s σ H x vs v us Q I rx rv h;obtain⟨i,rfl,rfl,q⟩:=h;obtain⟨t,rfl⟩:=rx;have hus:=rv.zero;subst hus;exact call_gives PySem.F.slot_int_bit_length (uH s i t) PySem.F.entry_int_bit_length (PySem.F.args_int_bit_length_1 _) (AutoIntG2.int_bit_length_int_0 i t) ⟨.int _,H,I.tok _,⟨_,rfl⟩,q⟩
def tTru (K:aA)(ta:TE):TT:=λσ H Q=>ta σ H λx H'=>∃k,Nj K x H' k/\Q k H'
theorem vi {K:aA}{a:Expr}{ta:TE}(hK:X.K=K)(ha:PE X a ta)(he:∀whole,vR a X.env whole=(do let v <-whole;sV a.pos;oU [v] (truthy v))):PT X a (tTru K ta):=by
 subst hK;exact j9 ha he
theorem Ou (k:Nat):pT ((2:Int) ^ k)=k+1:=by
 have e:((2:Int) ^ k)=((2 ^ k:Nat):Int):=(by simp);unfold pT;rw[e,if_neg (by have:=sL k;simp;lia)];rw[Int.natAbs_natCast,Nat.log2_two_pow]
end
end L2
namespace L2
open PySem PySem.Spec PyProof.Rows
def AllP {α:Type}(p:α->Prop):List α->Prop
 | []=>True
 |x::r=>p x/\AllP p r
theorem AllP.mem {α:Type}{p:α->Prop}:∀{l:List α}{x:α},AllP p l->x∈l->p x
 |y::r,x,h,hx=>by
  rcases cD.mp hx with e | e
  ·rw[e];exact h.1
  ·exact h.2.mem e
def OutsP (X:Cx)(sc:gG):List Str->List Nat->Prop
 | [],[]=>True
 |y::ys,i::fr=>(X.N[i]?=some y/\X.env.kindOf y=some .cell/\(oW sc X.env).names.lookup y=some .cell)/\OutsP X sc ys fr
 |_,_=>False
theorem OutsP.get {X:Cx}{sc:gG}:∀{ys:List Str}{fr:List Nat},OutsP X sc ys fr->fr.length=ys.length/\∀(j:Nat)(y:Str),ys[j]?=some y->∃i:Nat,fr[j]?=some i/\X.N[i]?=some y/\(X.env.kindOf y=some .cell\/X.env.kindOf y=some .free)/\((oW sc X.env).names.lookup y=some .cell\/(oW sc X.env).names.lookup y=some .free)
 | [],[],_=>⟨rfl,λj y e=>by cases j<;>cases e⟩
 |y::ys,i::fr,h=>by
  obtain⟨l,g⟩:=h.2.get;refine⟨by rw[dX,dX,l],λj z e=>?_⟩;cases j with
  |zero=>cases e;exact⟨i,rfl,h.1.1,.inl h.1.2.1,.inl h.1.2.2⟩
  |succ j=>exact g j z e
theorem csN {X:Cx}{ns ys:List Str}{fr:List Nat}{sc:gG}{cl:List (Str×Addr)}(L:List (Str×uP))(clos:yA sc X.env=pure cl:=by with_unfolding_all rfl)(kind:sc.kind=.function:=by rfl)(nocell:∀y∈sc.names,y.2≠.cell:=by decide +kernel)
  (locs:∀y∈sc.names,y.2=.local->sc.names.lookup y.1=some .local:=by decide +kernel) (sub:AllP (λp=>X.env.cells.lookup p.1=some p.2) cl:=by repeat' first | exact trivial | with_unfolding_all rfl | constructor)
  (eL:(oW sc X.env).names=L:=by with_unfolding_all rfl) (hL:AllP (λp=>(p.2≠.cell/\p.2≠.free)\/(cl.lookup p.1).isSome=true) L:=by repeat' first | exact trivial | exact .inl ⟨by decide,by decide⟩ | exact .inr (by with_unfolding_all rfl) | constructor)
  (outs:OutsP X sc ys fr:=by repeat' first | exact trivial | with_unfolding_all rfl | constructor):cb X ns ys fr sc cl:=
 W7 L clos kind nocell locs (λ_ hp=>sub.mem hp) eL (λp hp hk=>by
   rcases hL.mem hp with h | h
   · exact absurd hk (λz=>z.elim h.1 h.2)
   · exact nS.mp h) outs.get.1 outs.get.2
theorem fsN {N ps:List Str}{sc:gG}(a:sc.kind=.function:=by rfl)(b:sc.isCoroutine=false:=by rfl)(c:sc.isGenerator=false:=by rfl)(d:N.Nodup:=by decide +kernel)(e:N.take ps.length=ps:=by rfl)
  (f:∀x∈ps,sc.names.lookup x=some .local\/sc.names.lookup x=some .cell:=by decide +kernel) (g:∀y∈sc.names,y.2≠.free:=by decide +kernel):ar N ps sc:=⟨a,b,c,d,e,f,g⟩
theorem pg2 {X:Cx}{C:Addr}{s:aI}{H:Hp}{fp:List Addr}{cl:List (Str×Addr)}{sc:gG}{a b:Str}{ys:List Str}{k:Nat}{p1 p2 p3:Pos}(hc:X.calm=true)(nd:([a,b]++ys).Nodup:=by decide +kernel)
  (ha:Loc (cxC X ([a,b]++ys) sc cl C s H fp).env.scope a:=by exact bV rfl) (hb:Loc (cxC X ([a,b]++ys) sc cl C s H fp).env.scope b:=by exact bV rfl)
  (ka:(cxC X ([a,b]++ys) sc cl C s H fp).env.scope.names.lookup a=some .local:=by rfl) (kb:(cxC X ([a,b]++ys) sc cl C s H fp).env.scope.names.lookup b=some .local:=by rfl) :
  PG (cxC X ([a,b]++ys) sc cl C s H fp) (.Tuple [.Name a p1,.Name b p2] k p3) (Uc X.K 2 (Hd (o6 0) (Hd (o6 1) Ub))):=
 jz hc (cn (ay (i:=0) nd rfl ha (.inr ka)) (cn (ay (i:=1) nd rfl hb (.inr kb)) im))
end L2
namespace L2
open PySem PySem.Spec PyProof.Rows
section
variable {κ:Type}[DecidableEq κ]
def gy (kvs:List (κ×V))(k:κ):Option V:=(kvs.find? λkv=>decide (kv.1=k)).map (·.2)
def ny (kvs:List (κ×V))(k:κ)(v:V):List (κ×V):=
 if (kvs.any λkv=>decide (kv.1=k))=true then kvs.map (λkv=>if kv.1=k then (kv.1,v)else kv)else kvs++[(k,v)]
theorem ii {p:κ×V}{r:List (κ×V)}{k:κ}(e:p.1=k):gy (p::r) k=some p.2:=by simp[gy,oM,e]
theorem ij {p:κ×V}{r:List (κ×V)}{k:κ}(e:¬p.1=k):gy (p::r) k=gy r k:=by simp[gy,oM,e]
theorem ug (k:κ):∀kvs:List (κ×V),(kvs.any λkv=>decide (kv.1=k))=(gy kvs k).isSome
 | []=>rfl
 |p::r=>by
  rw[oC];by_cases e:p.1=k
  ·simp only[ii e,decide_eq_true e,Bool.true_or,Option.isSome_some]
  ·rw[ij e,decide_eq_false e,Bool.false_or];exact ug k r
theorem D9 (k j:κ)(y:V):∀kvs:List (κ×V),gy (kvs.map λkv=>if kv.1=k then (kv.1,y)else kv) j=(gy kvs j).map λx=>if j=k then y else x
 | []=>rfl
 |p::r=>by
  have ih:=D9 k j y r;rw[fZ];by_cases h:p.1=k
  ·rw[if_pos h];by_cases e:p.1=j
   ·rw[ii (p:=(p.1,y)) e,ii e,pX,if_pos (e.symm.trans h)]
   ·rw[ij (p:=(p.1,y)) e,ij e,ih]
  ·rw[if_neg h];by_cases e:p.1=j
   ·rw[ii (p:=p) e,ii e,pX,if_neg (λz=>h (e.trans z))]
   ·rw[ij (p:=p) e,ij e,ih]
theorem Bx (k j:κ)(y:V):∀kvs:List (κ×V),gy kvs k=none->gy (kvs++[(k,y)]) j=if j=k then some y else gy kvs j
 | [],_=>by
  by_cases e:k=j
  ·rw[if_pos e.symm];exact ii (p:=(k,y)) e
  ·rw[if_neg (λz=>e z.symm)];exact ij (p:=(k,y)) e
 |p::r,hn=>by
  rw[List.cons_append];have hk:¬p.1=k:=λz=>(by rw[ii z]at hn;cases hn);rw[ij hk]at hn;have ih:=Bx k j y r hn;by_cases e:p.1=j
  ·rw[ii e,ii e,if_neg (λz=>hk (e.trans z))]
  ·rw[ij e,ij e,ih]
theorem Ea (kvs:List (κ×V))(k j:κ)(y:V):gy (ny kvs k y) j=if j=k then some y else gy kvs j:=by
 unfold ny;by_cases a:(kvs.any λkv=>decide (kv.1=k))=true
 ·rw[if_pos a,D9];rw[ug]at a;by_cases e:j=k
  ·obtain⟨x,hx⟩:=nS.mp a;rw[if_pos e,e,hx,pX,if_pos rfl]
  ·rw[if_neg e];cases gy kvs j with
   |none=>rfl
   |some x=>rw[pX,if_neg e]
 ·rw[if_neg a];refine Bx k j y kvs ?_;rw[ug]at a;cases q:gy kvs k with
  |none=>rfl
  |some x=>rw[q]at a;exact(a rfl).elim
theorem rj (kvs:List (κ×V))(k:κ)(v:V):(ny kvs k v).length<=kvs.length+1:=by
 unfold ny
 split
 ·rw[aG];lia
 ·rw[aN,dX,lS];lia
theorem RelO.isSome_eq {o:Option V}{u:Option aB}(r:RelO o u):o.isSome=u.isSome:=by
 cases o with
 |none=>cases u with
  |none=>rfl
  |some _=>exact(show False from r).elim
 |some _=>cases u with
  |none=>exact(show False from r).elim
  |some _=>rfl
theorem KV.val {kvs:List (κ×V)}{vs:List (κ×aB)}(r:KV kvs vs)(k:κ):RelO (gy kvs k) (uK vs k):=by
 unfold KV at r
 induction r with
 |nil=>exact oJ
 |@cons p q ps qs h t ih=>
  obtain⟨h1,h2⟩:=h;by_cases e:p.1=k
  ·have e':q.1=k:=h1.symm.trans e;have b:uK (q::qs) k=some q.2:=(by simp[uK,oM,e']);rw[ii e,b];exact h2
  ·have e':¬q.1=k:=λz=>e (h1.trans z);have b:uK (q::qs) k=uK qs k:=(by simp[uK,oM,e']);rw[ij e,b];exact ih
theorem KV.any {kvs:List (κ×V)}{vs:List (κ×aB)}(r:KV kvs vs)(k:κ):(kvs.any λkv=>decide (kv.1=k))=vs.any λkv=>decide (kv.1=k):=by
 unfold KV at r
 induction r with
 |nil=>rfl
 |cons h t ih=>rw[oC,oC,ih,h.1]
theorem KV.repl {kvs:List (κ×V)}{vs:List (κ×aB)}(r:KV kvs vs)(k:κ){y:V}{u:aB}(ry:RelV y u) :
  KV (kvs.map λkv=>if kv.1=k then (kv.1,y)else kv) (vs.map λkv=>if kv.1=k then (kv.1,u)else kv):=by
 unfold KV at r ⊢
 induction r with
 |nil=>exact .nil
 |@cons p q ps qs h t ih=>
  rw[fZ,fZ];refine .cons ?_ ih;obtain⟨h1,h2⟩:=h;by_cases e:p.1=k
  ·rw[if_pos e,if_pos (h1.symm.trans e)];exact⟨h1,ry⟩
  ·rw[if_neg e,if_neg (λz=>e (h1.trans z))];exact⟨h1,h2⟩
theorem KV.put {kvs:List (κ×V)}{vs:List (κ×aB)}(r:KV kvs vs)(k:κ){y:V}{u:aB}(ry:RelV y u):KV (ny kvs k y) (stored vs k u):=by
 unfold ny stored;rw[r.any k];by_cases e:(vs.any λkv=>decide (kv.1=k))=true
 ·rw[if_pos e,if_pos e];exact r.repl k ry
 ·rw[if_neg e,if_neg e];exact Paired.snoc r ⟨rfl,ry⟩
theorem KV.length {kvs:List (κ×V)}{vs:List (κ×aB)}(r:KV kvs vs):kvs.length=vs.length:=Paired.length r
end
theorem Ci {P:aS}{w:bZ}{k:Key}{u:aB}(r:RelV (kV k) u):(gh P w).is k u=true:=by
 cases k with
 |inl i=>obtain⟨t,e⟩:=(show ∃t,u=pZ i t from r);subst e;exact Fa P w i t
 |inr x=>obtain⟨t,e⟩:=(show ∃t,u=vA x t from r);subst e;exact Fb P w x t
theorem By {P:aS}{w:bZ}:∀{ks:List Key}{us:List aB},Vals (ks.map kV) us->ItemsAre (gh P w) ks us
 | [],_,r=>by rw[wX]at r;cases r;exact .nil
 |k::ks,_,r=>by
  rw[fZ]at r;cases r with
  |cons h t=>exact .cons (Ci h) (By t)
abbrev KT (H:Hp):List (List Key×V)->List (List Key×Addr×aB)->Prop:=Paired λp q=>p.1=q.1/\H q.2.1=some (.tup (p.1.map kV))/\RelV p.2 q.2.2
theorem KT.val {H:Hp}{kvs:List (List Key×V)}{xs:List (List Key×Addr×aB)}(r:KT H kvs xs)(k:List Key):RelO (gy kvs k) ((oR xs k).map (·.2)):=by
 induction r with
 |nil=>exact oJ
 |@cons p q ps qs h t ih=>
  obtain⟨h1,_,h2⟩:=h;by_cases e:p.1=k
  ·have e':q.1=k:=h1.symm.trans e;have b:oR (q::qs) k=some q.2:=(by simp[oR,oM,e']);rw[ii e,b];exact h2
  ·have e':¬q.1=k:=λz=>e (h1.trans z);have b:oR (q::qs) k=oR qs k:=(by simp[oR,oM,e']);rw[ij e,b];exact ih
theorem KT.repl {H:Hp}{kvs:List (List Key×V)}{xs:List (List Key×Addr×aB)}(r:KT H kvs xs)(k:List Key){y:V}{u:aB}(ry:RelV y u) :
  KT H (kvs.map λkv=>if kv.1=k then (kv.1,y)else kv) (xs.map (putAt k u)):=by
 induction r with
 |nil=>exact .nil
 |@cons p q ps qs h t ih=>
  rw[fZ,fZ];refine .cons ?_ ih;obtain⟨h1,h2,h3⟩:=h;unfold putAt;by_cases e:p.1=k
  ·rw[if_pos e,if_pos (h1.symm.trans e)];exact⟨h1,h2,ry⟩
  ·rw[if_neg e,if_neg (λz=>e (h1.trans z))];exact⟨h1,h2,h3⟩
theorem KT.put {H:Hp}{kvs:List (List Key×V)}{xs:List (List Key×Addr×aB)}(r:KT H kvs xs)(k:List Key){b:Addr}{y:V}{u:aB}(hb:H b=some (.tup (k.map kV)))(ry:RelV y u) :
  KT H (ny kvs k y) (qO xs k b u):=by
 have e:(kvs.any λkv=>decide (kv.1=k))=(oR xs k).isSome:=by
  rw[ug,(r.val k).isSome_eq,oS]
 unfold ny qO;rw[e];by_cases q:(oR xs k).isSome=true
 ·rw[if_pos q,if_pos q];exact r.repl k ry
 ·rw[if_neg q,if_neg q];exact Paired.snoc r ⟨rfl,hb,ry⟩
theorem KT.keeps {H H':Hp}{kvs:List (List Key×V)}{xs:List (List Key×Addr×aB)}(r:KT H kvs xs)(ht:∀b ys,H b=some (.tup ys)->H' b=some (.tup ys)):KT H' kvs xs:=
 Paired.mapP r λ_ _ z=>⟨z.1,ht _ _ z.2.1,z.2.2⟩
section
variable {P:aS}{w:bZ}{H:Hp}{h:Heap}{a:Addr}
theorem Qg {u:HO}(ok:HOk P w H h)(e:Rd H a u):ObjOk P w H h a u:=e.ok ok
theorem Cj {kvs:List (Key×V)}(ok:HOk P w H h)(e:Rd H a (.dK kvs)):kvs.length<=sizeLine/\(a == kK)=false/\∃vs,KV kvs vs/\h.DictOf (gh P w) a vs:=
 show ObjOk P w H h a (.dK kvs)from Qg ok e
theorem W9 {kvs:List (Key×V)}(ok:HOk P w H h)(e:H a=some (.dK kvs)):kvs.length<=sizeLine/\(a == kK)=false/\∃vs,KV kvs vs/\h.DictOf (gh P w) a vs:=Cj ok (.inl e)
theorem zh {ks:List Key}(ok:HOk P w H h)(e:H a=some (.tup (ks.map kV))):(vB (gh P w)).is h ks a:=by
 obtain⟨_,its,r,o,h1,h2,n,h3⟩:=(show ObjOk P w H h a (.tup (ks.map kV))from ok a _ e);exact⟨o,its.toArray,n,h1,h2,h3,by simpa using By r⟩
theorem Ck {kvs:List (List Key×V)}(ok:HOk P w H h)(e:Rd H a (.dT kvs)):kvs.length<=sizeLine/\(a == kK)=false/\
  ∃xs,KT H kvs xs/\h.DictOfH (vB (gh P w)) a xs:=by
 obtain⟨z,y,xs,r,o,es,ep,h1,h2,h3,h4,h5⟩:=(show ObjOk P w H h a (.dT kvs)from Qg ok e);refine⟨z,y,xs,r,o,es,ep,h1,h2,h3,h4,λx hx=>?_,h5⟩;have all:∀{l:List (List Key×V)}{m:List (List Key×Addr×aB)},KT H l m->∀x∈m,(vB (gh P w)).is h x.1 x.2.1:=by
  intro l m q
  induction q with
  |nil=>intro x hx;exact nomatch hx
  |@cons p q ps qs hq t ih=>
   intro x hx;rcases cD.mp hx with e | hx
   ·subst e;exact zh ok (by rw[<-hq.1];exact hq.2.1)
   ·exact ih x hx
 exact all r x hx
theorem Xa {kvs:List (List Key×V)}(ok:HOk P w H h)(e:H a=some (.dT kvs)):kvs.length<=sizeLine/\(a == kK)=false/\
  ∃xs,KT H kvs xs/\h.DictOfH (vB (gh P w)) a xs:=Ck ok (.inl e)
end
def DGet (H:Hp)(a:Addr)(y:V)(r:Option V):Prop:=
 (∃kvs k,Rd H a (.dK kvs)/\y=kV k/\r=gy kvs k)\/∃kvs k b,Rd H a (.dT kvs)/\y=.ref b/\H b=some (.tup (k.map kV))/\r=gy kvs k
def DPut (H:Hp)(a:Addr)(y v:V)(H':Hp):Prop:=
 (∃kvs k,H a=some (.dK kvs)/\y=kV k/\kvs.length < sizeLine/\H'=upd H a (.dK (ny kvs k v)))\/
 ∃kvs k b,H a=some (.dT kvs)/\y=.ref b/\H b=some (.tup (k.map kV))/\kvs.length < sizeLine/\H'=upd H a (.dT (ny kvs k v))
theorem DGet.k {H:Hp}{a:Addr}{kvs:List (Key×V)}{k:Key}(e:H a=some (.dK kvs)):DGet H a (kV k) (gy kvs k):=.inl ⟨kvs,k,.inl e,rfl,rfl⟩
theorem DPut.k {H:Hp}{a:Addr}{kvs:List (Key×V)}{k:Key}{v:V}(e:H a=some (.dK kvs))(hl:kvs.length < sizeLine):DPut H a (kV k) v (upd H a (.dK (ny kvs k v))):=.inl ⟨kvs,k,e,rfl,hl,rfl⟩
section
variable {X:Cx}{pins:List (Addr×Obj)}{σ:St}{H:Hp}{s:aI}{a:Addr}{y v:V}{u r:aB}{o:Option V}{A:cW}{E:aB->aI->Prop}
theorem Inv.big (I:Inv X pins σ H s):kK < s.heap.objs.size:=by
 have h:aQ < s.heap.objs.size:=(I.mod.glob.keeps I.bk).lt;exact iZ (by decide) h
theorem Ll {Q:aB->aI->Prop}(hu:A.units+1 < iJ)(I:Inv X pins σ H s)(g:DGet H a y (some v))(ry:RelV y u)(h:∀w' s',Inv X pins σ H s'->RelV v w'->Q w' s') :
  aM (aX X.prog X.w) A (qM (.ref a) u) Q E s:=by
 rcases g with⟨kvs,k,e,ey,l⟩ | ⟨kvs,k,b,e,ey,eb,l⟩
 ·subst ey;obtain⟨z,hd,vs,rel,dd⟩:=Cj I.hok e;obtain⟨w',hw,rw'⟩:=RelO.some_of (v:=v) (o:=uK vs k) (by rw[l];exact rel.val k);exact wpAny_getItem_of (Ci ry) dd.mapOf hw (h w' _ (I.tok _) rw')
 ·subst ey;cases(show u=cH b from ry);obtain⟨z,hd,xs,rel,dd⟩:=Ck I.hok e;obtain⟨w',hw,rw'⟩:=RelO.some_of (v:=v) (o:=(oR xs k).map (·.2)) (by rw[l];exact rel.val k);obtain⟨p,hp,hp2⟩:=gJ.mp hw;refine wpAny_getItem_heap (tS hu) (zh I.hok eb) dd hp ?_;rw[hp2];exact h w' _ (I.tok _) rw'
theorem Sh {Q:aB->aI->Prop}(hu:A.units+1 < iJ)(I:Inv X pins σ H s)(g:DGet H a y o)(ry:RelV y u)(h:∀s',Inv X pins σ H s'->Q (.bool (!o.isSome)) s') :
  aM (aX X.prog X.w) A (kZ .NotIn u (.ref a)) Q E s:=by
 rcases g with⟨kvs,k,e,ey,l⟩ | ⟨kvs,k,b,e,ey,eb,l⟩
 ·subst ey;obtain⟨z,hd,vs,rel,dd⟩:=Cj I.hok e;refine wpAny_notIn_of (Ci ry) hd dd.mapOf ?_;rw[<-(rel.val k).isSome_eq,<-l];exact h _ (I.tok _)
 ·subst ey;cases(show u=cH b from ry);obtain⟨z,hd,xs,rel,dd⟩:=Ck I.hok e;refine wpAny_notIn_heap (tS hu) (zh I.hok eb) hd dd ?_;have q:=(rel.val k).isSome_eq;rw[oS]at q;rw[<-q,<-l];exact h _ (I.tok _)
theorem F0 {h':Heap}{t':Nat}{ob:HO}(I:Inv X pins σ H s)(mu:Mut (H a))(hs:gI a s.heap h')(he:∃q,h'.get? a=some q)(new:ObjOk X.prog X.w (upd H a ob) h' a ob) :
  Inv X pins σ (upd H a ob) { s with heap:=h',toks:=t' }:=
 I.write (x:=a) (e:=a) mu (.inl rfl) (λb q hb z=>(hs.2 b hb).trans z) he new
theorem U9 {P:aS}{w:bZ}{H':Hp}{h':Heap}{kvs:List (Key×V)}{vs:List (Key×aB)}(z:kvs.length<=sizeLine)(hd:(a == kK)=false)(rel:KV kvs vs)(dd:h'.DictOf (gh P w) a vs) :
  ObjOk P w H' h' a (.dK kvs):=⟨z,hd,vs,rel,dd⟩
theorem Lm {H':Hp}{Q:Unit->aI->Prop}(hu:A.units+1 < iJ)(I:Inv X pins σ H s)(g:DPut H a y v H')(ry:RelV y u)(rv:RelV v r)(h:∀s',Inv X pins σ H' s'->Q () s') :
  aM (aX X.prog X.w) A (setItem (.ref a) u r) Q E s:=by
 rcases g with⟨kvs,k,e,ey,l,eH⟩ | ⟨kvs,k,b,e,ey,eb,l,eH⟩
 ·subst ey eH;obtain⟨z,hd,vs,rel,dd⟩:=W9 I.hok e;have hz:vs.length<=sizeLine:=(by rw[<-rel.length];exact z);have hl:(ny kvs k v).length<=sizeLine:=(by have:=rj kvs k v;lia);refine wpAny_setItem_pairs (hsz:=hz) (Ci ry) dd λh' dd' hs=>h _ ?_;have he:∃q,h'.get? a=some q:=let ⟨q,_,_,hq,_⟩:=dd';⟨q,hq⟩;exact F0 I (by rw[e];exact oJ) hs he (U9 hl hd (rel.put k rv) dd')
 ·subst ey eH;cases(show u=cH b from ry);obtain⟨z,hd,xs,rel,dd⟩:=Xa I.hok e;have hz:xs.length<=sizeLine:=(by rw[<-Paired.length rel];exact z);have hl:(ny kvs k v).length<=sizeLine:=(by have:=rj kvs k v;lia);refine wpAny_setItem_heap (hsz:=hz) (tS hu) (zh I.hok eb) dd λh' dd' hs=>h _ ?_;obtain⟨q,es,ep,hq,h2,h3,h4,_,h5⟩:=dd';refine F0 I (by rw[e];exact oJ) hs ⟨q,hq⟩ ⟨hl,hd,_,(rel.put k eb rv).keeps λc ys ec=>?_,q,es,ep,hq,h2,h3,h4,h5⟩;rw[al (iw ec e (λz=>nomatch z))];exact ec
end
section
variable {X:Cx}{pins:List (Addr×Obj)}{σ:St}{H:Hp}{s:aI}{a:Addr}{kvs:List (Key×V)}{k:Key}{u:aB}{A:cW}{E:aB->aI->Prop}
end
def Va (i:Expr):Prop:=∀ov iv,vN i false ov iv=operate [ov,iv] (qM ov iv)
theorem Si {prog:aS}{w:bZ}{A:cW}{E:aB->aI->Prop}{s:aI}{env:Env}{value slice:Expr}{pos:Pos}{T id:String}{Q:aB->aI->Prop}
  (hl:iU (.type T) "__getitem__"=pure (some (.builtin id))) (hs:Va slice)
  (h:aM (aX prog w) A (eval value env) (λo s₁=>aM (aX prog w) A (eval slice env) (λi s₂=>s₂.TypeIs o T/\aM (aX prog w) A (qM o i) Q E s₂) E s₁) E s) :
  aM (aX prog w) A (eval (.Subscript value slice pos) env) Q E s:=by
 refine Subscript_ (gC h (λo s₁ h₁=>gC h₁ (λi s₂ h₂=>?_) λ_ _ x=>x) λ_ _ x=>x);obtain⟨hT,h₂⟩:=h₂;unfold tV;refine aC ?_;rw[getitemInPython_of_ne hT.not_modules];refine aC (lR hT hl ?_);have fin:aM (aX prog w) A (vN slice false o i) (λr s₃=>aM (aX prog w) A (letTemporaryGo value o r >>= λ_=>pure r) Q E s₃) E s₂:=by
  rw[hs o i];exact wpAny_operating (gC h₂ (λr s₃ h₃=>aC (wpAny_letTemporaryGo (wpAny_pure h₃))) λ_ _ x=>x)
 first
  |exact wpAny_pure (aC fin)
  |exact aC (wpAny_pure (aC fin))
  |exact aC fin
theorem Ff {X:Cx}{pins:List (Addr×Obj)}{σ:St}{H:Hp}{s:aI}{a:Addr}{y:V}{o:Option V}(I:Inv X pins σ H s)(g:DGet H a y o):s.TypeIs (.ref a) "dict":=by
 rcases g with⟨kvs,k,e,_,_⟩ | ⟨kvs,k,b,e,_,_,_⟩
 ·obtain⟨_,_,vs,_,dd⟩:=Cj I.hok e;exact dd.typeIs
 ·obtain⟨_,_,xs,_,dd⟩:=Ck I.hok e;exact dd.typeIs
def Xb (td ty:TE):TE:=λσ H Q=>td σ H λx H1=>ty σ H1 λy H2=>∃a v,x=.ref a/\DGet H2 a y (some v)/\Q v H2
def Sj (ty td:TE):TE:=λσ H Q=>ty σ H λy H1=>td σ H1 λx H2=>∃a o,x=.ref a/\DGet H2 a y o/\Q (.bl (!o.isSome)) H2
def Xc (td ty tv:TE):TS:=λD σ H=>tv σ H λv H1=>td σ H1 λx H2=>ty σ H2 λy H3=>∃a H4,x=.ref a/\DPut H3 a y v H4/\D.nx σ H4
section
variable {X:Cx}{o i e value:Expr}{pos pos' tpos:Pos}{td ty tv:TE}
theorem Sk (hu:X.A.units+1 < iJ)(ho:PE X o td)(hi:PE X i ty)(hs:Va i):PE X (.Subscript o i pos) (Xb td ty):=by
 intro pins s σ H Q I h;refine Si PySem.F.slot_dict_getitem.lookup hs (thn (ho pins s σ H _ I h) λu s1 h0_=>?_);obtain⟨x,H1,I1,rx,q1⟩:=h0_;refine thn (hi pins s1 σ H1 _ I1 q1) λiv s2 h0_=>?_;obtain⟨y,H2,I2,ry,a,v,ex,g,q2⟩:=h0_;subst ex;obtain rfl:u=cH a:=rx;exact⟨Ff I2 g,Ll hu I2 g ry λw' s3 I3 rw'=>⟨v,H2,I3,rw',q2⟩⟩
theorem Ln (hu:X.A.units+1 < iJ)(hi:PE X i ty)(ho:PE X o td):PC X .NotIn i o (Sj ty td):=by
 intro pins s σ H Q I h;refine thn (hi pins s σ H _ I h) λiv s1 h0_=>?_;obtain⟨y,H1,I1,ry,q1⟩:=h0_;refine thn (ho pins s1 σ H1 _ I1 q1) λu s2 h0_=>?_;obtain⟨x,H2,I2,rx,a,ov,ex,g,q2⟩:=h0_;subst ex;obtain rfl:u=cH a:=rx;exact Sh hu I2 g ry λs3 I3=>⟨.bl (!ov.isSome),H2,I3,rfl,q2⟩
theorem Sl (hu:X.A.units+1 < iJ)(ho:PE X o td)(hi:PE X i ty)(hv:PE X value tv)(hs:qA value (some (.Subscript o i pos')) pos.line X.env=pure false) :
  PS X (.Assign [.Subscript o i pos'] value pos) (Xc td ty tv):=by
 intro pins s σ H D I h;refine wpAny_Assign_Subscript (thn (hv pins s σ H _ I h) λr s1 h0_=>?_) hs;obtain⟨v,H1,I1,rv,q1⟩:=h0_;refine thn (ho pins s1 σ H1 _ I1 q1) λu s2 h0_=>?_;obtain⟨x,H2,I2,rx,q2⟩:=h0_;refine thn (hi pins s2 σ H2 _ I2 q2) λiv s3 h0_=>?_;obtain⟨y,H3,I3,ry,a,H4,ex,g,q3⟩:=h0_;subst ex;obtain rfl:u=cH a:=rx;exact Lm hu I3 g ry rv λs4 I4=>⟨σ,H4,I4,q3⟩
end
theorem Ov {P:aS}{w:bZ}{H:Hp}(h:Heap)(hb:kK < h.objs.size):ObjOk P w H (h.push { cls:=.type "dict",data:=.dict #[] }) h.objs.size (.dK []):=
 ⟨jZ _,beq_eq_false_iff_ne.mpr (gH (cK hb)),[],.nil,Heap.DictOf.new h⟩
def Vb:TE:=λ_ H Q=>∀p,H p=none->Q (.ref p) (upd H p (.dK []))
section
variable {X:Cx}{pos:Pos}
theorem Ow:PE X (.Dict [] [] pos) Vb:=λpins s σ H Q I h=>
 wpAny_Dict_empty ⟨.ref s.heap.objs.size,_,I.laid (a:=s.heap.objs.size) (o:=.dK []) (t':=s.toks) (λ_ _ q=>aJ _ q) (aO _) (Ov s.heap I.big),rfl,h _ (I.hok.fresh (aO _))⟩
end
structure M1 (X:Cx)(o:Expr)(m:Str)(apos:Pos)(e:Expr)(cpos:Pos):Prop where
 base:nJ o m X.env (eval o X.env)=eval o X.env
 few:((lE cpos (cZ [e] X.env)).all (λx=>!x.1) && (sY cpos (pP [] X.env)).all (λx=>x.1.isSome) && decide (([e]:List Expr).length+([]:List uI).length+(if ([]:List uI).isEmpty then 0 else 1) < 30))=true
 line:(apos.endLine == cpos.line)=true
 trees:lE cpos (cZ [e] X.env)=[(false,eval e X.env)]
section
variable {X:Cx}{pins:List (Addr×Obj)}{σ:St}{H:Hp}{s:aI}{a:Addr}{y d:V}{u r:aB}{o:Option V}{A:cW}{E:aB->aI->Prop}
end
section
variable {X:Cx}{o e f:Expr}{apos cpos:Pos}{td ty tx:TE}
end
section
variable {X:Cx}{pins:List (Addr×Obj)}{σ:St}{H:Hp}{s:aI}{a:Addr}{kvs:List (Key×V)}{A:cW}{E:aB->aI->Prop}
end
section
variable {X:Cx}{pins:List (Addr×Obj)}{σ:St}{H:Hp}{s:aI}{a:Addr}{y:V}{u:aB}{A:cW}{E:aB->aI->Prop}
end
end L2
namespace L2
open PySem PySem.Spec PyProof.Rows
section
variable {κ:Type}[DecidableEq κ]
theorem Gf:∀{l:List κ}{k:κ},l.Nodup->¬k∈l->(l++[k]).Nodup
 | [],k,_,_=>by simp
 |a::r,k,h,hk=>by
  obtain⟨h1,h2⟩:=lB.mp h;show(a::(r++[k])).Nodup;refine List.nodup_cons.mpr ⟨λm=>?_,Gf h2 λm=>hk (cD.mpr (lJ m))⟩;rcases eI.mp m with q | q
  ·exact h1 q
  ·exact hk (cD.mpr (bV (cE.mp q).symm))
end
end L2
namespace Bits
open PySem
theorem Eb (a b:Nat):(2 * a) &&& (2 * b+1)=2 * (a &&& b):=by
 apply nO;intro i;cases i with
 |zero=>simp
 |succ i=>
  rw[nF,jX,jX,jX,show 2 * a / 2=a by lia,show(2 * b+1) / 2=b by lia,show 2 * (a &&& b) / 2=a &&& b by lia,nF]
theorem Gg (a b:Nat):(2 * a+1) &&& (2 * b)=2 * (a &&& b):=by
 rw[Nat.and_comm,Eb,Nat.and_comm]
theorem Sm (a b:Nat):(2 * a) &&& (2 * b)=2 * (a &&& b):=by
 apply nO;intro i;cases i with
 |zero=>simp
 |succ i=>
  rw[nF,jX,jX,jX,show 2 * a / 2=a by lia,show 2 * b / 2=b by lia,show 2 * (a &&& b) / 2=a &&& b by lia,nF]
theorem Sn:∀(m:Nat),0 < m->∃k,m - (m &&& (m - 1))=2 ^ k/\2 ^ k<=m/\m &&& 2 ^ k=2 ^ k:=by
 intro m
 induction m using Nat.strongRecOn with
 |ind m ih=>
  intro hm;rcases Nat.mod_two_eq_zero_or_one m with h | h
  ·obtain⟨q,rfl⟩:∃q,m=2 * q:=⟨m / 2,by lia⟩;obtain⟨k,h1,h2,h3⟩:=ih q (by lia) (by lia);have e:2 * q - 1=2 * (q - 1)+1:=(by lia);refine⟨k+1,?_,?_,?_⟩
   ·rw[e,Eb,uV];lia
   ·rw[uV];lia
   ·rw[uV,wW (2 ^ k) 2,Sm,h3]
  ·obtain⟨q,rfl⟩:∃q,m=2 * q+1:=⟨m / 2,by lia⟩;refine⟨0,?_,?_,?_⟩
   ·have e:2 * q+1 - 1=2 * q:=(by lia);rw[e,Gg,Nat.and_self];lia
   ·rw[Nat.pow_zero];lia
   ·rw[Nat.pow_zero];have:=Gg q 0;apply nO;intro i;cases i with
    |zero=>simp
    |succ i=>simp[jX]
def qp (n:Nat)(m:Int):Prop:=0<=m/\m < 2 ^ n
theorem ja {n:Nat}{m:Int}(h:qp n m):∃k:Nat,m=(k:Int)/\k < 2 ^ n:=by
 obtain⟨h0,h1⟩:=h;refine⟨m.toNat,by lia,?_⟩;have:((2:Int) ^ n)=((2 ^ n:Nat):Int):=(by simp);rw[this]at h1;lia
theorem zi {n k:Nat}(h:k < 2 ^ n):qp n (k:Int):=by
 refine⟨by lia,?_⟩;have:((2:Int) ^ n)=((2 ^ n:Nat):Int):=(by simp);rw[this];lia
theorem Lo (n:Nat):qp n 0:=zi (k:=0) (sL n)
theorem Ox {n k:Nat}(h:k < n):qp n (2 ^ k):=by
 have e:((2:Int) ^ k)=((2 ^ k:Nat):Int):=(by simp);rw[e];exact zi (Nat.pow_lt_pow_right (by decide) h)
theorem Lp (a b:Nat):nI (a:Int) (b:Int)=((a ||| b:Nat):Int):=by
 unfold nI lY vZ;have h1:decide (0<=-(a:Int) - 1)=false:=(by simp;lia);have h2:decide (0<=-(b:Int) - 1)=false:=(by simp;lia);rw[h1,h2];dsimp only;have e1:(-(-(a:Int) - 1) - 1).toNat=a:=(by lia);have e2:(-(-(b:Int) - 1) - 1).toNat=b:=(by lia);rw[e1,e2];lia
theorem So {n:Nat}{a b:Int}(ha:qp n a)(hb:qp n b):qp n (nI a b):=by
 obtain⟨x,rfl,hx⟩:=ja ha;obtain⟨y,rfl,hy⟩:=ja hb;rw[Lp];exact zi (Nat.or_lt_two_pow hx hy)
theorem A8 (a b:Nat):lY (a:Int) (b:Int)=((a &&& b:Nat):Int):=by
 rw[PyProof.Rows.bitAnd_pp (by lia) (by lia)];rfl
end Bits
namespace Bits
open PySem
def MaskP (n:Nat)(m:Int)(p:Nat->Prop):Prop:=qp n m/\∀j,j < n->(m.toNat.testBit j=true↔p j)
theorem MaskP.iff {n:Nat}{m:Int}{p q:Nat->Prop}(h:MaskP n m p)(e:∀j,j < n->(p j↔q j)):MaskP n m q:=
 ⟨h.1,λj hj=>(h.2 j hj).trans (e j hj)⟩
theorem ju (n:Nat):MaskP n 0 (λ_=>False):=⟨Lo n,λj _=>by simp⟩
theorem Sq (k:Nat):((2:Int) ^ k).toNat=2 ^ k:=by
 have e:((2:Int) ^ k)=((2 ^ k:Nat):Int):=(by simp);rw[e,eY]
theorem qz {n k:Nat}(h:k < n):MaskP n (2 ^ k) (λj=>j=k):=⟨Ox h,λj _=>by
  rw[Sq,Nat.testBit_two_pow];simp[eq_comm]⟩
theorem uh {n:Nat}{a b:Int}{p q:Nat->Prop}(ha:MaskP n a p)(hb:MaskP n b q):MaskP n (nI a b) (λj=>p j\/q j):=by
 refine⟨So ha.1 hb.1,λj hj=>?_⟩;have ea:=ha.2 j hj;have eb:=hb.2 j hj;obtain⟨x,rfl,hx⟩:=ja ha.1;obtain⟨y,rfl,hy⟩:=ja hb.1;rw[Lp,eY,Nat.testBit_or,sM];rw[eY]at ea eb;rw[ea,eb]
theorem MaskP.uniq {n:Nat}{a b:Int}{p:Nat->Prop}(ha:MaskP n a p)(hb:MaskP n b p):a=b:=by
 have ea:=ha.2;have eb:=hb.2;obtain⟨x,rfl,hx⟩:=ja ha.1;obtain⟨y,rfl,hy⟩:=ja hb.1;rw[eY]at ea eb;congr 1;apply nO;intro j;by_cases hj:j < n
 ·have:=(ea j hj).trans (eb j hj).symm;cases h1:x.testBit j<;>cases h2:y.testBit j<;>simp_all
 ·have hp:2 ^ n<=2 ^ j:=pG (by decide) (by lia);rw[Nat.testBit_lt_two_pow (by lia),Nat.testBit_lt_two_pow (by lia)]
theorem MaskP.zero_iff {n:Nat}{a:Int}{p:Nat->Prop}(ha:MaskP n a p):a=0↔∀j,j < n->¬p j:=by
 constructor
 ·intro h_1 j hj h;subst h_1;have:=(ha.2 j hj).mpr h;simp at this
 ·intro h;exact ha.uniq ((ju n).iff λj hj=>⟨λz=>z.elim,λz=>h j hj z⟩)
theorem Sr (x k:Nat)(h:x &&& 2 ^ k=2 ^ k)(j:Nat):(x - 2 ^ k).testBit j=(x.testBit j && decide (j≠k)):=by
 have hb:x.testBit k=true:=by
  have:=congrArg (λz=>xK z k) h;simp only[nF,Nat.testBit_two_pow_self,tW]at this;exact this
 have hp:=sL k;have ho:x / 2 ^ k % 2=1:=by
  rw[Nat.testBit_eq_decide_div_mod_eq]at hb;exact of_decide_eq_true hb
 have ex:=Nat.div_add_mod x (2 ^ k);have hl:x % 2 ^ k < 2 ^ k:=Nat.mod_lt _ hp;generalize x / 2 ^ k=a at ho ex;generalize x % 2 ^ k=b at ex hl;obtain⟨c,rfl⟩:∃c,a=2 * c+1:=⟨a / 2,by lia⟩;have e2:x - 2 ^ k=2 ^ k * (2 * c)+b:=by
  rw[<-ex,Nat.mul_add,Nat.mul_one];lia
 rw[e2,<-ex,Nat.testBit_two_pow_mul_add _ hl,Nat.testBit_two_pow_mul_add _ hl];by_cases hj:j < k
 ·rw[if_pos hj,if_pos hj];have:decide (j≠k)=true:=(by simp;lia);rw[this,tW]
 ·rw[if_neg hj,if_neg hj];by_cases e:j=k
  ·subst e;simp
  ·obtain⟨d,rfl⟩:∃d,j=k+(d+1):=⟨j - k - 1,by lia⟩;have e3:k+(d+1) - k=d+1:=(by lia);rw[e3,jX,jX,show 2 * c / 2=c by lia,show(2 * c+1) / 2=c by lia];have:decide (k+(d+1)≠k)=true:=(by simp);rw[this,tW]
theorem Lq {n:Nat}{m:Int}{p:Nat->Prop}(h:MaskP n m p)(h0:m≠0):∃k:Nat,lY m (-m)=2 ^ k/\k < n/\p k/\MaskP n (sW m (2 ^ k)) (λj=>p j/\j≠k)/\sW m (2 ^ k) < m:=by
 have hm:=h.2;obtain⟨x,rfl,hx⟩:=ja h.1;have hx0:0 < x:=(by lia);obtain⟨k,h1,h2,h3⟩:=Sn x hx0;have hk:k < n:=(Nat.pow_lt_pow_iff_right (by decide)).mp (jU h2 hx);have e:((2:Int) ^ k)=((2 ^ k:Nat):Int):=(by simp);rw[eY]at hm;have hb:x.testBit k=true:=by
  have:=congrArg (λz=>xK z k) h3;simp only[nF,Nat.testBit_two_pow_self,tW]at this;exact this
 have e3:sW (x:Int) (2 ^ k)=((x - 2 ^ k:Nat):Int):=by
  rw[e,PyProof.Rows.bitXor_and,A8,h3];lia
 refine⟨k,?_,hk,(hm k hk).mp hb,?_,?_⟩
 ·rw[PyProof.Rows.bitAnd_pn (by lia) (by lia)];have e1:(vZ (-(x:Int))).toNat=x - 1:=(by unfold vZ;lia);rw[e1,e,<-h1];have:=Nat.and_le_left (n:=x) (m:=x - 1);simp only[eY];lia
 ·rw[e3];refine⟨zi (by lia),λj hj=>?_⟩;rw[eY,Sr x k h3 j,iO,hm j hj,decide_eq_true_iff]
 ·rw[e3];have:0 < 2 ^ k:=sL k;lia
theorem Lr {n:Nat}{m:Int}(h:qp n m)(j:Nat):(lY (m / 2 ^ ((j:Int)).toNat) 1 != 0)=m.toNat.testBit j:=by
 obtain⟨x,rfl,hx⟩:=ja h;rw[eY,eY];have e:((x:Int)) / 2 ^ j=((x / 2 ^ j:Nat):Int):=(by simp);rw[e,show(1:Int)=((1:Nat):Int)from rfl,A8,Nat.and_one_is_mod,Nat.testBit_eq_decide_div_mod_eq];have:=Nat.mod_two_eq_zero_or_one (x / 2 ^ j);rcases this with z | z<;>rw[z]<;>simp
theorem Ss {n:Nat}{m:Int}(h:qp n m)(j:Nat):(lY m (2 ^ j) != 0)=m.toNat.testBit j:=by
 obtain⟨x,rfl,hx⟩:=ja h;rw[eY];have e:((2:Int) ^ j)=((2 ^ j:Nat):Int):=(by simp);rw[e,A8];cases hb:x.testBit j with
 |true=>
  have:x &&& 2 ^ j≠0:=λz=>by
   have:=congrArg (λz=>xK z j) z;simp[hb]at this
  simp only[bne_iff_ne,ne_eq];lia
 |false=>
  have:x &&& 2 ^ j=0:=by
   apply nO;intro i;rw[nF,Nat.testBit_two_pow];by_cases hi:j=i
   ·subst hi;simp[hb]
   ·simp[hi]
  rw[this];rfl
def RelP (n:Nat)(ns:List Int)(R:Nat->Nat->Prop):Prop:=ns.length=n/\∀i m,ns[i]?=some m->MaskP n m (R i)
theorem RelP.iff {n:Nat}{ns:List Int}{R S:Nat->Nat->Prop}(h:RelP n ns R)(e:∀i j,i < n->j < n->(R i j↔S i j)):RelP n ns S:=
 ⟨h.1,λi m hm=>(h.2 i m hm).iff λj hj=>e i j (by rw[<-h.1];exact(aK.mp hm).1) hj⟩
def PartP (n:Nat)(ns:List Int)(i:Nat)(R:Nat->Nat->Prop):Prop:=ns.length=i/\∀i m,ns[i]?=some m->MaskP n m (R i)
theorem PartP.nil {n:Nat}{R:Nat->Nat->Prop}:PartP n [] 0 R:=⟨rfl,λi m e=>by simp at e⟩
theorem PartP.snoc {n:Nat}{os:List Int}{i:Nat}{R:Nat->Nat->Prop}{y:Int}(h:PartP n os i R)(hy:MaskP n y (R i)):PartP n (os++[y]) (i+1) R:=by
 refine⟨by rw[aN,h.1];rfl,λj m e=>?_⟩;by_cases hj:j < os.length
 ·rw[eP hj]at e;exact h.2 j m e
 ·rw[gB (by lia)]at e;have hl:=(aK.mp e).1;simp only[dX,lS]at hl;have e0:j - os.length=0:=(by lia);rw[e0]at e;have ej:j=i:=(by have:=h.1;lia);subst ej;cases e;exact hy
theorem RelP.at {n:Nat}{ns:List Int}{R:Nat->Nat->Prop}(h:RelP n ns R){k:Nat}(hk:k < n):∃m,ns[k]?=some m/\MaskP n m (R k):=by
 have hk':k < ns.length:=(by rw[h.1];exact hk);exact⟨ns[k],aL hk',h.2 k _ (aL hk')⟩
inductive Star (n:Nat)(R:Nat->Nat->Prop):Nat->Nat->Prop
 |refl {i:Nat}:Star n R i i
 |step {i k j:Nat}:R i k->k < n->Star n R k j->Star n R i j
theorem Star.trans {n:Nat}{R:Nat->Nat->Prop}{i j k:Nat}(a:Star n R i j)(b:Star n R j k):Star n R i k:=by
 induction a with
 |refl=>exact b
 |step r h _ ih=>exact .step r h (ih b)
inductive Thru (n:Nat)(R:Nat->Nat->Prop)(m:Nat):Nat->Nat->Prop
 |refl {i:Nat}:Thru n R m i i
 |one {i j:Nat}:R i j->Thru n R m i j
 |step {i k j:Nat}:k < n->k < m->Thru n R m i k->Thru n R m k j->Thru n R m i j
theorem Thru.zero {n:Nat}{R:Nat->Nat->Prop}{i j:Nat}:Thru n R 0 i j↔j=i\/R i j:=by
 constructor
 ·intro h;cases h with
  |refl=>exact .inl rfl
  |one r=>exact .inr r
  |step _ h _ _=>exact absurd h (sO _)
 ·rintro(rfl | h)
  ·exact .refl
  ·exact .one h
theorem Thru.mono {n:Nat}{R:Nat->Nat->Prop}{m m':Nat}(hm:m<=m'){i j:Nat}(h:Thru n R m i j):Thru n R m' i j:=by
 induction h with
 |refl=>exact .refl
 |one r=>exact .one r
 |step h1 h2 _ _ ih1 ih2=>exact .step h1 (by lia) ih1 ih2
theorem Thru.succ {n:Nat}{R:Nat->Nat->Prop}{m:Nat}(hm:m < n){i j:Nat}:Thru n R (m+1) i j↔Thru n R m i j\/(Thru n R m i m/\Thru n R m m j):=by
 constructor
 ·intro h
  induction h with
  |refl=>exact .inl .refl
  |one r=>exact .inl (.one r)
  |@step i k j h1 h2 _ _ ih1 ih2=>
   by_cases hk:k=m
   ·subst hk;refine .inr ⟨?_,?_⟩
    ·rcases ih1 with a | a
     ·exact a
     ·exact a.1
    ·rcases ih2 with a | a
     ·exact a
     ·exact a.2
   ·have hk':k < m:=(by lia);rcases ih1 with a | a<;>rcases ih2 with b | b
    ·exact .inl (.step h1 hk' a b)
    ·exact .inr ⟨.step h1 hk' a b.1,b.2⟩
    ·exact .inr ⟨a.1,.step h1 hk' a.2 b⟩
    ·exact .inr ⟨a.1,b.2⟩
 ·rintro(a | ⟨a,b⟩)
  ·exact a.mono (by lia)
  ·exact .step hm (by lia) (a.mono (by lia)) (b.mono (by lia))
theorem Thru.star {n:Nat}{R:Nat->Nat->Prop}{i j:Nat}(hj:j < n):Thru n R n i j↔Star n R i j:=by
 constructor
 ·intro h
  induction h with
  |refl=>exact .refl
  |one r=>exact .step r hj .refl
  |step h1 _ _ _ ih1 ih2=>exact(ih1 h1).trans (ih2 hj)
 ·intro h
  induction h with
  |refl=>exact .refl
  |step r h _ ih=>exact .step h h (.one r) (ih hj)
def pick {α:Type}(m:Int)(xs:List α)(k:Nat):List α:=(fK k).filterMap λi=>if m.toNat.testBit i=true then xs[i]? else none
theorem xr {α:Type}{m:Int}{xs:List α}{k:Nat}{x:α}(h:m.toNat.testBit k=true)(e:xs[k]?=some x):pick m xs (k+1)=pick m xs k++[x]:=by
 unfold pick;rw[jO,jQ];simp[h,e]
theorem Ba {α:Type}{m:Int}{xs:List α}{k:Nat}(h:m.toNat.testBit k=false):pick m xs (k+1)=pick m xs k:=by
 unfold pick;rw[jO,jQ];simp[h]
theorem Ec {α:Type}{m:Int}{xs:List α}{k:Nat}{x:α}:x∈pick m xs k↔∃i,i < k/\m.toNat.testBit i=true/\xs[i]?=some x:=by
 unfold pick;rw[List.mem_filterMap];constructor
 ·intro h_1;obtain⟨i,hi,e⟩:=h_1
  split at e
  ·exact⟨i,eZ.mp hi,by assumption,e⟩
  ·cases e
 ·intro h_1;obtain⟨i,hi,h,e⟩:=h_1;exact⟨i,eZ.mpr hi,by rw[if_pos h];exact e⟩
theorem Su {α:Type}(m:Int)(xs:List α)(k:Nat):(pick m xs k).length<=k:=by
 unfold pick;have:=jY (λi=>if m.toNat.testBit i=true then xs[i]? else none) (fK k)
 rw[gK]at this;exact this
end Bits
namespace S25
open PySem L2 Bits
def Bb (n:Nat)(R:Nat->Nat->Prop)(H:Hp)(Q:VK):Prop:=∀(r:Addr)(ns:List Int) (H':Hp),Same H H'->H r=none->H' r=some (.lst (ns.map V.int))->RelP n ns R->Q (.ref r) H'
def Jc:Sp:=λvs H Q _=>∃n:Nat,vs=[.int (n:Int)]/\n<=300/\Bb n (λ_ _=>False) H Q
def Jd:Sp:=λvs H Q _=>∃n:Nat,vs=[.int (n:Int)]/\n<=300/\Bb n (λi j=>j=i) H Q
def Ls (T:Nat->(Nat->Nat->Prop)->(Nat->Nat->Prop)->Nat->Nat->Prop)(K:aA):Sp:=λvs H Q _=>∃(n:Nat)(a b:Addr) (ns ms:List Int) (R S:Nat->Nat->Prop),vs=[.ref a,.ref b]/\SqL K H a (ns.map V.int)/\RelP n ns R/\SqL K H b (ms.map V.int)/\RelP n ms S/\n<=300/\Bb n (T n R S) H Q
def orR:Nat->(Nat->Nat->Prop)->(Nat->Nat->Prop)->Nat->Nat->Prop:=λ_ R S i j=>R i j\/S i j
def mq:Nat->(Nat->Nat->Prop)->(Nat->Nat->Prop)->Nat->Nat->Prop:=λn R S i j=>∃k,k < n/\R i k/\S k j
def su:Nat->(Nat->Nat->Prop)->Nat->Nat->Prop:=λn R i j=>j=i/\∀k,k < n->¬R i k
abbrev zj:=Ls orR
abbrev Je:=Ls mq
def Gh (K:aA):Sp:=λvs H Q _=>∃(n:Nat)(m:Int) (a:Addr) (ns:List Int) (p:Nat->Prop) (S:Nat->Nat->Prop),vs=[.int m,.ref a]/\MaskP n m p/\SqL K H a (ns.map V.int)/\RelP n ns S/\∀z:Int,MaskP n z (λj=>∃k,k < n/\p k/\S k j)->Q (.int z) H
def Cl (T:Nat->(Nat->Nat->Prop)->Nat->Nat->Prop)(K:aA):Sp:=λvs H Q _=>∃(n:Nat)(a:Addr) (ns:List Int) (R:Nat->Nat->Prop),vs=[.ref a]/\SqL K H a (ns.map V.int)/\RelP n ns R/\n<=300/\Bb n (T n R) H Q
def Gi (K:aA):Sp:=λvs H Q _=>∃(a:Addr)(n:Nat) (m:Int) (xs:List V),vs=[.ref a,.int m]/\qp n m/\SqL K H a xs/\xs.length<=300/\
 ∀(r:Addr)(H':Hp),Same H H'->H r=none->H' r=some (.lst (pick m xs xs.length))->Q (.ref r) H'
theorem Ed (n:Nat):(dQ n [V.int 0]).flatten=(dQ n (0:Int)).map V.int:=by
 induction n with
 |zero=>rfl
 |succ n ih=>rw[iQ,nL,ih,iQ];rfl
theorem jb {ns:List Int}{i:Nat}{x:V}(h:(ns.map V.int)[i]?=some x):∃m,ns[i]?=some m/\x=.int m:=by
 rw[eK]at h;obtain⟨m,e,rfl⟩:=gJ.mp h;exact⟨m,e,rfl⟩
def Vc:gG:={ kind:=.function,names:=[(".0",.local),("place",.local)],isGenerator:=false,isCoroutine:=false,more:=[] }
def Vd:gG:={ kind:=.function,names:=[(".0",.local),("mask",.local),("another",.local)],isGenerator:=false,isCoroutine:=false,more:=[] }
def Ve:gG:={ kind:=.function,names:=[(".0",.local),("place",.local),("mask",.local)],isGenerator:=false,isCoroutine:=false,more:=[] }
section
variable {P:aS}{w:bZ}{K:aA}{mg:Str->Option aB}{base:Heap}
theorem scNh:ar ["size"] ["size"] (aj sNo):=fsN
theorem Xd {f:Addr}{fd:cC}(F:Fun K "nothing" "nothing" sNo f fd):FnOk P w K mg base CX0 1 f fd ["size"] Jc:=by
 refine F.ok scNh (λvs H Q E h=>?_) (λcdv A outer s H vs Q E hr h=>?_)
 ·obtain⟨n,rfl,_⟩:=h;rfl
 obtain⟨n,rfl,h300,q⟩:=h;refine⟨_,ai (au (bc C5 (av (bj ag af)) (pv 0))),?_⟩;refine⟨sz1,λl hl=>⟨_,rfl,l,_,_,rfl,rfl,ae,by lia,by lia,?_,λp hp=>?_⟩⟩
 ·show 1 * ((n:Int)).toNat<=sizeLine;exact small (by lia)
 ·have s1:=Same.trans (ad hl (.lst [.int 0])) (ad hp (.lst (dQ ((n:Int)).toNat [V.int 0]).flatten));have e:((n:Int)).toNat=n:=(by lia);refine q p (dQ n 0) _ s1 (Same.free (ad hl (.lst [.int 0])) hp) ?_ ⟨gN,λi m hm=>?_⟩
  ·rw[ae,e,Ed]
  ·rw[List.eq_of_mem_replicate (bQ hm)];exact ju n
theorem csSm {X:Cx}:cb X ["place"] [] [] Vc []:=jo rfl (by decide +kernel) (by decide +kernel) (by decide +kernel)
theorem scSz:ar ["size"] ["size"] (aj Ij):=fsN
theorem Sv {f:Addr}{fd:cC}(F:Fun K "the_same" "the_same" Ij f fd)(mr:mg "range"=none):FnOk P w K mg base CX0 1 f fd ["size"] Jd:=by
 refine F.ok scSz (λvs H Q E h=>?_) (λcdv A outer s H vs Q E hr h=>?_)
 ·obtain⟨n,rfl,_⟩:=h;rfl
 obtain⟨n,rfl,h300,q⟩:=h;refine⟨_,ai (au (cy (ns:=["place"]) (ys:=[]) (sc:=Vc) csSm rfl (ip rfl mr (ac (pv 0) af)) (λC s H fp=>ay (i:=0) (by show(["place"]:List Str).Nodup;decide +kernel) rfl (bV rfl)) (λC s H fp=>cw) (λC s H fp=>bc va ag (pv 0)))),?_⟩;refine⟨_,rfl,(n:Int),rfl,by lia,by lia,λD hD=>?_⟩;have e:((n:Int)).toNat=n:=(by lia);refine o7 (n:=((n:Int)).toNat) (λj ys G=>Same H G/\G D=some (.lst ys)/\ys=((fK j).map λi:Nat=>(2:Int) ^ i).map V.int) ⟨ad hD _,ae,rfl⟩ (λj ys G z=>z.2.1) ?_ ?_
 ·intro j ys G hj h_1;obtain⟨sG,gD,rfl⟩:=h_1;refine⟨bg (by rw[aG,aG,gK];lia),⟨[some _],rfl,rfl⟩,?_⟩;refine⟨_,rfl,_,_,rfl,rfl,⟨by lia,by lia,by decide⟩,gD,Same.put sG hD _,ae,?_⟩;rw[jO,aZ,aZ];have z:(1:Int) * 2 ^ (0+(j:Int)).toNat=2 ^ j:=by
   rw[tO,show(0+(j:Int)).toNat=j by lia]
  show _++[V.int ((1:Int) * 2 ^ (0+(j:Int)).toNat)]=_;rw[z];rfl
 ·intro ys G h_1;obtain⟨sG,gD,rfl⟩:=h_1;rw[e]at gD;refine q D _ G sG hD gD ⟨by rw[aG,gK],λi m hm=>?_⟩;rw[eK]at hm;obtain⟨i',hi,rfl⟩:=gJ.mp hm;obtain⟨h1,h2⟩:=aK.mp hi;rw[List.getElem_range]at h2;subst h2;rw[gK]at h1;exact qz h1
theorem csEi {X:Cx}:cb X ["mask","another"] [] [] Vd []:=jo rfl (by decide +kernel) (by decide +kernel) (by decide +kernel)
theorem scEh:ar ["one","other"] ["one","other"] (aj Ik):=fsN
theorem Sx {f:Addr}{fd:cC}(F:Fun K "either_of" "either_of" Ik f fd)(mz:mg "zip"=none):FnOk P w K mg base CX0 1 f fd ["one","other"] (zj K):=by
 refine F.ok scEh (λvs H Q E h=>?_) (λcdv A outer s H vs Q E hr h=>?_)
 ·obtain⟨n,a,b,ns,ms,R,S,rfl,_⟩:=h;rfl
 obtain⟨n,a,b,ns,ms,R,S,rfl,ha,rn,hb,rm,h300,q⟩:=h;refine⟨_,ai (au (cy (ns:=["mask","another"]) (ys:=[]) (sc:=Vd) csEi rfl (A6 rfl mz (ac (pv 0) (ac (pv 1) af))) (λC s H fp=>pg2 rfl) (λC s H fp=>cw) (λC s H fp=>bc Hh (pv 0) (pv 1)))),?_⟩;dsimp only[bf,Cx.nox];refine⟨_,rfl,_,rfl,a,b,_,_,rfl,ha,hb,λD hD=>?_⟩;have l1:=rn.1;have l2:=rm.1;refine vh (K:=K) (a:=a) (b:=b) (xs:=ns.map V.int) (ws:=ms.map V.int) (by rw[aG,aG,l1,l2]) (λi ys G=>Same H G/\G D=some (.lst ys)/\∃os:List Int,ys=os.map V.int/\PartP n os i (orR n R S))
  ⟨ad hD _,ae,[],rfl,.nil⟩ (λi ys G z=>z.2.1) (λi ys G _ z=>⟨z.1.seq ha,z.1.seq hb⟩) ?_ ?_ ?_
 ·intro i ys G hi h_1;obtain⟨sG,gD,os,rfl,op⟩:=h_1;rw[aG]at hi;have ol:=op.1;exact bg (by rw[aG];lia)
 ·intro i x y t ys G hx hy h_1 ht;obtain⟨sG,gD,os,rfl,op⟩:=h_1;obtain⟨u,eu,rfl⟩:=jb hx;obtain⟨v,ev,rfl⟩:=jb hy;have mu:=rn.2 i u eu;have mv:=rm.2 i v ev;have Dt:D≠t:=am gD ht;refine⟨t,_,rfl,SqT.of ae,rfl,_,_,rfl,_,_,rfl,rfl,⟨[some _,some _],rfl,rfl⟩,?_⟩;refine⟨_,rfl,_,rfl,_,_,rfl,rfl,(by rw[al Dt];exact gD),Same.put (Same.put sG (Same.free sG ht) _) hD _,ae,os++[nI u v],(by rw[aZ];rfl),op.snoc (uh mu mv)⟩
 ·intro ys G h_1;obtain⟨sG,gD,os,rfl,op⟩:=h_1;rw[aG,l1]at op;exact q D os G sG hD gD op
theorem Ee:ar ["mask","relation","reached","lowest"] ["mask","relation"] (aj Dn):=fsN
theorem Oy {f:Addr}{fd:cC}(F:Fun K "reached_from" "reached_from" Dn f fd):FnOk P w K mg base CX0 1 f fd ["mask","relation"] (Gh K):=by
 refine F.ok Ee (λvs H Q E h=>?_) (λcdv A outer s H vs Q E hr h=>?_)
 ·obtain⟨n,m,a,ns,p,S,rfl,_⟩:=h;rfl
 obtain⟨n,m0,a,ns,p0,S,rfl,mm0,ha,rn,q⟩:=h;refine⟨_,ah (ax (i:=2) Ee.nd rfl (bV rfl) ag) (ah (xj eB (j9 (pv 0) (λ_=>rfl)) (ah (ax (i:=3) Ee.nd rfl (bV rfl) (bc yc (pv 0) (j7 je (pv 0)))) (ah (Kc (i:=2) Ee.nd rfl (bV rfl) (aq aw (pv 1) (bc Cz (yk PySem.F.plainAttrs_int PySem.F.slot_int_bit_length PySem.F.type_int_bit_length Sg (pv 3)) ag) (λ_ _=>rfl)) Uh) (ai (Kc (i:=0) Ee.nd rfl (bV rfl) (pv 3) Q8))))) (ai (au (pv 2)))),?_⟩;dsimp only[bf,Cx.nox];refine⟨λk σ G=>∃(m z:Int)(v:Option V) (p r:Nat->Prop),σ=[some (.int m),some (.ref a),some (.int z),v]/\G=H/\MaskP n m p/\MaskP n z r/\(∀j,j < n->((∃k,k < n/\p0 k/\S k j)↔r j\/∃k,k < n/\p k/\S k j))/\k=m.toNat,⟨_,m0,0,none,p0,λ_=>False,rfl,rfl,mm0,ju n,λj hj=>⟨.inr,λz=>z.elim (λf=>f.elim) id⟩,rfl⟩,?_⟩;intro k σ G h_1;obtain⟨m,z,v,p,r,rfl,rfl,mm,mz,hpr,rfl⟩:=h_1;refine⟨_,rfl,(m != 0),rfl,?_⟩;refine c9 (λc=>?_) (λc=>?_)
 ·have m0:m≠0:=(by simpa using c);obtain⟨k,e1,k1,kp,k2,k3⟩:=Lq mm m0;refine⟨λσ' G'=>∃(m' z:Int)(v:Option V) (p r:Nat->Prop),σ'=[some (.int m'),some (.ref a),some (.int z),v]/\G'=G/\MaskP n m' p/\MaskP n z r/\(∀j,j < n->((∃k,k < n/\p0 k/\S k j)↔r j\/∃k,k < n/\p k/\S k j))/\m'.toNat < m.toNat,λσ' G' y=>?_,?_⟩
  ·obtain⟨m',z',v',p',r',y1,y2,y3,y4,y5,y6⟩:=y;exact⟨_,y6,m',z',v',p',r',y1,y2,y3,y4,y5,rfl⟩
  ·obtain⟨rr,er,mr⟩:=rn.at k1;have vr:(ns.map V.int)[k]?=some (.int rr):=(by rw[eK,er];rfl);refine⟨_,rfl,_,rfl,_,rfl,_,_,rfl,rfl,?_⟩;show o6 3 (V.int (lY m (-m))) _ _ _;rw[e1];have ek:(((pT ((2:Int) ^ k):Nat):Int)) - 1=(k:Int):=(by rw[Ou];lia);refine⟨_,rfl,_,rfl,_,rfl,rfl,_,rfl,rfl,_,_,rfl,rfl,a,_,_,_,rfl,rfl,ha,(by rw[ek];exact bh vr),_,_,rfl,rfl,?_⟩;refine⟨_,rfl,_,rfl,_,_,rfl,rfl,_,_,_,_,_,rfl,rfl,k2,uh mz mr,λj hj=>?_,?_⟩
   ·rw[hpr j hj];constructor
    ·rintro(h | ⟨i,hi,h1,h2⟩)
     ·exact .inl (.inl h)
     ·by_cases e:i=k
      ·subst e;exact .inl (.inr h2)
      ·exact .inr ⟨i,hi,⟨h1,e⟩,h2⟩
    ·rintro((h | h) | ⟨i,hi,h1,h2⟩)
     ·exact .inl h
     ·exact .inr ⟨k,k1,kp,h⟩
     ·exact .inr ⟨i,hi,h1.1,h2⟩
   ·have:=k2.1.1;have:=mm.1.1;lia
 ·have m0:m=0:=(by simpa using c);refine⟨_,rfl,q z (mz.iff λj hj=>?_)⟩;rw[hpr j hj];constructor
  ·exact .inl
  ·rintro(h | ⟨i,hi,h1,_⟩)
   ·exact h
   ·exact absurd h1 (mm.zero_iff.mp m0 i hi)
end
end S25
namespace S25
open PySem L2 Bits
def Vf:gG:={ kind:=.function,names:=[(".0",.local),("mask",.local),("known",.free)],isGenerator:=false,isCoroutine:=false,more:=[] }
def Vg:gG:={ kind:=.function,names:=[(".0",.local),("row",.local),("middle",.free),("through",.free)],isGenerator:=false,isCoroutine:=false,more:=[] }
def Vh:gG:={ kind:=.function,names:=[(".0",.local),("place",.local),("letter",.local),("mask",.free)],isGenerator:=false,isCoroutine:=false,more:=[] }
abbrev nOn:List Str:=["first","second","known","mask"]
abbrev nAg:List Str:=["relation","rows","middle","through"]
abbrev nLi:List Str:=["letters","mask"]
section
variable {P:aS}{w:bZ}{K:aA}{mg:Str->Option aB}{base:Heap}
theorem Oz:ar nOn ["first","second"] (aj Il):=fsN
theorem cOn {CX:CXT}{f:Addr}{cdv:aB}{A:cW}{outer:List Env}{s:aI}{H:Hp}{E:XK} :
  cb (bf CX P w K mg base nOn "one_then_other" (aj Il) f cdv A outer s H E).nox ["mask"] ["known"] [2] Vf [("known",s.heap.objs.size+1)]:=csN [(".0",.local),("mask",.local),("known",.cell)]
theorem Vi {f fR:Addr}{fd dR:cC}(F:Fun K "one_then_other" "one_then_other" Il f fd)
  (GR:FnOk P w K mg base CX0 1 fR dR ["mask","relation"] (Gh K)) (bR:Binds K dR ["mask","relation"] []) (kR:aU K (.ref fR)=true) (mR:mg "reached_from"=some (.ref fR)) :
  FnOk P w K mg base CX0 2 f fd ["first","second"] (Je K):=by
 refine F.ok Oz (λvs H Q E h=>?_) (λcdv A outer s H vs Q E hr h=>?_)
 ·obtain⟨n,a,b,ns,ms,R,S,rfl,_⟩:=h;rfl
 obtain⟨n,a,b,ns,ms,R,S,rfl,ha,rn,hb,rm,h300,q⟩:=h;refine⟨_,ah (ax (i:=2) Oz.nd rfl (lJ rfl) Ow) (ah (de eB rfl (ck (pv 0)) (ay (i:=3) Oz.nd rfl (bV rfl)) (ai (cj (T9 (Ln (Ht hr) (pv 3) (pv 2)) (by with_unfolding_all rfl)) (ai (Sl (Ht hr) (pv 2) (pv 3) (ao GR hr rfl mR kR bR .nil az (ac (pv 3) (ac (pv 1) af))) rfl)) bo))) (ai (au (cy (ns:=["mask"]) (ys:=["known"]) (sc:=Vf) cOn rfl (ck (pv 0)) (λC s H fp=>ay (i:=0) (by show(["mask","known"]:List Str).Nodup;decide +kernel) rfl (bV rfl)) (λC s H fp=>cw) (λC s H fp=>Sk (Ht hr) (pv 1) (pv 0) (λ_ _=>rfl)))))),?_⟩
 dsimp only[bf,Cx.nox];intro d hd;have l1:=rn.1;have s0:Same H (upd H d (.dK [])):=ad hd _;refine⟨_,rfl,a,rfl,⟨_,s0.seq ha⟩,gq (K:=K) (a:=a) (xs:=ns.map V.int) (λi σ G=>∃(kvs:List (Key×V))(v:Option V),σ=[some (.ref a),some (.ref b),some (.ref d),v]/\Same H G/\G d=some (.dK kvs)/\kvs.length<=i/\(∀(m:Int) z,gy kvs (Sum.inl m)=some z->∃y,z=.int y/\MaskP n y (λj=>∃k,k < n/\m.toNat.testBit k=true/\S k j))/\∀j,j < i->∀m,ns[j]?=some m->∃z,gy kvs (Sum.inl m)=some z) ⟨[],none,rfl,s0,ae,aO _,(λk z e=>nomatch e),λj hj=>absurd hj (sO _)⟩ (λi σ G _ h0_=>by obtain⟨_,_,_,sG,_⟩:=h0_;exact sG.seq ha) ?_ ?_⟩
 ·intro i x σ G hx h_1;obtain⟨kvs,v,rfl,sG,gd,kl,kv,kj⟩:=h_1;generalize hE1_:db.mk _ _ _ _=E1_;revert hE1_ E1_;refine id ?_;intro E1_ hE1_;obtain⟨m,em,rfl⟩:=jb hx;have mm:=rn.2 i m em;have hi:i < ns.length:=(aK.mp em).1;refine⟨_,rfl,_,rfl,d,_,rfl,DGet.k (k:=Sum.inl m) gd,_,rfl,?_⟩;have old:∀z,gy kvs (Sum.inl m)=some z->∀j,j < i+1->∀m',ns[j]?=some m'->∃z,gy kvs (Sum.inl m')=some z:=λz ez j hj m' em'=>by
   by_cases hji:j < i
   ·exact kj j hji m' em'
   ·have:j=i:=(by lia);subst this;rw[em]at em';cases em';exact⟨z,ez⟩
  subst hE1_;cases ev:gy kvs (Sum.inl m)with
  |some z=>exact cr ⟨kvs,_,rfl,sG,gd,by lia,kv,old z ev⟩
  |none=>
   refine gw ⟨_,rfl,_,rfl,n,m,b,ms,_,S,rfl,⟨mm.1,λj _=>Iff.rfl⟩,sG.seq hb,rm,λz mz=>?_⟩;refine⟨_,rfl,_,rfl,d,_,rfl,DPut.k (k:=Sum.inl m) gd (bg (by lia)),?_⟩;refine⟨_,_,rfl,Same.put sG hd _,ae,?_,λk y e=>?_,λj hj m' em'=>?_⟩
   ·have:=rj kvs (Sum.inl m) (.int z);lia
   ·rw[Ea]at e
    split at e
    ·rename_i ek
     cases ek;cases e;exact⟨z,rfl,mz⟩
    ·exact kv k y e
   ·rw[Ea]
    split
    ·exact⟨_,rfl⟩
    ·rename_i hne
     by_cases hji:j < i
     ·exact kj j hji m' em'
     ·have:j=i:=(by lia);subst this;rw[em]at em';cases em';exact absurd rfl hne
 ·intro σ G h_1;obtain⟨kvs,v,rfl,sG,gd,kl,kv,kj⟩:=h_1;rw[aG]at kl kj;refine⟨_,rfl,a,rfl,⟨_,sG.seq ha⟩,λD hD=>?_⟩;refine dm (K:=K) (a:=a) (xs:=ns.map V.int) (λi ys G2=>Same G G2/\G2 D=some (.lst ys)/\∃os:List Int,ys=os.map V.int/\PartP n os i (mq n R S)) ⟨ad hD _,ae,[],rfl,.nil⟩ (λi ys G2 z=>z.2.1) (λi ys G2 _ z=>(Same.trans sG z.1).seq ha) ?_ ?_
  ·intro i x ys G2 hx h_1;obtain⟨s2,gD,os,rfl,op⟩:=h_1;obtain⟨m,em,rfl⟩:=jb hx;have hi:i < ns.length:=(aK.mp em).1;have ol:=op.1;obtain⟨z,ez⟩:=kj i hi m em;obtain⟨m',rfl,mm'⟩:=kv _ _ ez;have dg:=DGet.k (k:=Sum.inl m) (s2 _ _ gd);rw[ez]at dg;refine⟨bg (by rw[aG];lia),⟨[some _],rfl,rfl⟩,?_⟩;refine⟨_,rfl,_,rfl,d,_,rfl,dg,gD,Same.put s2 hD _,ae,os++[m'],(by rw[aZ];rfl),op.snoc (mm'.iff λj hj=>?_)⟩;have pm:=rn.2 i m em;constructor
   ·intro h_1;obtain⟨k,hk,h1,h2⟩:=h_1;exact⟨k,hk,(pm.2 k hk).mp h1,h2⟩
   ·intro h_1;obtain⟨k,hk,h1,h2⟩:=h_1;exact⟨k,hk,(pm.2 k hk).mpr h1,h2⟩
  ·intro ys G2 h_1;obtain⟨s2,gD,os,rfl,op⟩:=h_1;rw[aG,l1]at op;exact q D os G2 (Same.trans sG s2) (Same.free sG hD) gD op
theorem Ef:ar nAg ["relation"] (aj yp):=fsN
theorem cAg {CX:CXT}{f:Addr}{cdv:aB}{A:cW}{outer:List Env}{s:aI}{H:Hp}{E:XK} :
  cb (bf CX P w K mg base nAg "again_and_again" (aj yp) f cdv A outer s H E).nox ["row"] ["middle","through"] [2,3] Vg [("through",s.heap.objs.size+1+1),("middle",s.heap.objs.size+1)]:=csN [(".0",.local),("row",.local),("middle",.cell),("through",.cell)]
theorem O0 {f fE fS:Addr}{fd dE dS:cC}(F:Fun K "again_and_again" "again_and_again" yp f fd)
  (GE:FnOk P w K mg base CX0 1 fE dE ["one","other"] (zj K)) (bE:Binds K dE ["one","other"] []) (kE:aU K (.ref fE)=true) (mE:mg "either_of"=some (.ref fE))
  (GS:FnOk P w K mg base CX0 1 fS dS ["size"] Jd) (bS:Binds K dS ["size"] []) (kS:aU K (.ref fS)=true) (mS:mg "the_same"=some (.ref fS))
  (ml:mg "len"=none) (mr:mg "range"=none):FnOk P w K mg base CX0 2 f fd ["relation"] (Cl Star K):=by
 refine F.ok Ef (λvs H Q E h=>?_) (λcdv A outer s H vs Q E hr h=>?_)
 ·obtain⟨n,a,ns,R,rfl,_⟩:=h;rfl
 obtain⟨n,a,ns,R,rfl,ha,rn,h300,q⟩:=h;refine⟨_,ah (ax (i:=1) Ef.nd rfl (bV rfl) (ao GE hr rfl mE kE bE .nil az (ac (ao GS hr rfl mS kS bS .nil az (ac (bp br rfl ml eX (ac (pv 0) af)) af)) (ac (pv 0) af)))) (ah (de eB rfl (ip rfl mr (ac (bp br rfl ml eX (ac (pv 1) af)) af)) (ay (i:=2) Ef.nd rfl (lJ rfl)) (ah (ax (i:=3) Ef.nd rfl (lJ rfl) (aq aw (pv 1) (pv 2) (λ_ _=>rfl))) (ai (nv (i0:=1) (ns:=["row"]) (ys:=["middle","through"]) (sc:=Vg) Ef.nd rfl rfl cAg rfl (ck (pv 1)) (λC s H fp=>ay (i:=0) (by show(["row","middle","through"]:List Str).Nodup;decide +kernel) rfl (bV rfl)) (λC s H fp=>cw) (λC s H fp=>tq (vi (K:=K) rfl (bc yc (bc Kh (pv 0) (pv 1)) ag) (λ_=>rfl)) (bc Hh (pv 0) (pv 2)) (pv 0)))))) (ai (au (pv 1)))),?_⟩;dsimp only[bf,Cx.nox];have l1:=rn.1;refine⟨_,rfl,a,_,rfl,.inl ha,n,(by rw[aG,l1];rfl),h300,λr1 n1 G1 s1 h1 g1 rv1=>?_⟩;refine⟨_,rfl,n,r1,a,n1,ns,_,R,rfl,SqL.of g1,rv1,s1.seq ha,rn,h300,λr2 n2 G2 s2 h2 g2 rv2=>?_⟩;have s12:=Same.trans s1 s2;have l2:=rv2.1;refine⟨_,rfl,r2,_,rfl,.inl (SqL.of g2),_,rfl,by lia,(by rw[aG];lia),kq (n:=((((n2.map V.int).length:Nat):Int)).toNat) (λi σ G=>∃(r:Addr)(os:List Int) (v2 v3:Option V),σ=[some (.ref a),some (.ref r),v2,v3]/\Same H G/\H r=none/\G r=some (.lst (os.map V.int))/\RelP n os (Thru n R i)) ⟨r2,n2,none,none,rfl,s12,Same.free s1 h2,g2,rv2.iff λi j _ _=>Thru.zero.symm⟩ ?_ ?_⟩
 ·intro i σ G hi h_1;obtain⟨r,os,v2,v3,rfl,sG,hr0,gr,ro⟩:=h_1;generalize hE2_:db.mk _ _ _ _=E2_;revert hE2_ E2_;refine id ?_;intro E2_ hE2_;have e0:((((n2.map V.int).length:Nat):Int)).toNat=n:=(by rw[aG];lia);rw[e0]at hi;obtain⟨t,et,mt⟩:=ro.at hi;have vt:(os.map V.int)[i]?=some (.int t):=(by rw[eK,et];rfl);refine⟨_,rfl,_,rfl,r,_,_,_,rfl,rfl,SqL.of gr,(by rw[Int.zero_add];exact bh vt),?_⟩;refine⟨_,rfl,r,rfl,⟨_,SqL.of gr⟩,λD hD=>?_⟩;have lo:=ro.1;refine dm (K:=K) (a:=r) (xs:=os.map V.int) (λj ys G2=>Same G G2/\G2 D=some (.lst ys)/\∃us:List Int,ys=us.map V.int/\PartP n us j (Thru n R (i+1))) ⟨ad hD _,ae,[],rfl,.nil⟩ (λi ys G2 z=>z.2.1) (λi ys G2 _ z=>SqL.of (z.1 _ _ gr)) ?_ ?_
  ·intro j x ys G2 hx h_1;obtain⟨s2,gD,us,rfl,up⟩:=h_1;obtain⟨m,em,rfl⟩:=jb hx;have mm:=ro.2 j m em;have hj:j < os.length:=(aK.mp em).1;have ul:=up.1;refine⟨bg (by rw[aG];lia),⟨[some _],rfl,rfl⟩,?_⟩;refine⟨_,rfl,_,rfl,_,_,rfl,rfl,(by show(0:Int)<=0+(i:Int);lia),_,_,rfl,rfl,_,rfl,?_⟩;have bt:(lY (m / 2 ^ (0+(i:Int)).toNat) 1 != 0)=m.toNat.testBit i:=(by rw[Int.zero_add];exact Lr mm.1 i);have fin:∀y:Int,MaskP n y (Thru n R (i+1) j)->G2 D=some (.lst (us.map V.int))/\Same G (upd G2 D (.lst (us.map V.int++[.int y])))/\upd G2 D (.lst (us.map V.int++[.int y])) D=some (.lst (us.map V.int++[.int y]))/\∃ws:List Int,us.map V.int++[.int y]=ws.map V.int/\PartP n ws (j+1) (Thru n R (i+1)):=λy my=>
    ⟨gD,Same.put s2 hD _,ae,us++[y],(by rw[aZ];rfl),up.snoc my⟩
   refine c9 (λc=>?_) (λc=>?_)
   ·have c':m.toNat.testBit i=true:=bt ▸ c;have ci:=(mm.2 i hi).mp c';refine⟨_,rfl,_,rfl,_,_,rfl,rfl,fin _ ((uh mm mt).iff λl hl=>?_)⟩;rw[Thru.succ hi];constructor
    ·rintro(h | h)
     ·exact .inl h
     ·exact .inr ⟨ci,h⟩
    ·rintro(h | h)
     ·exact .inl h
     ·exact .inr h.2
   ·have c':m.toNat.testBit i=false:=by
     rw[<-bt];exact uA.mpr c
    refine⟨_,rfl,fin _ (mm.iff λl hl=>?_)⟩;rw[Thru.succ hi];constructor
    ·exact .inl
    ·rintro(h | h)
     ·exact h
     ·have:=(mm.2 i hi).mpr h.1;rw[c']at this;cases this
  ·intro ys G2 h_1;obtain⟨s2,gD,us,rfl,up⟩:=h_1;rw[aG,lo]at up;subst hE2_;exact⟨D,us,_,_,rfl,Same.trans sG s2,Same.free sG hD,gD,up⟩
 ·intro σ G h_1;obtain⟨r,os,v2,v3,rfl,sG,hr0,gr,ro⟩:=h_1;have e0:((((n2.map V.int).length:Nat):Int)).toNat=n:=(by rw[aG];lia);rw[e0]at ro;exact⟨_,rfl,q r os G sG hr0 gr (ro.iff λi j _ hj=>Thru.star hj)⟩
theorem csWh {X:Cx}:cb X ["place","mask"] [] [] Ve []:=jo rfl (by decide +kernel) (by decide +kernel) (by decide +kernel)
theorem scWn:ar ["relation"] ["relation"] (aj Do):=fsN
theorem O1 {f:Addr}{fd:cC}(F:Fun K "where_nothing" "where_nothing" Do f fd)(me:mg "enumerate"=none):FnOk P w K mg base CX0 1 f fd ["relation"] (Cl su K):=by
 refine F.ok scWn (λvs H Q E h=>?_) (λcdv A outer s H vs Q E hr h=>?_)
 ·obtain⟨n,a,ns,R,rfl,_⟩:=h;rfl
 obtain⟨n,a,ns,R,rfl,ha,rn,h300,q⟩:=h;refine⟨_,ai (au (cy (ns:=["place","mask"]) (ys:=[]) (sc:=Ve) csWh rfl (ue rfl me (ac (pv 0) af)) (λC s H fp=>pg2 rfl) (λC s H fp=>cw) (λC s H fp=>tq (vi (K:=K) rfl (pv 1) (λ_=>rfl)) ag (bc va ag (pv 0))))),?_⟩;dsimp only[bf,Cx.nox];have l1:=rn.1;refine⟨_,rfl,a,_,rfl,ha,λD hD=>?_⟩;refine uf (K:=K) (a:=a) (xs:=ns.map V.int) (λi ys G=>Same H G/\G D=some (.lst ys)/\∃us:List Int,ys=us.map V.int/\PartP n us i (su n R)) ⟨ad hD _,ae,[],rfl,.nil⟩ (λi ys G z=>z.2.1) (λi ys G _ z=>z.1.seq ha) ?_ ?_ ?_
 ·intro i ys G hi h_1;obtain⟨sG,gD,us,rfl,up⟩:=h_1;rw[aG]at hi;have ul:=up.1;exact bg (by rw[aG];lia)
 ·intro i x t ys G hx h_1 ht;obtain⟨sG,gD,us,rfl,up⟩:=h_1;obtain⟨m,em,rfl⟩:=jb hx;have hi:i < ns.length:=(aK.mp em).1;have mm:=rn.2 i m em;have Dt:D≠t:=am gD ht;refine⟨t,_,rfl,SqT.of ae,rfl,_,_,rfl,_,_,rfl,rfl,⟨[some _,some _],rfl,rfl⟩,?_⟩;refine⟨_,rfl,_,rfl,?_⟩;generalize hG2:upd G t (.tup [.int (i:Int),.int m])=G2;have sG2:Same H G2:=(by rw[<-hG2];exact Same.put sG (Same.free sG ht) _);have gD2:G2 D=some (.lst (us.map V.int)):=(by rw[<-hG2,al Dt];exact gD);have fin:∀y:Int,MaskP n y (su n R i)->G2 D=some (.lst (us.map V.int))/\Same H (upd G2 D (.lst (us.map V.int++[.int y])))/\upd G2 D (.lst (us.map V.int++[.int y])) D=some (.lst (us.map V.int++[.int y]))/\∃ws:List Int,us.map V.int++[.int y]=ws.map V.int/\PartP n ws (i+1) (su n R):=λy my=>
   ⟨gD2,Same.put sG2 hD _,ae,us++[y],(by rw[aZ];rfl),up.snoc my⟩
  refine c9 (λc=>?_) (λc=>?_)
  ·have m0:¬m=0:=(by simpa using c);refine fin _ ((ju n).iff λj hj=>⟨λf=>f.elim,λh=>m0 (mm.zero_iff.mpr h.2)⟩)
  ·have m0:m=0:=(by simpa using c);refine⟨_,rfl,_,_,rfl,rfl,⟨by lia,by lia,by decide⟩,?_⟩;have z:(1:Int) * 2 ^ ((i:Int)).toNat=2 ^ i:=(by rw[tO,eY]);have f1:=fin _ ((qz (n:=n) (k:=i) (by lia)).iff λj hj=>⟨λe=>⟨e,mm.zero_iff.mp m0⟩,λe=>e.1⟩);rw[<-z]at f1;exact f1
 ·intro ys G h_1;obtain⟨sG,gD,us,rfl,up⟩:=h_1;rw[aG,l1]at up;exact q D us G sG hD gD up
theorem scLi:ar nLi ["letters","mask"] (aj yq):=fsN
theorem cLi {CX:CXT}{f:Addr}{cdv:aB}{A:cW}{outer:List Env}{s:aI}{H:Hp}{E:XK} :
  cb (bf CX P w K mg base nLi "letters_in" (aj yq) f cdv A outer s H E).nox ["place","letter"] ["mask"] [1] Vh [("mask",s.heap.objs.size+1)]:=csN [(".0",.local),("place",.local),("letter",.local),("mask",.cell)]
theorem O2 {f:Addr}{fd:cC}(F:Fun K "letters_in" "letters_in" yq f fd)(me:mg "enumerate"=none):FnOk P w K mg base CX0 1 f fd ["letters","mask"] (Gi K):=by
 refine F.ok scLi (λvs H Q E h=>?_) (λcdv A outer s H vs Q E hr h=>?_)
 ·obtain⟨a,n,m,xs,rfl,_⟩:=h;rfl
 obtain⟨a,n,m,xs,rfl,mm,ha,h300,q⟩:=h;refine⟨_,ai (au (cy (ns:=["place","letter"]) (ys:=["mask"]) (sc:=Vh) cLi rfl (ue rfl me (ac (pv 0) af)) (λC s H fp=>pg2 rfl) (λC s H fp=>nh (vi (K:=K) rfl (bc yc (bc Kh (pv 2) (pv 0)) ag) (λ_=>rfl))) (λC s H fp=>pv 1))),?_⟩;dsimp only[bf,Cx.nox];refine⟨_,rfl,a,_,rfl,ha,λD hD=>?_⟩;refine uf (K:=K) (a:=a) (xs:=xs) (λi ys G=>Same H G/\G D=some (.lst ys)/\ys=pick m xs i) ⟨ad hD _,ae,rfl⟩ (λi ys G z=>z.2.1) (λi ys G _ z=>z.1.seq ha) ?_ ?_ ?_
 ·intro i ys G hi h_1;obtain⟨sG,gD,rfl⟩:=h_1;have:=Su m xs i;exact bg (by lia)
 ·intro i x t ys G hx h_1 ht;obtain⟨sG,gD,rfl⟩:=h_1;have Dt:D≠t:=am gD ht;refine⟨t,_,rfl,SqT.of ae,rfl,_,_,rfl,_,_,rfl,rfl,⟨[some _,some _],rfl,rfl⟩,?_⟩;refine⟨_,rfl,_,rfl,_,_,rfl,rfl,(by show(0:Int)<=(i:Int);lia),_,_,rfl,rfl,_,rfl,?_⟩;have sG2:Same H (upd G t (.tup [.int (i:Int),x])):=Same.put sG (Same.free sG ht) _;have gD2:upd G t (.tup [.int (i:Int),x]) D=some (.lst (pick m xs i)):=(by rw[al Dt];exact gD);have bt:=Lr mm i;refine c9 (λc=>?_) (λc=>?_)
  ·have c':m.toNat.testBit i=true:=bt ▸ c;exact⟨_,rfl,gD2,Same.put sG2 hD _,ae,(xr c' hx).symm⟩
  ·have c':m.toNat.testBit i=false:=by
    rw[<-bt];exact uA.mpr c
   exact⟨sG2,gD2,(Ba c').symm⟩
 ·intro ys G h_1;obtain⟨sG,gD,rfl⟩:=h_1;exact q D G sG hD gD
end
end S25
namespace S25
open PySem L2 S1
def jc (l:List Int):Da:=.tup (l.map λv=>.flat (.int v))
theorem gz (l:List Int):(jc l).fix=true:=by
 unfold jc;rw[Da.fix];exact bw (λ_=>by rw[Da.fix]) l
def j8 (K:aA)(H:Hp)(r:Addr)(ls:List (List Int)):Prop:=∃xs,H r=some (.lst xs)/\Holds K H xs (ls.map jc)
def Eg (K:aA):Sp:=λvs H Q _=>∃(r:Addr)(c:Nat) (ls:List (List Int)),vs=[.ref r,.int (c:Int)]/\j8 K H r ls/\c<=6/\ls.length<=100/\(∀l∈ls,l.length<=10)/\
 ∀(r':Addr)(H':Hp),Same H H'->H r'=none->j8 K H' r' (longer ls c)->Q (.ref r') H'
def Bz (K:aA):Sp:=λvs H Q _=>∃(a:Addr)(ws:List (Str×Nat)),vs=[.ref a]/\Hold K H (.ref a) (gj ws)/\fg ws/\
 ∀(r':Addr)(H':Hp),Same H H'->H r'=none->j8 K H' r' (letters (ws.map (·.2)))->Q (.ref r') H'
def Lu:gG:={ kind:=.function,names:=[(".0",.local),("value",.local),("letter",.free)],isGenerator:=false,isCoroutine:=false,more:=[] }
section
variable {P:aS}{w:bZ}{K:aA}{mg:Str->Option aB}{base:Heap}
theorem O3:ar ["letters","count","longer","letter"] ["letters","count"] (aj wj):=fsN
theorem cLo {CX:CXT}{f:Addr}{cdv:aB}{A:cW}{outer:List Env}{s:aI}{H:Hp}{E:XK} :
  cb (bf CX P w K mg base ["letters","count","longer","letter"] "each_longer" (aj wj) f cdv A outer s H E).nox ["value"] ["letter"] [3] Lu [("letter",s.heap.objs.size+1)]:=csN [(".0",.local),("value",.local),("letter",.cell)]
theorem Lv {f:Addr}{fd:cC}(F:Fun K "each_longer" "each_longer" wj f fd)(mr:mg "range"=none):FnOk P w K mg base CX0 1 f fd ["letters","count"] (Eg K):=by
 refine F.ok O3 (λvs H Q E h=>?_) (λcdv A outer s H vs Q E hr h=>?_)
 ·obtain⟨r,c,ls,rfl,_⟩:=h;rfl
 obtain⟨r,c,ls,rfl,⟨vs,hr1,hd1⟩,c6,l100,w10,q⟩:=h;refine⟨_,ah (ax (i:=2) O3.nd rfl (bV rfl) (av af)) (ah (de eB rfl (ck (pv 0)) (ay (i:=3) O3.nd rfl (lJ rfl)) (ai (bx (gi cX jV jW oq (pv 2) (ac (cy (ns:=["value"]) (ys:=["letter"]) (sc:=Lu) cLo rfl (ip rfl mr (ac (pv 1) af)) (λC s H fp=>ay (i:=0) (by show(["value","letter"]:List Str).Nodup;decide +kernel) rfl (bV rfl)) (λC s H fp=>cw) (λC s H fp=>bc (r:=λx y H Q=>mf K x y H Q\/jj K x y H Q) ni (pv 1) (bq (ac (pv 0) af)))) af))))) (ai (au (pv 2)))),?_⟩;dsimp only[bf,Cx.nox];refine⟨sz0,λu hu=>?_⟩;have ll:vs.length=ls.length:=(by rw[hd1.length,aG]);refine⟨_,rfl,r,rfl,⟨_,SqL.of (ad hu _ _ _ hr1)⟩,gq (K:=K) (a:=r) (xs:=vs) (λi σ G=>∃(xs:List V)(v:Option V),σ=[some (.ref r),some (.int (c:Int)),some (.ref u),v]/\Same H G/\G u=some (.lst xs)/\Holds K G xs ((longer (ls.take i) c).map jc)) ⟨[],none,rfl,ad hu _,ae,.nil⟩ (λi σ G _ h0_=>by obtain⟨_,_,_,sG,_⟩:=h0_;exact SqL.of (sG _ _ hr1)) ?_ ?_⟩
 ·intro i x σ G hx h_1;obtain⟨xs,v,rfl,sG,gu,hd⟩:=h_1;generalize hE1_:db.mk _ _ _ _=E1_;revert hE1_ E1_;refine id ?_;intro E1_ hE1_;obtain⟨l,el,hl⟩:=hd1.getm hx;obtain⟨a,ys,rfl,ha,hys⟩:=Hold.tupI hl;have ey:ys=l.map V.int:=hys.ints;subst ey;have hil:i < ls.length:=(aK.mp el).1;have lw:l.length<=10:=w10 l (bQ el);have xl:xs.length<=600:=by
   rw[hd.length,aG,o0,cQ];exact bK (kQ (show min i ls.length<=100 by lia) c6) (by decide)
  refine⟨_,rfl,.inl ⟨rfl,_,SqL.of gu⟩,_,rfl,(c:Int),rfl,by lia,by lia,λD hD=>?_⟩;have uD:u≠D:=am gu hD;refine o7 (n:=(c:Int).toNat) (λj zs G'=>Same G G'/\G' D=some (.lst zs)/\Holds K G' zs (((fK j).map λ(v:Nat)=>l++[(v:Int)]).map jc)) ⟨ad hD _,ae,.nil⟩ (λj zs G' h=>h.2.1) ?_ ?_
  ·intro j zs G' hj h_1;obtain⟨s1,d1,k1⟩:=h_1;have zl:zs.length=j:=(by rw[k1.length,aG,aG,gK]);refine⟨bg (by lia),⟨[some _],rfl,rfl⟩,?_⟩;refine⟨_,rfl,_,rfl,sz1,λt ht=>?_⟩;have Dt:D≠t:=am d1 ht;have hD':G D=none:=hD;have fin:∀(p:Addr)(G2:Hp),Same G' G2->G2 p=some (.tup ((l++[(j:Int)]).map V.int))->G2 D=some (.lst zs)/\Same G (upd G2 D (.lst (zs++[.ref p])))/\upd G2 D (.lst (zs++[.ref p])) D=some (.lst (zs++[.ref p]))/\
     Holds K (upd G2 D (.lst (zs++[.ref p]))) (zs++[.ref p]) (((fK (j+1)).map λ(v:Nat)=>l++[(v:Int)]).map jc):=λp G2 s2 hp=>by
    have hD2:G2 D=some (.lst zs):=s2 _ _ d1;refine⟨hD2,Same.put (Same.trans s1 s2) hD' _,ae,?_⟩;rw[jO,aZ,aZ];refine Holds.append (Holds.stay ((Tups.of s2).trans (Tups.put hD2 _)) (by rw[jF];exact bw (λ_=>gz _) _) k1) (.one (.tup (SqT.of ?_) (fz _)));rw[al (iw hp hD2 (by intro z;cases z))];exact hp
   have ha':SqT K G' a (l.map V.int):=ha.same (Same.trans sG s1);by_cases hl0:l=[]
   ·subst hl0;refine .inr ⟨a,t,[.int (0+(j:Int))],rfl,rfl,ha'.same (ad ht _),SqT.of ae,fin t _ (ad ht _) ?_⟩;rw[ae];simp
   ·refine .inl ⟨a,t,l.map V.int,[.int (0+(j:Int))],rfl,rfl,ha'.same (ad ht _),SqT.of ae,(by simpa using hl0),small (by rw[aG];show l.length+1<=1000;lia),(λe=>by cases e),λ_ p hp=>fin p _ (Same.trans (ad ht _) (ad hp _)) ?_⟩;rw[ae];simp
  ·intro zs G' h_1;obtain⟨s1,d1,k1⟩:=h_1;have ct:(c:Int).toNat=c:=(by lia);rw[ct]at k1;have zl:zs.length=c:=(by rw[k1.length,aG,aG,gK]);have gu':G' u=some (.lst xs):=s1 _ _ gu;subst hE1_;refine⟨u,D,xs,zs,rfl,rfl,gu',d1,small (by lia),xs++zs,_,rfl,Same.put (Same.trans sG s1) hu _,ae,?_⟩;have tk:ls.take (i+1)=ls.take i++[l]:=(by rw[dJ,el];rfl);rw[tk,w6,aZ];refine Holds.append (Holds.stay ((Tups.of s1).trans (Tups.put gu' _)) ?_ hd) (Holds.stay (Tups.put gu' _) ?_ k1)
   ·exact bw gz _
   ·exact bw gz _
 ·intro σ G h_1;obtain⟨xs,v,rfl,sG,gu,hd⟩:=h_1;refine⟨_,rfl,q u G sG hu ⟨xs,gu,?_⟩⟩;rw[ll,dZ]at hd;exact hd
theorem Jf:ar ["speech","letters","pair"] ["speech"] (aj Dm):=fsN
theorem Jg {f g:Addr}{fd gd:cC}(F:Fun K "letters_of" "letters_of" Dm f fd)(G:FnOk P w K mg base CX0 1 g gd ["letters","count"] (Eg K))(bG:Binds K gd ["letters","count"] [])(kG:aU K (.ref g)=true)
  (mG:mg "each_longer"=some (.ref g)):FnOk P w K mg base CX0 2 f fd ["speech"] (Bz K):=by
 refine F.ok Jf (λvs H Q E h=>?_) (λcdv A outer s H vs Q E hr h=>?_)
 ·obtain⟨a,ws,rfl,_⟩:=h;rfl
 obtain⟨a,ws,rfl,hs,sk,q⟩:=h;refine⟨_,ah (ax (i:=1) Jf.nd rfl (bV rfl) (av (ac (bq af) af))) (ah (de eB rfl (on (pv 0)) (ay (i:=2) Jf.nd rfl (bV rfl)) (ai (ax (i:=1) Jf.nd rfl (bV rfl) (ao G hr rfl mG kG bG .nil az (ac (pv 1) (ac (aq cf (pv 2) ag (λ_ _=>rfl)) af)))))) (ai (au (pv 1)))),?_⟩;dsimp only[bf,Cx.nox];refine⟨sz0,λt ht=>⟨sz1,λr hr'=>?_⟩⟩;have tr:t≠r:=am ae hr';have hr0:H r=none:=Same.free (ad ht _) hr';obtain⟨a',vs,ea,ha,hd⟩:=Hold.tupI hs;cases ea;have ll:vs.length=ws.length:=(by rw[hd.length,aG]);have s0:Same H (upd (upd H t (.tup [])) r (.lst [.ref t])):=Same.put (ad ht _) hr0 _;refine⟨_,rfl,a,rfl,⟨_,ha.same s0⟩,Ae (K:=K) (a:=a) (xs:=vs) (λi σ G=>∃(r:Addr)(v:Option V),σ=[some (.ref a),some (.ref r),v]/\Same H G/\H r=none/\j8 K G r (letters ((ws.take i).map (·.2)))) ⟨r,none,rfl,s0,hr0,[.ref t],ae,.one (.tup (SqT.of (by rw[al tr,ae])) .nil)⟩ (λi σ G _ h0_=>by obtain⟨_,_,_,sG,_⟩:=h0_;exact ha.same sG) ?_ ?_⟩
 ·intro i x σ G hx h_1;obtain⟨r,v,rfl,sG,hr0,lt⟩:=h_1;generalize hE2_:db.mk _ _ _ _=E2_;revert hE2_ E2_;refine id ?_;intro E2_ hE2_;obtain⟨w',ew,hw⟩:=hd.getm hx;obtain⟨b,ys,rfl,hb,hys⟩:=Hold.tupI hw;have hi:i < ws.length:=(aK.mp ew).1;have wm:w'∈ws:=bQ ew;have h6:=sk.cnt w' wm;cases hys with
  |cons h1 r1=>
   cases r1 with
   |cons h2 r2=>
    cases r2;cases h1.flatI;cases h2.flatI;have i3:=sk.hi;have lm:(letters ((ws.take i).map (·.2))).length<=36:=by
     rw[jr];refine bK (De _ λc hc=>?_) ?_
     ·obtain⟨z,hz,rfl⟩:=eE.mp hc;exact(sk.cnt z (nP hz)).2
     ·rw[aG,cQ];exact bK (pG (by decide) (show min i ws.length<=2 by lia)) (by decide)
    refine⟨_,rfl,_,rfl,b,_,_,_,rfl,rfl,hb.same sG,rfl,r,w'.2,_,rfl,lt,h6.2,by lia,λl hl=>?_,λr' G' s' hr' lt'=>?_⟩
    ·rw[(jn _).wide l hl,aG,cQ];lia
    ·subst hE2_;refine⟨r',_,rfl,Same.trans sG s',Same.free sG hr',?_⟩;have tk:(ws.take (i+1)).map (·.2)=(ws.take i).map (·.2)++[w'.2]:=(by rw[dJ,ew];simp);rw[tk,qk];exact lt'
 ·intro σ G h_1;obtain⟨r,v,rfl,sG,hr0,lt⟩:=h_1;refine⟨_,rfl,q r G sG hr0 ?_⟩;rw[ll,dZ]at lt;exact lt
end
end S25
namespace S25
open PySem L2 Bits
def LstP (P:Nat->V->Prop)(k:Nat)(xs:List V):Prop:=xs.length=k/\∀c y,xs[c]?=some y->P c y
theorem LstP.nil {P:Nat->V->Prop}:LstP P 0 []:=⟨rfl,λc y e=>by simp at e⟩
theorem LstP.imp {P P':Nat->V->Prop}{k:Nat}{xs:List V}(h:LstP P k xs)(e:∀c y,c < k->P c y->P' c y):LstP P' k xs:=
 ⟨h.1,λc y hc=>e c y (by rw[<-h.1];exact(aK.mp hc).1) (h.2 c y hc)⟩
theorem LstP.append {P P':Nat->V->Prop}{k k':Nat}{xs ys:List V}(h:LstP P k xs)(h2:LstP P' k' ys)(e:∀c y,c < k'->P' c y->P (k+c) y):LstP P (k+k') (xs++ys):=by
 refine⟨by rw[aN,h.1,h2.1],λc y hc=>?_⟩;by_cases hl:c < xs.length
 ·rw[eP hl]at hc;exact h.2 c y hc
 ·rw[gB (by lia)]at hc;have h3:=(aK.mp hc).1;have:=e _ y (by have:=h2.1;lia) (h2.2 _ y hc);have h1:=h.1;rw[show k+(c - xs.length)=c by lia]at this;exact this
theorem LstP.one {P:Nat->V->Prop}{x:V}(h:P 0 x):LstP P 1 [x]:=⟨rfl,λc y hc=>by
  have:=(aK.mp hc).1;simp only[dX,lS]at this;have e:c=0:=(by lia);subst e;cases hc;exact h⟩
theorem LstP.snoc {P:Nat->V->Prop}{k:Nat}{xs:List V}{y:V}(h:LstP P k xs)(hy:P k y):LstP P (k+1) (xs++[y]):=
 h.append (P':=λc=>P (k+c)) (.one (by rw[Nat.add_zero];exact hy)) λ_ _ _ z=>z
theorem LstP.drop1 {P:Nat->V->Prop}{k:Nat}{xs:List V}(h:LstP P (k+1) xs):LstP (λc=>P (c+1)) k (xs.drop 1):=by
 refine⟨by rw[iH,h.1];lia,λc y hc=>?_⟩;rw[List.getElem?_drop,iY]at hc;exact h.2 _ y hc
theorem LstP.take1 {P:Nat->V->Prop}{k:Nat}{xs:List V}(h:LstP P (k+1) xs):LstP P 1 (xs.take 1):=by
 refine⟨by rw[cQ,h.1];lia,λc y hc=>?_⟩;rw[List.getElem?_take]at hc
 split at hc
 ·exact h.2 _ y hc
 ·cases hc
theorem LstP.rep {P:Nat->V->Prop}{k:Nat}{x:V}(h:∀c,c < k->P c x):LstP P k (dQ k x):=by
 refine⟨gN,λc y hc=>?_⟩;have h1:=(aK.mp hc).1;rw[gN]at h1;rw[kX,if_pos h1]at hc;cases hc;exact h c h1
theorem LstP.at {P:Nat->V->Prop}{k:Nat}{xs:List V}(h:LstP P k xs){c:Nat}(hc:c < k):∃y,xs[c]?=some y/\P c y:=by
 have hk':c < xs.length:=(by rw[h.1];exact hc);exact⟨xs[c],aL hk',h.2 c _ (aL hk')⟩
theorem LstP.set {P P':Nat->V->Prop}{k:Nat}{xs:List V}{j:Nat}{x:V}(h:LstP P k xs)(hx:P' j x)(e:∀c y,c < k->c≠j->P c y->P' c y):LstP P' k (xs.set j x):=by
 refine⟨by rw[vH,h.1],λc y hc=>?_⟩;rw[List.getElem?_set]at hc
 split at hc
 ·rename_i hj
  subst hj
  split at hc
  ·cases hc;exact hx
  ·cases hc
 ·rename_i hj
  exact e c y (by rw[<-h.1];exact(aK.mp hc).1) (λz=>hj z.symm) (h.2 c y hc)
theorem o9 (xs:List V):fq xs (some 1) none=xs.drop 1:=by
 unfold fq;rw[HT.sIx_none,show(some (1:Int))=some ((1:Nat):Int)from rfl,HT.sIx_nat];cases xs with
 |nil=>rfl
 |cons x xs=>simp[Nat.min_def]
theorem Qh (xs:List V):fq xs none (some 1)=xs.take 1:=by
 unfold fq;rw[HT.sIx_none,show(some (1:Int))=some ((1:Nat):Int)from rfl,HT.sIx_nat];cases xs with
 |nil=>rfl
 |cons x xs=>simp[Nat.min_def]
def bv (G:Hp)(D:Addr):Hp:=λb=>if b=D then none else G b
theorem cg {G:Hp}{D b:Addr}(h:b≠D):bv G D b=G b:=by unfold bv;rw[if_neg h]
theorem iu {G:Hp}{D:Addr}{o:HO}:bv (upd G D o) D=bv G D:=by
 funext b
 by_cases h:b=D
 ·unfold bv;rw[if_pos h,if_pos h]
 ·rw[cg h,cg h,al h]
theorem hide_le {G:Hp}{D:Addr}:Same (bv G D) G:=λb o e=>by
 by_cases h:b=D
 ·unfold bv at e;rw[if_pos h]at e;cases e
 ·rw[cg h]at e;exact e
theorem d7 {G G':Hp}{D:Addr}(s:Same G G'):Same (bv G D) (bv G' D):=λb o e=>by
 by_cases h:b=D
 ·unfold bv at e;rw[if_pos h]at e;cases e
 ·rw[cg h]at e ⊢;exact s _ _ e
theorem sv {H G:Hp}{D:Addr}(s:Same H G)(h:H D=none):Same H (bv G D):=λb o e=>by
 rw[cg (am e h)];exact s _ _ e
theorem Eh {G:Hp}{D:Addr}{o:HO}:Same (bv G D) (upd G D o):=λb u e=>by
 by_cases h:b=D
 ·unfold bv at e;rw[if_pos h]at e;cases e
 ·rw[cg h]at e;rw[al h];exact e
def jx (H G:Hp):Hp:=λb=>match H b with | none=>G b | some _=>none
theorem Bc {H G:Hp}{b:Addr}(h:H b=none):jx H G b=G b:=by unfold jx;rw[h]
theorem q5 {H G:Hp}{b:Addr}{o:HO}(h:jx H G b=some o):H b=none/\G b=some o:=by
 unfold jx at h;cases e:H b with
 |none=>rw[e]at h;exact⟨rfl,h⟩
 |some _=>rw[e]at h;cases h
theorem B0 {H G G':Hp}(s:Same G G'):Same (jx H G) (jx H G'):=λb o e=>by
 obtain⟨h1,h2⟩:=q5 e;rw[Bc h1];exact s _ _ h2
theorem Gj {H G:Hp}:Same (jx H G) G:=λb o e=>(q5 e).2
theorem Lw {H G:Hp}{D:Addr}{o:HO}:bv (jx H (upd G D o)) D=bv (jx H G) D:=by
 funext b
 by_cases h:b=D
 ·unfold bv;rw[if_pos h,if_pos h]
 ·rw[cg h,cg h];unfold jx;rw[al h]
theorem vj {H G X:Hp}{D:Addr}{o:HO}(h:H D=some o)(s:Same (jx H G) X):Same (jx H G) (bv X D):=λb u e=>by
 have:b≠D:=λz=>(by subst z;have:=(q5 e).1;rw[h]at this;cases this);rw[cg this];exact s _ _ e
abbrev Rl:=Nat->Nat->Prop
def RelAt (H:Hp)(n:Nat)(R:Rl)(x:V):Prop:=∃a ns,x=.ref a/\H a=some (.lst (ns.map V.int))/\RelP n ns R
def RowAt (H:Hp)(n k:Nat)(W:Nat->Rl)(x:V):Prop:=∃a xs,x=.ref a/\H a=some (.lst xs)/\LstP (λc=>RelAt H n (W c)) k xs
def WaysAt (H:Hp)(n k:Nat)(W:Nat->Nat->Rl)(x:V):Prop:=∃a xs,x=.ref a/\H a=some (.lst xs)/\LstP (λr=>RowAt H n k (W r)) k xs
theorem RelAt.mono {H H':Hp}{n:Nat}{R:Rl}{x:V}(e:Same H H')(h:RelAt H n R x):RelAt H' n R x:=by
 obtain⟨a,ns,rfl,g,r⟩:=h;exact⟨a,ns,rfl,e _ _ g,r⟩
abbrev uk (H:Hp)(n k:Nat)(W:Nat->Rl)(xs:List V):Prop:=LstP (λc=>RelAt H n (W c)) k xs
theorem c5 {H H':Hp}{n k:Nat}{W:Nat->Rl}{xs:List V}(e:Same H H')(h:uk H n k W xs):uk H' n k W xs:=h.imp λ_ _ _ z=>z.mono e
theorem RowAt.mono {H H':Hp}{n k:Nat}{W:Nat->Rl}{x:V}(e:Same H H')(h:RowAt H n k W x):RowAt H' n k W x:=by
 obtain⟨a,xs,rfl,g,r⟩:=h;exact⟨a,xs,rfl,e _ _ g,c5 e r⟩
theorem RowAt.eq {H:Hp}{n k:Nat}{W W':Nat->Rl}{x:V}(h:RowAt H n k W x)(e:∀c,c < k->W c=W' c):RowAt H n k W' x:=by
 obtain⟨a,xs,rfl,g,r⟩:=h;exact⟨a,xs,rfl,g,r.imp λc y hc z=>by rw[<-e c hc];exact z⟩
theorem WaysAt.mono {H H':Hp}{n k:Nat}{W:Nat->Nat->Rl}{x:V}(e:Same H H')(h:WaysAt H n k W x):WaysAt H' n k W x:=by
 obtain⟨a,xs,rfl,g,r⟩:=h;exact⟨a,xs,rfl,e _ _ g,r.imp λc y _ z=>z.mono e⟩
def Ei (n k:Nat)(W:Nat->Nat->Rl)(H:Hp)(Q:VK):Prop:=∀(x:V)(H':Hp),Same H H'->WaysAt H' n k W x->Q x H'
def n8 (k1:Nat)(W2:Nat->Nat->Rl)(r c:Nat):Rl:=if c=0 then W2 (r - k1+1) 0 else if c < k1 then λ_ _=>False else W2 (r - k1+1) (c - k1+1)
def om (n k1:Nat)(W1 W2:Nat->Nat->Rl)(r c:Nat):Rl:=
 if r < k1 then if c=0/\r=0 then orR n (W1 0 0) (W2 0 0)else if c < k1 then W1 r c else if r=0 then W2 0 (c - k1+1)else λ_ _=>False
 else n8 k1 W2 r c
def re (n k1:Nat)(W1 W2:Nat->Nat->Rl)(r c:Nat):Rl:=
 if r < k1 then if c=0 then mq n (W1 r 0) (W2 0 0)else if c < k1 then W1 r c else mq n (W1 r 0) (W2 0 (c - k1+1))
 else n8 k1 W2 r c
def vk (n:Nat)(W:Nat->Nat->Rl)(r c:Nat):Rl:=
 if c=0 then if r=0 then Star n (W 0 0)else mq n (W r 0) (Star n (W 0 0))
 else orR n (W r c) (mq n (mq n (W r 0) (Star n (W 0 0))) (W 0 c))
def Qi (r c:Nat):Rl:=if r=c then λ_ _=>False else λi j=>j=i
def Has (P:aS)(w:bZ)(K:aA)(mg:Str->Option aB)(base:Heap)(k:Nat)(x:Str)(ps:List Str)(sp:Sp):Prop:=
 ∃f d,FnOk P w K mg base CX0 k f d ps sp/\Binds K d ps []/\aU K (.ref f)=true/\mg x=some (.ref f)
def Ej:Sp:=λvs H Q _=>∃(n k:Nat)(W:Nat->Nat->Rl) (x:V),vs=[x]/\WaysAt H n (k+1) W x/\k<=300/\n<=300/\
 ∀(r:Addr)(xs:List V) (H':Hp),Same H H'->H r=none->H' r=some (.lst xs)->uk H' n k (λ_ _ _=>False) xs->Q (.ref r) H'
def Gk:Sp:=λvs H Q _=>∃n:Nat,vs=[.int (n:Int)]/\n<=300/\Ei n 2 Qi H Q
section
variable {P:aS}{w:bZ}{K:aA}{mg:Str->Option aB}{base:Heap}
theorem scNw:ar ["size"] ["size"] (aj Dx):=fsN
theorem O4 {f:Addr}{fd:cC}(F:Fun K "note_ways" "note_ways" Dx f fd)
  (hN:Has P w K mg base 1 "nothing" ["size"] Jc) (hS:Has P w K mg base 1 "the_same" ["size"] Jd) :
  FnOk P w K mg base CX0 2 f fd ["size"] Gk:=by
 obtain⟨fN,dN,GN,bN,kN,mN⟩:=hN;obtain⟨fS,dS,GS,bS,kS,mS⟩:=hS;refine F.ok scNw (λvs H Q E h=>?_) (λcdv A outer s H vs Q E hr h=>?_)
 ·obtain⟨n,rfl,_⟩:=h;rfl
 obtain⟨n,rfl,h300,q⟩:=h;refine⟨_,ai (au (av (ac (av (ac (ao GN hr rfl mN kN bN .nil az (ac (pv 0) af)) (ac (ao GS hr rfl mS kS bS .nil az (ac (pv 0) af)) af))) (ac (av (ac (ao GS hr rfl mS kS bS .nil az (ac (pv 0) af)) (ac (ao GN hr rfl mN kN bN .nil az (ac (pv 0) af)) af))) af)))),?_⟩;refine⟨_,rfl,n,rfl,h300,λr1 n1 G1 s1 _ g1 v1=>⟨_,rfl,n,rfl,h300,λr2 n2 G2 s2 _ g2 v2=>⟨sz2,λp hp=>?_⟩⟩⟩;refine⟨_,rfl,n,rfl,h300,λr3 n3 G3 s3 _ g3 v3=>⟨_,rfl,n,rfl,h300,λr4 n4 G4 s4 _ g4 v4=>⟨sz2,λp2 hp2=>⟨sz2,λp3 hp3=>?_⟩⟩⟩⟩;have a1:Same G2 (upd G2 p (.lst [.ref r1,.ref r2])):=ad hp _;have a2:Same (upd G2 p (.lst [.ref r1,.ref r2])) G4:=Same.trans s3 s4;have a3:Same G4 (upd (upd G4 p2 (.lst [.ref r3,.ref r4])) p3 (.lst [.ref p,.ref p2])):=Same.trans (ad hp2 _) (ad hp3 _);have a13:=Same.trans a1 (Same.trans a2 a3);refine q _ _ (Same.trans (Same.trans s1 s2) a13) ⟨p3,_,rfl,ae,?_⟩;refine(LstP.one ?_).snoc ?_
 ·refine⟨p,_,rfl,(Same.trans a2 a3) _ _ ae,(LstP.one ?_).snoc ?_⟩
  ·exact⟨r1,n1,rfl,(Same.trans s2 a13) _ _ g1,v1⟩
  ·exact⟨r2,n2,rfl,a13 _ _ g2,v2⟩
 ·refine⟨p2,_,rfl,ad hp3 _ _ _ ae,(LstP.one ?_).snoc ?_⟩
  ·exact⟨r3,n3,rfl,(Same.trans s4 a3) _ _ g3,v3⟩
  ·exact⟨r4,n4,rfl,a3 _ _ g4,v4⟩
theorem scFi:ar ["ways"] ["ways"] (aj Ip):=fsN
theorem Sy (k:Nat)(x:V):(dQ k [x]).flatten=dQ k x:=by
 induction k with
 |zero=>rfl
 |succ k ih=>rw[iQ,nL,ih,iQ];rfl
theorem Sz {f:Addr}{fd:cC}(F:Fun K "filling" "filling" Ip f fd)
  (hN:Has P w K mg base 1 "nothing" ["size"] Jc) (ml:mg "len"=none):FnOk P w K mg base CX0 2 f fd ["ways"] Ej:=by
 obtain⟨fN,dN,GN,bN,kN,mN⟩:=hN;refine F.ok scFi (λvs H Q E h=>?_) (λcdv A outer s H vs Q E hr h=>?_)
 ·obtain⟨n,k,W,x,rfl,_⟩:=h;rfl
 obtain⟨n,k,W,x,rfl,⟨a,xs,rfl,ga,la⟩,k300,n300,q⟩:=h;refine⟨_,ai (au (bc C5 (av (ac (ao GN hr rfl mN kN bN .nil az (ac (bp br rfl ml eX (ac (aq aw (aq aw (pv 0) ag (λ_ _=>rfl)) ag (λ_ _=>rfl)) af)) af)) af)) (bc Cz (bp br rfl ml eX (ac (pv 0) af)) ag))),?_⟩;dsimp only[bf,Cx.nox];obtain⟨y0,e0,b,zs,rfl,gb,lb⟩:=la.at (c:=0) (by lia);obtain⟨z0,f0,c,ns,rfl,gc,rv⟩:=lb.at (c:=0) (by lia);have lc:=rv.1;have lx:=la.1;refine⟨_,rfl,a,_,_,_,rfl,rfl,SqL.of ga,bh (j:=0) e0,b,_,_,_,rfl,rfl,SqL.of gb,bh (j:=0) f0,c,_,rfl,.inl (SqL.of gc),n,(by rw[aG,lc];rfl),n300,λr1 n1 G1 s1 h1 g1 v1=>?_⟩;refine⟨sz1,λl hl=>⟨_,rfl,a,_,rfl,.inl (SqL.of (ad hl _ _ _ (s1 _ _ ga))),_,_,rfl,rfl,l,_,_,rfl,rfl,ae,?_,?_,?_,λp hp=>?_⟩⟩
 ·rw[lx];lia
 ·rw[lx];lia
 ·rw[lx];show 1 * (((k+1:Nat):Int) - 1).toNat<=sizeLine;exact small (by lia)
 ·have sA:=Same.trans s1 (ad hl (.lst [.ref r1]));refine q p _ _ (Same.trans sA (ad hp _)) (Same.free sA hp) ae ?_;rw[Sy,lx,show(((k+1:Nat):Int) - 1).toNat=k by lia];exact .rep λc _=>⟨r1,n1,rfl,ad hp _ _ _ (ad hl _ _ _ g1),v1⟩
end
end S25
namespace S25
open PySem L2 Bits
def xt:Sp:=λvs H Q _=>∃(n k1 k2:Nat)(W1 W2:Nat->Nat->Rl) (x y:V),vs=[x,y]/\WaysAt H n (k1+1) W1 x/\WaysAt H n (k2+1) W2 y/\k1+k2<=300/\n<=300/\
 ∀(r:Addr)(xs:List V) (H':Hp),Same H H'->H r=none->H' r=some (.lst xs)->LstP (λd=>RowAt H' n (k1+k2+1) (n8 (k1+1) W2 (k1+1+d))) k2 xs->Q (.ref r) H'
def Cm (T:Nat->Nat->(Nat->Nat->Rl)->(Nat->Nat->Rl)->Nat->Nat->Rl):Sp:=λvs H Q _=>∃(n k1 k2:Nat)(W1 W2:Nat->Nat->Rl) (x y:V),vs=[x,y]/\WaysAt H n (k1+1) W1 x/\WaysAt H n (k2+1) W2 y/\k1+k2<=300/\n<=300/\
 Ei n (k1+k2+1) (T n (k1+1) W1 W2) H Q
section
variable {P:aS}{w:bZ}{K:aA}{mg:Str->Option aB}{base:Heap}
theorem Vj:ar ["first","second","fill"] ["first","second"] (aj wn):=fsN
def Vk:gG:={ kind:=.function,names:=[(".0",.local),("row",.local),("fill",.free)],isGenerator:=false,isCoroutine:=false,more:=[] }
theorem cBh {CX:CXT}{f:Addr}{cdv:aB}{A:cW}{outer:List Env}{s:aI}{H:Hp}{E:XK} :
  cb (bf CX P w K mg base ["first","second","fill"] "behind" (aj wn) f cdv A outer s H E).nox ["row"] ["fill"] [2] Vk [("fill",s.heap.objs.size+1)]:=csN [(".0",.local),("row",.local),("fill",.cell)]
theorem Lx {f:Addr}{fd:cC}(F:Fun K "behind" "behind" wn f fd)(hF:Has P w K mg base 2 "filling" ["ways"] Ej):FnOk P w K mg base CX0 3 f fd ["first","second"] xt:=by
 obtain⟨fF,dF,GF,bF,kF,mF⟩:=hF;refine F.ok Vj (λvs H Q E h=>?_) (λcdv A outer s H vs Q E hr h=>?_)
 ·obtain⟨n,k1,k2,W1,W2,x,y,rfl,_⟩:=h;rfl
 obtain⟨n,k1,k2,W1,W2,x,y,rfl,w1,w2,k300,n300,q⟩:=h;refine⟨_,ah (ax (i:=2) Vj.nd rfl (lJ rfl) (ao GF hr rfl mF kF bF .nil az (ac (pv 0) af))) (ai (au (cy (ns:=["row"]) (ys:=["fill"]) (sc:=Vk) cBh rfl (ck (cq fj (pv 1) (c7 ag) dh)) (λC s H fp=>ay (i:=0) (by show(["row","fill"]:List Str).Nodup;decide +kernel) rfl (bV rfl)) (λC s H fp=>cw) (λC s H fp=>bc gf (bc gf (cq (r:=Nu K) fj (pv 0) dh (c7 ag)) (pv 1)) (cq (r:=Nu K) fj (pv 0) (c7 ag) dh))))),?_⟩;dsimp only[bf,Cx.nox];refine⟨_,rfl,n,k1,W1,x,rfl,w1,by lia,n300,λrf fl G1 s1 h1 g1 l1=>?_⟩;obtain⟨a2,xs2,rfl,ga2,la2⟩:=w2.mono s1;refine⟨_,rfl,_,rfl,a2,xs2,rfl,SqL.of ga2,λp hp=>⟨p,rfl,⟨_,SqL.of ae⟩,λD hD=>?_⟩⟩;rw[o9]at hD ⊢;have s2:Same G1 (upd G1 p (.lst (xs2.drop 1))):=ad hp _;have ld:=la2.drop1;have hD0:G1 D=none:=Same.free s2 hD;refine dm (K:=K) (a:=p) (xs:=xs2.drop 1) (λi ys G=>Same (upd G1 p (.lst (xs2.drop 1))) G/\G D=some (.lst ys)/\LstP (λd=>RowAt (bv G D) n (k1+k2+1) (n8 (k1+1) W2 (k1+1+d))) i ys)
  ⟨ad hD _,ae,.nil⟩ (λi ys G z=>z.2.1) (λi ys G _ z=>SqL.of (z.1 _ _ ae)) ?_ ?_
 ·intro i x ys G hx h_1;obtain⟨sG,gD,ly⟩:=h_1;have hi:i < k2:=(by rw[<-ld.1];exact(aK.mp hx).1);have sA:Same G1 G:=Same.trans s2 sG;obtain⟨b,zs,rfl,gb0,lb0⟩:=ld.2 i x hx;have gb:=sA _ _ gb0;have yl:=ly.1;have fl1:=l1.1;have zl:=lb0.1;refine⟨bg (by lia),⟨[some _],rfl,rfl⟩,?_⟩;refine⟨_,rfl,_,rfl,b,zs,rfl,SqL.of gb,λp1 hp1=>?_⟩;rw[Qh];have t1:=ad hp1 (.lst (zs.take 1));refine⟨_,rfl,p1,rf,_,fl,rfl,rfl,ae,t1 _ _ (sA _ _ g1),small (by rw[cQ];lia),λp2 hp2=>?_⟩;have t2:=ad hp2 (.lst (zs.take 1++fl));have t12:=Same.trans t1 t2;refine⟨_,rfl,_,rfl,b,zs,rfl,SqL.of (t12 _ _ gb),λp3 hp3=>?_⟩;rw[o9];have t3:=ad hp3 (.lst (zs.drop 1));refine⟨p2,p3,_,_,rfl,rfl,t3 _ _ ae,ae,small (by rw[aN,cQ,iH];lia),λp4 hp4=>?_⟩;have t4:=ad hp4 (.lst (zs.take 1++fl++zs.drop 1));have t:=Same.trans (Same.trans t12 t3) t4;have gD':=t _ _ gD;have hp4D:p4≠D:=λe=>(by subst e;rw[Same.trans t12 t3 _ _ gD]at hp4;cases hp4);refine⟨gD',Same.put (Same.trans sG t) hD _,ae,?_⟩;rw[iu];have sH:=sv (D:=D) (Same.trans sA t) hD0;refine(ly.imp λd y _ z=>z.mono (d7 t)).snoc ⟨p4,_,rfl,by rw[cg hp4D];exact ae,?_⟩;have hk:k1+k2+1=1+k1+k2:=(by lia);rw[hk];refine LstP.append (k:=1+k1) (k':=k2) (P':=λc=>RelAt (bv _ D) n (W2 (i+1) (c+1))) (LstP.append (k:=1) (k':=k1) (P':=λc=>RelAt (bv _ D) n (λ_ _=>False)) ((c5 sH lb0).take1.imp λc y hc z=>?_) (c5 sH l1) λc y hc z=>?_) (c5 sH lb0).drop1 λc y hc z=>?_
  ·have:c=0:=(by lia);subst this;unfold n8;rw[if_pos rfl,show k1+1+i - (k1+1)+1=i+1 by lia];exact z
  ·unfold n8;rw[if_neg (by lia),if_pos (by lia)];exact z
  ·unfold n8;rw[if_neg (by lia),if_neg (by lia),show k1+1+i - (k1+1)+1=i+1 by lia,show 1+k1+c - (k1+1)+1=c+1 by lia];exact z
 ·intro ys G h_1;obtain⟨sG,gD,ly⟩:=h_1;rw[ld.1]at ly;exact q D ys G (Same.trans s1 (Same.trans s2 sG)) (Same.free s1 hD0) gD (ly.imp λd y _ z=>z.mono hide_le)
end
end S25
namespace S25
open PySem L2 Bits
section
variable {P:aS}{w:bZ}{K:aA}{mg:Str->Option aB}{base:Heap}
theorem O5:ar ["one","other","start","fill"] ["one","other"] (aj yw):=fsN
def Qj:gG:={ kind:=.function,names:=[(".0",.local),("row",.local),("fill",.free)],isGenerator:=false,isCoroutine:=false,more:=[] }
theorem cEw_ {CX:CXT}{f:Addr}{cdv:aB}{A:cW}{outer:List Env}{s:aI}{H:Hp}{E:XK} :
  cb (bf CX P w K mg base ["one","other","start","fill"] "either_ways" (aj yw) f cdv A outer s H E).nox ["row"] ["fill"] [3] Qj [("fill",s.heap.objs.size+1)]:=csN [(".0",.local),("row",.local),("fill",.cell)]
theorem O6 {f:Addr}{fd:cC}(F:Fun K "either_ways" "either_ways" yw f fd)(hE:Has P w K mg base 1 "either_of" ["one","other"] (zj K))(hF:Has P w K mg base 2 "filling" ["ways"] Ej)
  (hB:Has P w K mg base 3 "behind" ["first","second"] xt):FnOk P w K mg base CX0 4 f fd ["one","other"] (Cm om):=by
 obtain⟨fE,dE,GE,bE,kE,mE⟩:=hE;obtain⟨fF,dF,GF,bF,kF,mF⟩:=hF;obtain⟨fB,dB,GB,bB,kB,mB⟩:=hB;refine F.ok O5 (λvs H Q E h=>?_) (λcdv A outer s H vs Q E hr h=>?_)
 ·obtain⟨n,k1,k2,W1,W2,x,y,rfl,_⟩:=h;rfl
 obtain⟨n,k1,k2,W1,W2,x,y,rfl,w1,w2,k300,n300,q⟩:=h;refine⟨_,ah (ax (i:=2) O5.nd rfl (bV rfl) (bc gf (bc gf (av (ac (ao GE (hr.mono (by decide)) rfl mE kE bE .nil az (ac (aq aw (aq aw (pv 0) ag (λ_ _=>rfl)) ag (λ_ _=>rfl)) (ac (aq aw (aq aw (pv 1) ag (λ_ _=>rfl)) ag (λ_ _=>rfl)) af))) af)) (cq fj (aq aw (pv 0) ag (λ_ _=>rfl)) (c7 ag) dh)) (cq fj (aq aw (pv 1) ag (λ_ _=>rfl)) (c7 ag) dh))) (ah (ax (i:=3) O5.nd rfl (lJ rfl) (ao GF (hr.mono (by decide)) rfl mF kF bF .nil az (ac (pv 1) af))) (ai (au (bc gf (bc gf (av (ac (pv 2) af)) (cy (ns:=["row"]) (ys:=["fill"]) (sc:=Qj) cEw_ rfl (ck (cq fj (pv 0) (c7 ag) dh)) (λC s H fp=>ay (i:=0) (by show(["row","fill"]:List Str).Nodup;decide +kernel) rfl (bV rfl)) (λC s H fp=>cw) (λC s H fp=>bc gf (pv 0) (pv 1)))) (ao GB hr rfl mB kB bB .nil az (ac (pv 0) (ac (pv 1) af))))))),?_⟩;dsimp only[bf,Cx.nox];obtain⟨a1,xs1,rfl,ga1,la1⟩:=id w1;obtain⟨a2,xs2,rfl,ga2,la2⟩:=id w2;obtain⟨_,e1,b1,zs1,rfl,gb1,lb1⟩:=la1.at (c:=0) (by lia);obtain⟨_,f1,c1,ns1,rfl,gc1,rv1⟩:=lb1.at (c:=0) (by lia);obtain⟨_,e2,b2,zs2,rfl,gb2,lb2⟩:=la2.at (c:=0) (by lia);obtain⟨_,f2,c2,ns2,rfl,gc2,rv2⟩:=lb2.at (c:=0) (by lia);have zl1:=lb1.1;have zl2:=lb2.1;refine⟨_,rfl,a1,_,_,_,rfl,rfl,SqL.of ga1,bh (j:=0) e1,b1,_,_,_,rfl,rfl,SqL.of gb1,bh (j:=0) f1,_,rfl,a2,_,_,_,rfl,rfl,SqL.of ga2,bh (j:=0) e2,b2,_,_,_,rfl,rfl,SqL.of gb2,bh (j:=0) f2,n,c1,c2,ns1,ns2,_,_,rfl,SqL.of gc1,rv1,SqL.of gc2,rv2,n300,λr0 n0 G1 s1 h1 g1 v1=>?_⟩;refine⟨sz1,λp0 hp0=>?_⟩;have t0:=ad hp0 (.lst [.ref r0]);have s10:=Same.trans s1 t0;refine⟨_,rfl,a1,_,_,_,rfl,rfl,SqL.of (s10 _ _ ga1),bh (j:=0) e1,_,rfl,b1,zs1,rfl,SqL.of (s10 _ _ gb1),λp1 hp1=>?_⟩;rw[o9];have t1:=ad hp1 (.lst (zs1.drop 1));refine⟨p0,p1,_,_,rfl,rfl,t1 _ _ ae,ae,small (by rw[iH];show 1+_<=_;lia),λp2 hp2=>?_⟩;have t2:=ad hp2 (.lst ([.ref r0]++zs1.drop 1));have s12:=Same.trans s10 (Same.trans t1 t2);refine⟨_,rfl,a2,_,_,_,rfl,rfl,SqL.of (s12 _ _ ga2),bh (j:=0) e2,_,rfl,b2,zs2,rfl,SqL.of (s12 _ _ gb2),λp3 hp3=>?_⟩;rw[o9];have t3:=ad hp3 (.lst (zs2.drop 1));refine⟨p2,p3,_,_,rfl,rfl,t3 _ _ ae,ae,small (by rw[aN,iH,iH];show 1+_+_<=_;lia),λp4 hp4=>?_⟩;have t4:=ad hp4 (.lst ([.ref r0]++zs1.drop 1++zs2.drop 1));have s14:=Same.trans s12 (Same.trans t3 t4);have g1':=(Same.trans t0 (Same.trans (Same.trans t1 t2) (Same.trans t3 t4))) _ _ g1;have gst:(upd (upd (upd (upd (upd G1 p0 (.lst [.ref r0])) p1 (.lst (zs1.drop 1))) p2 (.lst ([.ref r0]++zs1.drop 1))) p3 (.lst (zs2.drop 1))) p4 (.lst ([.ref r0]++zs1.drop 1++zs2.drop 1))) p4=some (.lst ([.ref r0]++zs1.drop 1++zs2.drop 1)):=ae;generalize upd (upd (upd (upd (upd G1 p0 (.lst [.ref r0])) p1 (.lst (zs1.drop 1))) p2 (.lst ([.ref r0]++zs1.drop 1))) p3 (.lst (zs2.drop 1))) p4 (.lst ([.ref r0]++zs1.drop 1++zs2.drop 1))=G2 at s14 g1' gst ⊢;clear t4 t3 s12 t2 t1 s10 t0;refine⟨_,rfl,n,k2,W2,.ref a2,rfl,w2.mono s14,by lia,n300,λrf fl G3 s3 h3 g3 l3=>?_⟩;have s13:=Same.trans s14 s3;refine⟨_,rfl,sz1,λp5 hp5=>?_⟩;have t5:=ad hp5 (.lst [.ref p4]);have s15:=Same.trans s13 t5;refine⟨_,rfl,_,rfl,a1,xs1,rfl,SqL.of (s15 _ _ ga1),λp6 hp6=>⟨p6,rfl,⟨_,SqL.of ae⟩,λD hD=>?_⟩⟩;rw[o9]at hD ⊢;have t6:=ad hp6 (.lst (xs1.drop 1));have s16:=Same.trans s15 t6;have gs6:=(Same.trans s3 (Same.trans t5 t6)) _ _ gst;have g16:=(Same.trans s3 (Same.trans t5 t6)) _ _ g1';have g36:=(Same.trans t5 t6) _ _ g3;have l36:=c5 (Same.trans t5 t6) l3;have p56:(upd (upd G3 p5 (.lst [.ref p4])) p6 (.lst (xs1.drop 1))) p5=some (.lst [.ref p4]):=t6 _ _ ae;have p66:(upd (upd G3 p5 (.lst [.ref p4])) p6 (.lst (xs1.drop 1))) p6=some (.lst (xs1.drop 1)):=ae;generalize upd (upd G3 p5 (.lst [.ref p4])) p6 (.lst (xs1.drop 1))=G6 at s16 gs6 g16 g36 l36 p56 p66 hD ⊢;clear t6 t5 s15;have ld:=la1.drop1;have fl1:=l3.1;refine dm (K:=K) (a:=p6) (xs:=xs1.drop 1) (λi ys G=>Same G6 G/\G D=some (.lst ys)/\LstP (λd=>RowAt (bv G D) n (k1+k2+1) (om n (k1+1) W1 W2 (1+d))) i ys)
  ⟨ad hD _,ae,.nil⟩ (λi ys G z=>z.2.1) (λi ys G _ z=>SqL.of (z.1 _ _ p66)) ?_ ?_
 ·intro i x ys G hx h_1;obtain⟨sG,gD,ly⟩:=h_1;have hi:i < k1:=(by rw[<-ld.1];exact(aK.mp hx).1);obtain⟨b,zs,rfl,gb0,lb0⟩:=(ld.2 i x hx).mono s16;have gb:=sG _ _ gb0;have yl:=ly.1;have zl:=lb0.1;refine⟨bg (by lia),⟨[some _],rfl,rfl⟩,?_⟩;refine⟨_,rfl,_,rfl,b,rf,zs,fl,rfl,rfl,gb,sG _ _ g36,small (by lia),λp7 hp7=>?_⟩;have t7:=ad hp7 (.lst (zs++fl));have gD':=t7 _ _ gD;have hpD:p7≠D:=λe=>(by subst e;rw[gD]at hp7;cases hp7);refine⟨gD',Same.put (Same.trans sG t7) hD _,ae,?_⟩;rw[iu];have sH:=sv (D:=D) (Same.trans sG t7) hD;refine(ly.imp λd y _ z=>z.mono (d7 t7)).snoc ⟨p7,_,rfl,by rw[cg hpD];exact ae,?_⟩;rw[show k1+k2+1=k1+1+k2 by lia];refine LstP.append (k:=k1+1) (k':=k2) (P':=λc=>RelAt (bv _ D) n (λ_ _=>False)) ((c5 sH lb0).imp λc y hc z=>?_) (c5 sH l36) λc y hc z=>?_
  ·unfold om;rw[if_pos (by lia),if_neg (by lia),if_pos (by lia),iY 1 i];exact z
  ·unfold om;rw[if_pos (by lia),if_neg (by lia),if_neg (by lia),if_neg (by lia)];exact z
 ·intro ys G h_1;obtain⟨sG,gD,ly⟩:=h_1;rw[ld.1]at ly;have ly':=ly.imp λd y _ z=>z.mono hide_le;have yl:=ly.1;refine⟨p5,D,_,_,rfl,rfl,sG _ _ p56,gD,small (by show 1+_<=_;lia),λp7 hp7=>?_⟩;have t7:=ad hp7 (.lst ([.ref p4]++ys));have s7:=Same.trans s16 (Same.trans sG t7);refine⟨_,rfl,_,rfl,n,k1,k2,W1,W2,.ref a1,.ref a2,rfl,w1.mono s7,w2.mono s7,k300,n300,λrb bs G9 s9 h9 g9 l9=>?_⟩;have bl:=l9.1;refine⟨p7,rb,_,_,rfl,rfl,s9 _ _ ae,g9,small (by rw[aN];show 1+_+_<=_;lia),λp8 hp8=>?_⟩;have t8:=ad hp8 (.lst ([.ref p4]++ys++bs));have sT:=Same.trans sG (Same.trans t7 (Same.trans s9 t8));refine q _ _ (Same.trans s7 (Same.trans s9 t8)) ⟨p8,_,rfl,ae,?_⟩;rw[show k1+k2+1=1+k1+k2 by lia];refine LstP.append (k:=1+k1) (k':=k2) (LstP.append (k:=1) (k':=k1) (.one ?_) (ly'.imp λd y _ z=>z.mono (Same.trans t7 (Same.trans s9 t8))) λd y hd z=>?_) (l9.imp λd y _ z=>z.mono t8) λd y hd z=>?_
  ·refine⟨p4,_,rfl,sT _ _ gs6,?_⟩;refine LstP.append (k:=1+k1) (k':=k2) (LstP.append (k:=1) (k':=k1) (.one ?_) (c5 (Same.trans s16 sT) lb1).drop1 λc y hc z=>?_) (c5 (Same.trans s16 sT) lb2).drop1 λc y hc z=>?_
   ·refine⟨r0,n0,rfl,sT _ _ g16,?_⟩;unfold om;rw[if_pos (by lia),if_pos (by lia)];exact v1
   ·unfold om;rw[if_pos (by lia),if_neg (by lia),if_pos (by lia),iY 1 c];exact z
   ·unfold om;rw[if_pos (by lia),if_neg (by lia),if_neg (by lia),if_pos rfl,show 1+k1+c - (k1+1)+1=c+1 by lia];exact z
  ·rw[show 1+k1+k2=k1+k2+1 by lia];exact z
  ·rw[show 1+k1+k2=k1+k2+1 by lia];refine z.eq λc hc=>?_;unfold om;rw[if_neg (by lia),iY k1 1]
end
end S25
namespace S25
open PySem L2 Bits
section
variable {P:aS}{w:bZ}{K:aA}{mg:Str->Option aB}{base:Heap}
theorem Jh:ar ["first","second","rows","row","begun"] ["first","second"] (aj yx):=fsN
def Qk:gG:={ kind:=.function,names:=[(".0",.local),("relation",.local),("one_then_other",.globalImplicit),("row",.free)],isGenerator:=false,isCoroutine:=false,more:=[] }
theorem cTw_ {CX:CXT}{f:Addr}{cdv:aB}{A:cW}{outer:List Env}{s:aI}{H:Hp}{E:XK} :
  cb (bf CX P w K mg base ["first","second","rows","row","begun"] "then_ways" (aj yx) f cdv A outer s H E).nox ["relation"] ["row"] [3] Qk [("row",s.heap.objs.size+1)]:=csN [(".0",.local),("relation",.local),("one_then_other",.globalImplicit),("row",.cell)]
theorem O7 {f:Addr}{fd:cC}(F:Fun K "then_ways" "then_ways" yx f fd)(hO:Has P w K mg base 2 "one_then_other" ["first","second"] (Je K))
  (hB:Has P w K mg base 3 "behind" ["first","second"] xt):FnOk P w K mg base CX0 4 f fd ["first","second"] (Cm re):=by
 obtain⟨fO,dO,GO,bO,kO,mO⟩:=hO;obtain⟨fB,dB,GB,bB,kB,mB⟩:=hB;refine F.ok Jh (λvs H Q E h=>?_) (λcdv A outer s H vs Q E hr h=>?_)
 ·obtain⟨n,k1,k2,W1,W2,x,y,rfl,_⟩:=h;rfl
 obtain⟨n,k1,k2,W1,W2,x,y,rfl,w1,w2,k300,n300,q⟩:=h;refine⟨_,ah (ax (i:=2) Jh.nd rfl (bV rfl) (av af)) (ah (de eB rfl (ck (pv 0)) (ay (i:=3) Jh.nd rfl (lJ rfl)) (ah (nv (i0:=4) (ns:=["relation"]) (ys:=["row"]) (sc:=Qk) Jh.nd rfl rfl cTw_ rfl (ck (aq aw (pv 1) ag (λ_ _=>rfl))) (λC s H fp=>ay (i:=0) (by show(["relation","row"]:List Str).Nodup;decide +kernel) rfl (bV rfl)) (λC s H fp=>cw) (λC s H fp=>ao GO (hr.mono (by decide)) rfl mO kO bO .nil az (ac (aq (r:=xm K) aw (pv 1) ag (λ_ _=>rfl)) (ac (pv 0) af)))) (ai (bx (gi cX fV fX dy (pv 2) (ac (bc gf (bc gf (cq fj (pv 4) dh (c7 ag)) (cq fj (pv 3) (c7 ag) dh)) (cq fj (pv 4) (c7 ag) dh)) af)))))) (ai (au (bc gf (pv 2) (ao GB hr rfl mB kB bB .nil az (ac (pv 0) (ac (pv 1) af))))))),?_⟩;dsimp only[bf,Cx.nox];obtain⟨a1,xs1,rfl,ga1,la1⟩:=id w1;obtain⟨a2,xs2,rfl,ga2,la2⟩:=id w2;obtain⟨_,e2,b2,zs2,rfl,gb2,lb2⟩:=la2.at (c:=0) (by lia);have zl2:=lb2.1;have xl1:=la1.1;refine⟨sz0,λu hu=>?_⟩;refine⟨_,rfl,a1,rfl,⟨_,SqL.of (ad hu _ _ _ ga1)⟩,gq (K:=K) (a:=a1) (xs:=xs1) (λi σ G=>∃(ys:List V)(v3 v4:Option V),σ=[some (.ref a1),some (.ref a2),some (.ref u),v3,v4]/\Same H G/\G u=some (.lst ys)/\LstP (λd=>RowAt (bv G u) n (k1+k2+1) (re n (k1+1) W1 W2 d)) i ys) ⟨[],none,none,rfl,ad hu _,ae,.nil⟩ (λi σ G _ h0_=>by obtain⟨_,_,_,_,sG,_⟩:=h0_;exact SqL.of (sG _ _ ga1)) ?_ ?_⟩
 ·intro i x σ G hx h_1;obtain⟨ys,v3,v4,rfl,sG,gu,ly⟩:=h_1;generalize hE1_:db.mk _ _ _ _=E1_;revert hE1_ E1_;refine id ?_;intro E1_ hE1_;have hi:i < k1+1:=(by rw[<-xl1];exact(aK.mp hx).1);have yl:=ly.1;obtain⟨b1,zs1,rfl,gb1,lb1⟩:=la1.2 i x hx;obtain⟨_,f1,c1,ns1,rfl,gc1,rv1⟩:=lb1.at (c:=0) (by lia);have zl1:=lb1.1;refine⟨_,rfl,a2,_,_,_,rfl,rfl,SqL.of (sG _ _ ga2),bh (j:=0) e2,b2,rfl,⟨_,SqL.of (sG _ _ gb2)⟩,λD hD=>?_⟩;have hD0:H D=none:=Same.free sG hD;refine dm (K:=K) (a:=b2) (xs:=zs2) (λj us G2=>Same G G2/\G2 D=some (.lst us)/\uk (bv (bv G2 D) u) n j (λc=>mq n (W1 i 0) (W2 0 c)) us)
   ⟨ad hD _,ae,.nil⟩ (λi ys G z=>z.2.1) (λi ys G _ z=>SqL.of (z.1 _ _ (sG _ _ gb2))) ?_ ?_
  ·intro j x us G2 hx2 h_1;obtain⟨s2,gD,lu⟩:=h_1;have hj:j < k2+1:=(by rw[<-zl2];exact(aK.mp hx2).1);have ul:=lu.1;obtain⟨c2,ns2,rfl,gc2,rv2⟩:=lb2.2 j x hx2;have sA:=Same.trans sG s2;refine⟨bg (by lia),⟨[some _],rfl,rfl⟩,?_⟩;refine⟨_,rfl,b1,_,_,_,rfl,rfl,SqL.of (sA _ _ gb1),bh (j:=0) f1,_,rfl,n,c1,c2,ns1,ns2,_,_,rfl,SqL.of (sA _ _ gc1),rv1,SqL.of (sA _ _ gc2),rv2,n300,λr3 n3 G3 s3 h3 g3 v3=>?_⟩;have hrD:r3≠D:=λe=>(by subst e;rw[gD]at h3;cases h3);refine⟨s3 _ _ gD,Same.put (Same.trans s2 s3) hD _,ae,?_⟩;rw[iu];have hru:r3≠u:=λe=>(by subst e;rw[s2 _ _ gu]at h3;cases h3);exact(c5 (d7 (d7 s3)) lu).snoc ⟨r3,n3,rfl,by rw[cg hru,cg hrD];exact g3,v3⟩
  ·intro us G2 h_1;obtain⟨s2,gD,lu⟩:=h_1;rw[zl2]at lu;have ul:=lu.1;have gu2:=s2 _ _ gu;have uD:u≠D:=am gu hD;refine⟨_,rfl,.inl ⟨rfl,_,SqL.of gu2⟩,?_⟩;refine⟨_,rfl,_,rfl,D,us,rfl,SqL.of gD,λp1 hp1=>?_⟩;rw[Qh];have t1:=ad hp1 (.lst (us.take 1));have sA:=Same.trans (Same.trans sG s2) t1;refine⟨_,rfl,_,rfl,b1,zs1,rfl,SqL.of (sA _ _ gb1),λp2 hp2=>?_⟩;rw[o9];have t2:=ad hp2 (.lst (zs1.drop 1));refine⟨p1,p2,_,_,rfl,rfl,t2 _ _ ae,ae,small (by rw[cQ,iH];lia),λp3 hp3=>?_⟩;have t3:=ad hp3 (.lst (us.take 1++zs1.drop 1));have t13:=Same.trans t1 (Same.trans t2 t3);refine⟨_,rfl,_,rfl,D,us,rfl,SqL.of (t13 _ _ gD),λp4 hp4=>?_⟩;rw[o9];have t4:=ad hp4 (.lst (us.drop 1));refine⟨p3,p4,_,_,rfl,rfl,t4 _ _ ae,ae,small (by rw[aN,cQ,iH,iH];lia),λp5 hp5=>?_⟩;have t5:=ad hp5 (.lst (us.take 1++zs1.drop 1++us.drop 1));have t15:=Same.trans t13 (Same.trans t4 t5);have gu5:=t15 _ _ gu2;have pu:p5≠u:=λe=>(by subst e;rw[(Same.trans t13 t4) _ _ gu2]at hp5;cases hp5);refine⟨u,_,_,rfl,rfl,gu5,bg (by lia),?_⟩;subst hE1_;refine⟨_,_,_,rfl,Same.put (Same.trans (Same.trans sG s2) t15) hu _,ae,?_⟩;rw[iu];have sH:Same H (bv _ u):=sv (D:=u) (Same.trans (Same.trans sG s2) t15) hu;have lu5:=c5 (Same.trans (d7 (hide_le:Same (bv G2 D) G2)) (d7 (D:=u) t15)) lu;refine(ly.imp λd y _ z=>z.mono (d7 (Same.trans s2 t15))).snoc ⟨p5,_,rfl,by rw[cg pu];exact ae,?_⟩;have hk:k1+k2+1=1+k1+k2:=(by lia);rw[hk];refine LstP.append (k:=1+k1) (k':=k2) (LstP.append (k:=1) (k':=k1) (lu5.take1.imp λc y hc z=>?_) (c5 sH lb1).drop1 λc y hc z=>?_) lu5.drop1 λc y hc z=>?_
   ·have:c=0:=(by lia);subst this;unfold re;rw[if_pos hi,if_pos rfl];exact z
   ·unfold re;rw[if_pos hi,if_neg (by lia),if_pos (by lia),iY 1 c];exact z
   ·unfold re;rw[if_pos hi,if_neg (by lia),if_neg (by lia),show 1+k1+c - (k1+1)+1=c+1 by lia];exact z
 ·intro σ G h_1;obtain⟨ys,v3,v4,rfl,sG,gu,ly⟩:=h_1;rw[xl1]at ly;have ly':=ly.imp λd y _ z=>z.mono hide_le;have yl:=ly.1;refine⟨_,rfl,_,rfl,_,rfl,n,k1,k2,W1,W2,.ref a1,.ref a2,rfl,w1.mono sG,w2.mono sG,k300,n300,λrb bs G9 s9 h9 g9 l9=>?_⟩;have bl:=l9.1;refine⟨u,rb,_,_,rfl,rfl,s9 _ _ gu,g9,small (by lia),λp8 hp8=>?_⟩;have t8:=ad hp8 (.lst (ys++bs));refine q _ _ (Same.trans sG (Same.trans s9 t8)) ⟨p8,_,rfl,ae,?_⟩;rw[show k1+k2+1=k1+1+k2 by lia];refine LstP.append (k:=k1+1) (k':=k2) (ly'.imp λd y hd z=>?_) (l9.imp λd y _ z=>z.mono t8) λd y hd z=>?_
  ·rw[show k1+1+k2=k1+k2+1 by lia];exact z.mono (Same.trans s9 t8)
  ·rw[show k1+1+k2=k1+k2+1 by lia];refine z.eq λc hc=>?_;unfold re;rw[if_neg (by lia)]
end
end S25
namespace S25
open PySem L2 Bits
def pd (n:Nat)(Wr:Nat->Rl)(A:Rl)(W0:Nat->Rl)(c:Nat):Rl:=if c=0 then mq n (Wr 0) A else orR n (Wr c) (mq n (mq n (Wr 0) A) (W0 c))
def Ql:Sp:=λvs H Q _=>∃(n k:Nat)(Wr W0:Nat->Rl) (A:Rl) (x y z:V),vs=[x,y,z]/\RowAt H n (k+1) Wr x/\RelAt H n A y/\RowAt H n (k+1) W0 z/\k<=300/\n<=300/\
 ∀(r:Addr)(xs:List V) (H':Hp),Same H H'->H r=none->H' r=some (.lst xs)->uk (bv (jx H H') r) n (k+1) (pd n Wr A W0) xs->Q (.ref r) H'
def Qm:Sp:=λvs H Q _=>∃(n k:Nat)(W:Nat->Nat->Rl) (x:V),vs=[x]/\WaysAt H n (k+1) W x/\k<=300/\n<=300/\Ei n (k+1) (vk n W) H Q
section
variable {P:aS}{w:bZ}{K:aA}{mg:Str->Option aB}{base:Heap}
theorem O8:ar ["row","anew","start","ended","later"] ["row","anew","start"] (aj wq):=fsN
def Qn:gG:={ kind:=.function,names:=[(".0",.local),("old",.local),("begun",.local),("either_of",.globalImplicit),("one_then_other",.globalImplicit),("ended",.free)],isGenerator:=false,isCoroutine:=false,more:=[] }
theorem cAr_ {CX:CXT}{f:Addr}{cdv:aB}{A:cW}{outer:List Env}{s:aI}{H:Hp}{E:XK} :
  cb (bf CX P w K mg base ["row","anew","start","ended","later"] "again_row" (aj wq) f cdv A outer s H E).nox ["old","begun"] ["ended"] [3] Qn [("ended",s.heap.objs.size+1)]:=csN [(".0",.local),("old",.local),("begun",.local),("either_of",.globalImplicit),("one_then_other",.globalImplicit),("ended",.cell)]
theorem Vl {f:Addr}{fd:cC}(F:Fun K "again_row" "again_row" wq f fd)(hO:Has P w K mg base 2 "one_then_other" ["first","second"] (Je K))(hE:Has P w K mg base 1 "either_of" ["one","other"] (zj K))(mz:mg "zip"=none) :
  FnOk P w K mg base CX0 3 f fd ["row","anew","start"] Ql:=by
 obtain⟨fO,dO,GO,bO,kO,mO⟩:=hO;obtain⟨fE,dE,GE,bE,kE,mE⟩:=hE;refine F.ok O8 (λvs H Q E h=>?_) (λcdv A outer s H vs Q E hr h=>?_)
 ·obtain⟨n,k,Wr,W0,R,x,y,z,rfl,_⟩:=h;rfl
 obtain⟨n,k,Wr,W0,R,x,y,z,rfl,wr,wy,w0,k300,n300,q⟩:=h;refine⟨_,ah (ax (i:=3) O8.nd rfl (lJ rfl) (ao GO hr rfl mO kO bO .nil az (ac (aq aw (pv 0) ag (λ_ _=>rfl)) (ac (pv 1) af)))) (ah (nv (i0:=4) (ns:=["old","begun"]) (ys:=["ended"]) (sc:=Qn) O8.nd rfl rfl cAr_ rfl (A6 rfl mz (ac (cq fj (pv 0) (c7 ag) dh) (ac (cq fj (pv 2) (c7 ag) dh) af))) (λC s H fp=>pg2 rfl) (λC s H fp=>cw) (λC s H fp=>ao GE (hr.mono (by decide)) rfl mE kE bE .nil az (ac (pv 0) (ac (ao GO hr rfl mO kO bO .nil az (ac (pv 2) (ac (pv 1) af))) af)))) (ai (au (bc gf (av (ac (pv 3) af)) (pv 4))))),?_⟩;dsimp only[bf,Cx.nox];obtain⟨b,zs,rfl,gb,lb⟩:=wr;obtain⟨c,ns,rfl,gc,rc⟩:=wy;obtain⟨b0,zs0,rfl,gb0,lb0⟩:=w0;obtain⟨_,e1,c1,ns1,rfl,gc1,rv1⟩:=lb.at (c:=0) (by lia);have zl:=lb.1;have zl0:=lb0.1;refine⟨_,rfl,b,_,_,_,rfl,rfl,SqL.of gb,bh (j:=0) e1,_,rfl,n,c1,c,ns1,ns,_,_,rfl,SqL.of gc1,rv1,SqL.of gc,rc,n300,λr1 n1 G1 s1 h1 g1 v1=>?_⟩;refine⟨_,rfl,_,rfl,b,zs,rfl,SqL.of (s1 _ _ gb),λp1 hp1=>?_⟩;rw[o9];have t1:=ad hp1 (.lst (zs.drop 1));refine⟨_,rfl,_,rfl,b0,zs0,rfl,SqL.of ((Same.trans s1 t1) _ _ gb0),λp2 hp2=>?_⟩;rw[o9];have t2:=ad hp2 (.lst (zs0.drop 1));have s2:=Same.trans s1 (Same.trans t1 t2);have g12:=(Same.trans t1 t2) _ _ g1;refine⟨p1,p2,_,_,rfl,SqL.of (t2 _ _ ae),SqL.of ae,λD hD=>?_⟩;have gp1:(upd (upd G1 p1 (.lst (zs.drop 1))) p2 (.lst (zs0.drop 1))) p1=some (.lst (zs.drop 1)):=t2 _ _ ae;have gp2:(upd (upd G1 p1 (.lst (zs.drop 1))) p2 (.lst (zs0.drop 1))) p2=some (.lst (zs0.drop 1)):=ae;generalize upd (upd G1 p1 (.lst (zs.drop 1))) p2 (.lst (zs0.drop 1))=G2 at s2 g12 hD gp1 gp2 ⊢;have ld:=lb.drop1;have ld0:=lb0.drop1;refine vh (K:=K) (a:=p1) (b:=p2) (xs:=zs.drop 1) (ws:=zs0.drop 1) (by rw[ld.1,ld0.1]) (λi ys G=>Same G2 G/\G D=some (.lst ys)/\uk (bv (jx H G) D) n i (λc=>pd n Wr R W0 (c+1)) ys)
  ⟨ad hD _,ae,.nil⟩ (λi ys G z=>z.2.1) (λi ys G _ z=>⟨SqL.of (z.1 _ _ gp1),SqL.of (z.1 _ _ gp2)⟩) ?_ ?_ ?_
 ·intro i ys G hi h_1;obtain⟨sG,gD,ly⟩:=h_1;have yl:=ly.1;rw[ld.1]at hi;exact bg (by lia)
 ·intro i x y t ys G hx hy h_1 ht;obtain⟨sG,gD,ly⟩:=h_1;obtain⟨c3,ns3,rfl,gc3,rv3⟩:=(ld.2 i x hx).mono (Same.trans s2 sG);obtain⟨c4,ns4,rfl,gc4,rv4⟩:=(ld0.2 i y hy).mono (Same.trans s2 sG);have tt:=ad ht (.tup [.ref c3,.ref c4]);refine⟨t,_,rfl,SqT.of ae,rfl,_,_,rfl,_,_,rfl,rfl,⟨[some _,some _],rfl,rfl⟩,?_⟩;refine⟨_,rfl,_,rfl,_,rfl,n,r1,c4,n1,ns4,_,_,rfl,SqL.of ((Same.trans sG tt) _ _ g12),v1,SqL.of (tt _ _ gc4),rv4,n300,λr5 n5 G5 s5 h5 g5 v5=>?_⟩;have s3:=Same.trans tt s5;refine⟨n,c3,r5,ns3,n5,_,_,rfl,SqL.of (s3 _ _ gc3),rv3,SqL.of g5,v5,n300,λr6 n6 G6 s6 h6 g6 v6=>?_⟩;have s4:=Same.trans s3 s6;have hrD:r6≠D:=λe=>(by subst e;rw[s3 _ _ gD]at h6;cases h6);refine⟨s4 _ _ gD,Same.put (Same.trans sG s4) hD _,ae,?_⟩;rw[Lw];refine(c5 (d7 (B0 s4)) ly).snoc ⟨r6,n6,rfl,by rw[cg hrD,Bc (Same.free (Same.trans s2 (Same.trans sG s3)) h6)];exact g6,?_⟩;show RelP n n6 (pd n Wr R W0 (i+1));unfold pd;rw[if_neg (by lia)];exact v6
 ·intro ys G h_1;obtain⟨sG,gD,ly⟩:=h_1;rw[ld.1]at ly;have yl:=ly.1;refine⟨_,rfl,sz1,λp3 hp3=>?_⟩;have t3:=ad hp3 (.lst [.ref r1]);refine⟨_,rfl,p3,D,_,_,rfl,rfl,ae,t3 _ _ gD,small (by show 1+_<=_;lia),λp4 hp4=>?_⟩;have t4:=ad hp4 (.lst ([.ref r1]++ys));have t34:=Same.trans t3 t4;have sT:=Same.trans s2 (Same.trans sG t34);have hp40:G p4=none:=Same.free t3 hp4;refine q p4 _ _ sT (Same.free (Same.trans s2 sG) hp40) ae ?_;rw[iY k 1];have hpn:jx H G p4=none:=by
   cases e:jx H G p4 with
   |none=>rfl
   |some o=>rw[(q5 e).2]at hp40;cases hp40
  refine LstP.append (k:=1) (k':=k) (.one ⟨r1,n1,rfl,?_,?_⟩) (c5 (Same.trans hide_le (sv (B0 t34) hpn)) ly) λc y hc z=>?_
  ·rw[cg (am g12 (Same.free sG hp40)),Bc h1];exact(Same.trans sG t34) _ _ g12
  ·unfold pd;rw[if_pos rfl];exact v1
  ·rw[iY 1 c];exact z
theorem O9:ar ["ways","anew","rows"] ["ways"] (aj wo):=fsN
def Qo:gG:={ kind:=.function,names:=[(".0",.local),("row",.local),("again_row",.globalImplicit),("anew",.free),("ways",.free)],isGenerator:=false,isCoroutine:=false,more:=[] }
theorem cAw_ {CX:CXT}{f:Addr}{cdv:aB}{A:cW}{outer:List Env}{s:aI}{H:Hp}{E:XK} :
  cb (bf CX P w K mg base ["ways","anew","rows"] "again_ways" (aj wo) f cdv A outer s H E).nox ["row"] ["anew","ways"] [1,0] Qo [("ways",s.heap.objs.size+1),("anew",s.heap.objs.size+1+1)]:=csN [(".0",.local),("row",.local),("again_row",.globalImplicit),("anew",.cell),("ways",.cell)]
theorem Vm {f:Addr}{fd:cC}(F:Fun K "again_ways" "again_ways" wo f fd)(hA:Has P w K mg base 2 "again_and_again" ["relation"] (Cl Star K))(hR:Has P w K mg base 3 "again_row" ["row","anew","start"] Ql) :
  FnOk P w K mg base CX0 4 f fd ["ways"] Qm:=by
 obtain⟨fA,dA,GA,bA,kA,mA⟩:=hA;obtain⟨fR,dR,GR,bR,kR,mR⟩:=hR;refine F.ok O9 (λvs H Q E h=>?_) (λcdv A outer s H vs Q E hr h=>?_)
 ·obtain⟨n,k,W,x,rfl,_⟩:=h;rfl
 obtain⟨n,k,W,x,rfl,w1,k300,n300,q⟩:=h;refine⟨_,ah (ax (i:=1) O9.nd rfl (lJ rfl) (ao GA (hr.mono (by decide)) rfl mA kA bA .nil az (ac (aq aw (aq aw (pv 0) ag (λ_ _=>rfl)) ag (λ_ _=>rfl)) af))) (ah (nv (i0:=2) (ns:=["row"]) (ys:=["anew","ways"]) (sc:=Qo) O9.nd rfl rfl cAw_ rfl (ck (pv 0)) (λC s H fp=>ay (i:=0) (by show(["row","anew","ways"]:List Str).Nodup;decide +kernel) rfl (bV rfl)) (λC s H fp=>cw) (λC s H fp=>ao GR hr rfl mR kR bR .nil az (ac (pv 0) (ac (pv 1) (ac (aq (r:=xm K) aw (pv 2) ag (λ_ _=>rfl)) af))))) (ah (r8 (pv 1) (Cw (aq aw (pv 2) ag (λ_ _=>rfl)) ag C1)) (ai (au (pv 2))))),?_⟩;dsimp only[bf,Cx.nox];obtain⟨a,xs,rfl,ga,la⟩:=id w1;obtain⟨_,e0,b0,zs0,rfl,gb0,lb0⟩:=la.at (c:=0) (by lia);obtain⟨_,f0,c0,ns0,rfl,gc0,rv0⟩:=lb0.at (c:=0) (by lia);have xl:=la.1;refine⟨_,rfl,a,_,_,_,rfl,rfl,SqL.of ga,bh (j:=0) e0,b0,_,_,_,rfl,rfl,SqL.of gb0,bh (j:=0) f0,n,c0,ns0,_,rfl,SqL.of gc0,rv0,n300,λr1 n1 G1 s1 h1 g1 v1=>?_⟩;refine⟨_,rfl,a,rfl,⟨_,SqL.of (s1 _ _ ga)⟩,λD hD=>?_⟩;refine dm (K:=K) (a:=a) (xs:=xs) (λi ys G=>Same G1 G/\G D=some (.lst ys)/\((i=0/\ys=[])\/∃(b:Addr)(us rest:List V),i=rest.length+1/\ys=.ref b::rest/\G1 b=none/\b≠D/\G b=some (.lst us)/\uk (bv (bv G D) b) n (k+1) (pd n (W 0) (Star n (W 0 0)) (W 0)) us/\LstP (λd=>RowAt (bv (bv G D) b) n (k+1) (pd n (W (d+1)) (Star n (W 0 0)) (W 0))) rest.length rest))
  ⟨ad hD _,ae,.inl ⟨rfl,rfl⟩⟩ (λi ys G z=>z.2.1) (λi ys G _ z=>SqL.of (z.1 _ _ (s1 _ _ ga))) ?_ ?_
 ·intro i x ys G hx h_1;obtain⟨sG,gD,inv⟩:=h_1;have hi:i < k+1:=(by rw[<-xl];exact(aK.mp hx).1);have sA:=Same.trans s1 sG;have yl:ys.length=i:=by
   rcases inv with⟨rfl,rfl⟩ | ⟨b,us,rest,e,rfl,_⟩
   ·rfl
   ·rw[e];rfl
  refine⟨bg (by lia),⟨[some _],rfl,rfl⟩,?_⟩;refine⟨_,rfl,_,rfl,_,rfl,a,_,_,_,rfl,rfl,SqL.of (sA _ _ ga),bh (j:=0) e0,n,k,W i,W 0,_,x,.ref r1,.ref b0,rfl,(la.2 i x hx).mono sA,⟨r1,n1,rfl,sG _ _ g1,v1⟩,⟨b0,zs0,rfl,sA _ _ gb0,c5 sA lb0⟩,k300,n300,λr us G2 s2 h2 g2 l2=>?_⟩;have rD:r≠D:=λe=>(by subst e;rw[gD]at h2;cases h2);refine⟨s2 _ _ gD,Same.put (Same.trans sG s2) hD _,ae,.inr ?_⟩;rcases inv with⟨rfl,rfl⟩ | ⟨b,us',rest,e,rfl,hb,bD,gb,lu,lr⟩
  ·refine⟨r,us,[],rfl,rfl,Same.free sG h2,rD,by rw[al rD];exact g2,?_,.nil⟩;rw[iu];exact c5 (d7 (vj gD Gj)) l2
  ·have rb:r≠b:=λe=>(by subst e;rw[gb]at h2;cases h2);refine⟨b,us',rest++[.ref r],(by rw[aN,e];rfl),rfl,hb,bD,(by rw[al bD];exact s2 _ _ gb),?_,?_⟩
   ·rw[iu];exact c5 (d7 (d7 s2)) lu
   ·rw[iu,aN];refine(lr.imp λd y _ z=>z.mono (d7 (d7 s2))).snoc ⟨r,us,rfl,by rw[cg rb,cg rD];exact g2,?_⟩;have ei:W (rest.length+1)=W i:=(by rw[e]);rw[ei];exact c5 (Same.trans hide_le (vj gb (vj gD Gj))) l2
 ·intro ys G h_1;obtain⟨sG,gD,inv⟩:=h_1;rw[xl]at inv;rcases inv with⟨z,_⟩ | ⟨b,us,rest,e,rfl,hb,bD,gb,lu,lr⟩
  ·lia
  have ul:=lu.1;have er:rest.length=k:=(by lia);refine⟨_,rfl,_,rfl,D,_,_,_,rfl,rfl,SqL.of gD,bh (j:=0) rfl,b,us,0,0,rfl,rfl,gb,?_,?_⟩
  ·unfold ixN;rw[ul,if_pos (by decide),if_pos (by lia)];rfl
  have hbH:H b=none:=Same.free s1 hb;refine⟨_,rfl,q _ _ (Same.put (Same.trans s1 sG) hbH _) ⟨D,.ref b::rest,rfl,by rw[al (gH bD)];exact gD,?_⟩⟩;have sP:Same (bv (bv G D) b) (upd G b (.lst (us.set 0 (.ref r1)))):=λc o z=>by
   have hc:c≠b:=λw=>(by subst w;unfold bv at z;rw[if_pos rfl]at z;cases z);rw[al hc];exact hide_le _ _ (hide_le _ _ z)
  have hr1:r1≠b:=am g1 hb;rw[iY k 1];refine LstP.append (k:=1) (k':=k) (xs:=[.ref b]) (.one ⟨b,_,rfl,ae,?_⟩) (er ▸ lr) λd y hd z=>?_
  ·rw[iY 1 k];refine LstP.set lu ⟨r1,n1,rfl,by rw[al hr1];exact sG _ _ g1,?_⟩ λc y hc h0 z=>?_
   ·unfold vk;rw[if_pos rfl,if_pos rfl];exact v1
   ·unfold vk;unfold pd at z;rw[if_neg h0]at z ⊢;exact z.mono sP
  ·rw[iY 1 k];refine(z.mono sP).eq λc hc=>?_;unfold vk pd;rw[iY 1 d];by_cases h0:c=0
   ·rw[if_pos h0,if_pos h0,if_neg (by lia)]
   ·rw[if_neg h0,if_neg h0]
end
end S25
namespace L2
open PySem PySem.Spec PyProof.Rows
def Itv (K:aA)(a:Addr)(n:Nat):It:=
 ⟨λi H=>∃xs x,SqL K H a xs/\xs.length=n/\i < n/\xs[n - 1 - i]?=some x,λi H x H'=>H'=H/\∀xs,SqL K H a xs->xs[n - 1 - i]?=some x,λi _=>n<=i⟩
theorem Pa {P:aS}{w:bZ}{K:aA}{tg:Expr}(a it:Addr)(n:Nat):t9 P w K tg (Itv K a n) [it] it (λi h=>i<=n/\h.IsRevIter it a ((n:Int) - 1 - (i:Int))) where
 mem:=by simp
 obj:=λi h st b hb=>by
  have e:b=it:=(by simpa using hb);subst e;obtain⟨_,o,e,c,d⟩:=st;exact⟨o,e,λv z=>by rw[d]at z;cases z⟩
 keep:=λi h h' st k=>⟨st.1,st.2.at λo e=>k it (by simp) o e⟩
 item:=by
  intro X hP hw hK hc i pins s σ H E I hf st hg;subst hP hw hK;obtain⟨xs,x,hq,hl,hi,hx⟩:=hg;obtain⟨its,rv,p,hz⟩:=I.list hq;obtain⟨u,hu,ru⟩:=rv.get hx;obtain⟨f0,f1,f2,f3,f4,f5⟩:=hf it (by simp);have e:(n:Int) - 1 - (i:Int)=((n - 1 - i:Nat):Int):=(by lia);have st2:=st.2;rw[e]at st2;refine wpAny_pyNext_rev_item st2 p.isList (x:=u) (by simpa using hu) λh' st' sb=>?_;have e2:((n - 1 - i:Nat):Int) - 1=(n:Int) - 1 - ((i+1:Nat):Int):=(by lia);rw[e2]at st';have I1:Inv X pins σ H { s with heap:=h' }:=I.turned (t':=s.toks) (λb o hb e=>(sb.2 b hb).trans e) f0 f1 f3 f4 f5;obtain⟨o,e,c,d⟩:=id st';exact⟨u,rfl,yb (s:={ s with heap:=h' }) e c d (by decide) ⟨x,H,I1,ru,⟨rfl,λys hy=>by rw[I.list_inj hy hq];exact hx⟩,⟨hi,st'⟩,λb hb=>(hf b hb).1⟩⟩
 done:=by
  intro X hP hw hK hc i pins s σ H E I hf st hg;subst hP hw hK;have hg':n<=i:=hg;obtain⟨f0,f1,f2,f3,f4,f5⟩:=hf it (by simp);have e:(n:Int) - 1 - (i:Int)=-1:=(by have:=st.1;lia);have st2:=st.2;rw[e]at st2;exact wpAny_pyNext_rev_end (I.ok.hd hc) st2 λh' eb=>⟨rfl,I.turned (t':=s.toks) (λb o hb e=>eb b o hb e) f0 f1 f3 f4 f5⟩
 self:=λ_ _ _ _ _ st h=>wpAny_pyIter_revIter st.2 h
section
variable {X:Cx}
def iRev (K:aA)(ta:TA):TI:=λσ H R=>ta σ H λvs H1=>∃a xs,vs=[.ref a]/\SqL K H1 a xs/\R (Itv K a xs.length) H1
theorem Vn {tg e1:Expr}{ta:TA}{p pos:Pos}(hg:Gl X "reversed")(hm:X.mg "reversed"=none)(ha:PA X [e1] ta)(hs:cZ [e1] X.env=[(false,eval e1 X.env)]:=by rfl)
  (hs2:cZ [] X.env=[]:=by rfl):PI X tg (.Call (.Name "reversed" p) [e1] [] pos) (iRev X.K ta):=by
 intro pins s σ H R I h;refine Call_ (jy I hg hm (by kernel_rfl:lQ (iN "reversed")=some (.type "reversed")) (gU (thn (ha pos pins s σ H _ I h) λus s1 ⟨vs,H1,I1,r1,q1⟩=>?_) (by rw[hs,hs2]) (by rw[hs2];rfl)));obtain⟨a,xs,e,hx,q⟩:=q1;subst e;obtain⟨u,rfl,ru⟩:=jg r1;cases(show u=cH a from ru);obtain⟨its,k1,p1,_⟩:=I1.list hx;have l1:=k1.length;refine call_reversed_list (p1.isList) ?_;have e:((its.toArray.size:Nat):Int) - 1=((xs.length:Nat):Int) - 1 - ((0:Nat):Int):=(by simp;lia);rw[e];have rv:(s1.heap.push (revObj a (((xs.length:Nat):Int) - 1 - ((0:Nat):Int)))).IsRevIter s1.heap.objs.size a (((xs.length:Nat):Int) - 1 - ((0:Nat):Int)):=⟨_,cJ _ rfl,rfl,rfl⟩;refine wpAny_pyIter_revIter rv ?_;refine⟨s1.heap.objs.size,[s1.heap.objs.size],_,_,H1,rfl,I1.kept (t':=s1.toks) λb o e=>aJ _ e,Pa a _ xs.length,⟨jZ _,rv⟩,λb hb=>?_,q⟩;have e:b=s1.heap.objs.size:=(by simpa using hb);subst e;exact I1.fpOk (aO _) (I1.hok.fresh (aO _))
end
theorem S0 {K:aA}{a:Addr}{xs:List V}{g:TG}{tb:TS}{D:db}{σ:St}{H:Hp}(Pv:Nat->St->Hp->Prop)(h0:Pv 0 σ H)(hl:∀i σ H,i<=xs.length->Pv i σ H->SqL K H a xs)
  (hs:∀i x σ H,xs.reverse[i]?=some x->Pv i σ H->g x σ H λσ2 H2=>tb { D with nx:=Pv (i+1),ct:=Pv (i+1),bk:=D.nx } σ2 H2) (hd:∀σ H,Pv xs.length σ H->D.nx σ H) :
  ∃W:Nat->Nat->St->Hp->Prop,(∃m,W 0 m σ H)/\∀i m σ H,W i m σ H->
   ((Itv K a xs.length).stop i H/\D.nx σ H)\/((Itv K a xs.length).go i H/\∃N:St->Hp->Prop,(∀σ' H',N σ' H'->∃m',m' < m/\W (i+1) m' σ' H')/\∀x H',(Itv K a xs.length).yld i H x H'->g x σ H' λσ2 H2=>tb { D with nx:=N,ct:=N,bk:=D.nx } σ2 H2):=by
 refine⟨λi m σ H=>i+m=xs.length/\Pv i σ H,⟨xs.length,by lia,h0⟩,?_⟩;intro i m σ H h_1;obtain⟨e,p⟩:=h_1;have q1:=hl i σ H (by lia) p;by_cases hi:i < xs.length
 ·have ex:xs[xs.length - 1 - i]?=some xs[xs.length - 1 - i]:=aL (by lia);refine .inr ⟨⟨xs,_,q1,rfl,hi,ex⟩,Pv (i+1),λσ' H' p'=>⟨m - 1,by lia,by lia,p'⟩,?_⟩;intro x H' h_1;obtain⟨rfl,eu⟩:=h_1;exact hs i x σ _ (by rw[rK hi];exact eu xs q1) p
 ·have e':i=xs.length:=(by lia);subst e';exact .inl ⟨aO _,hd σ H p⟩
section
variable {X:Cx}{pins:List (Addr×Obj)}{σ:St}{H:Hp}{s:aI}
theorem zm {prog:aS}{w:bZ}:∀{x:List Int}{its:List aB},Vals (x.map V.int) its->PySem.ItemsAre (lX prog w) x its
 | [],_,r=>by cases r;exact .nil
 |n::x,_,r=>by
  cases r with
  |cons h t=>
   obtain⟨tk,rfl⟩:=(show ∃t,_=pZ n t from h);exact .cons (by show mK n (pZ n tk)=true;simp[mK]) (zm t)
theorem Inv.key (I:Inv X pins σ H s)(prog:aS)(w:bZ){a:Addr}{x:List Int}(h:SqT X.K H a (x.map V.int)):sQ (lX prog w) s.heap x a:=by
 obtain⟨its,r,p,_⟩:=I.tuple h;obtain⟨o,h1,h2,n,h3⟩:=p;exact⟨o,its.toArray,n,h1,h2,h3,by simpa using zm r⟩
theorem Inv.eqT (I:Inv X pins σ H s){A:cW}(hu:A.units < iJ){a b:Addr}{x y:List Int}(ha:SqT X.K H a (x.map V.int))(hb:SqT X.K H b (y.map V.int)):xW A s (.ref a) (.ref b) (decide (x=y)):=
 λprog w _ _ hq=>wpAny_eqBool_tuple hu (I.key prog w ha) (I.key prog w hb) hq
theorem Inv.tup_inj (I:Inv X pins σ H s){a:Addr}{x y:List Int}(ha:SqT X.K H a (x.map V.int))(hb:SqT X.K H a (y.map V.int)):x=y:=
 (I.key X.prog X.w ha).inj (I.key X.prog X.w hb)
def Gm (K:aA):V->List V->Hp->VK->Prop:=λx vs H Q=>∃(a b:Addr)(xs:List V) (ls:List (List Int)) (l:List Int),x=.ref a/\vs=[.ref b]/\SqL K H a xs/\Paired (λy m=>∃c,y=.ref c/\SqT K H c (m.map V.int)) xs ls/\
 SqT K H b (l.map V.int)/\l∈ls/\Q (.int (ls.idxOf l:Nat)) H
theorem B1 {α β:Type}{F:α->β->Prop}:∀{xs:List α}{ys:List β},Paired F xs ys->∀{i:Nat}{x:α},xs[i]?=some x->∃y,ys[i]?=some y/\F x y
 |_,_,.nil,i,x,e=>by simp at e
 |_,_,.cons h _,0,x,e=>by simp at e;subst e;exact⟨_,rfl,h⟩
 |_,_,.cons _ t,i+1,x,e=>by simpa using B1 t (i:=i) (x:=x) (by simpa using e)
theorem Ly {α:Type}[BEq α][LawfulBEq α]{l:α}:∀{ls:List α}{m:Nat},m < ls.idxOf l->∀(hm:m < ls.length),ls[m]≠l
 | [],m,h,hm=>absurd hm (sO _)
 |x::xs,m,h,hm=>by
  rw[List.idxOf_cons]at h;by_cases e:x == l
  ·rw[e]at h;exact absurd h (sO _)
  ·have e':(x == l)=false:=(by simpa using e);rw[e']at h;cases m with
   |zero=>simpa using e
   |succ m=>exact Ly (ls:=xs) (m:=m) (by simpa using h) (by simpa using hm)
open Classical in
theorem Ek (hu:X.A.units+8 < iJ):MtM X "list.index" (Gm X.K):=by
 intro pins s σ H x vs v us Q I rx rv h;obtain⟨a,b,xs,ls,l,rfl,rfl,hx,hp,hb,hm,q⟩:=h;cases rx;obtain⟨u,rfl,ru⟩:=jg rv;cases(show u=cH b from ru);obtain⟨its,r,p,hz⟩:=I.list hx;obtain⟨⟨cls,dd,data,sl⟩,ho,hc,n,hd⟩:=p.isList;simp only at hc hd;subst hc hd;have hlen:xs.length=ls.length:=Paired.length hp;have hil:=r.length;have hj:ls.idxOf l < ls.length:=nX.mpr hm
 let e:aB->Bool:=λy=>decide (∃c,y=.ref c/\SqT X.K H c (l.map V.int))
 have key:∀(m:Nat)(hm:m < its.length) (hm':m < ls.length),(∃c,its[m]=.ref c/\SqT X.K H c (ls[m].map V.int))/\e its[m]=decide (ls[m]=l):=λm hm hm'=>by
  have hxm:xs[m]?=some (xs[m]'(by lia)):=aL (by lia);obtain⟨y,ey,c,ec,sc⟩:=B1 hp hxm;obtain⟨w,ew,rw'⟩:=r.get hxm;rw[aL hm']at ey;rw[aL hm]at ew;cases ey;have ew':its[m]=w:=eQ ew;rw[ec]at rw';have ew2:its[m]=.ref c:=ew'.trans rw';refine⟨⟨c,ew2,sc⟩,?_⟩;show decide (∃c',its[m]=.ref c'/\SqT X.K H c' (l.map V.int))=decide (ls[m]=l);rw[decide_eq_decide,ew2];constructor
  ·intro h_1;obtain⟨c',e1,s1⟩:=h_1;cases e1;exact I.tup_inj sc s1
  ·intro e1;exact⟨c,rfl,by rw[<-e1];exact sc⟩
 have hb63:=qc;refine pC qR ⟨_,ho,rfl⟩ PySem.F.entry_list_index (PySem.F.args_list_index_2 _ _)
  (SeqAt.list_indexAt a its.toArray n dd sl (.ref b) e (ls.idxOf l) (by simp;lia) (by lia) ?_ ?_) ⟨ho,λy hy=>?_,⟨.int _,H,I.tok _,⟨_,rfl⟩,q⟩⟩
 ·rw[sR,(key _ (by lia) hj).2];simp[qJ]
 ·intro m hms hlt;rw[sR,(key m (by simpa using hms) (by lia)).2];rw[decide_eq_false_iff_not];exact λe1=>Ly hlt (by lia) e1
 ·obtain⟨m,hm,rfl⟩:=Array.mem_iff_getElem.mp hy;have hm2:m < its.length:=(by simpa using hm);obtain⟨⟨c,ec,sc⟩,ee⟩:=key m hm2 (by lia);rw[sR,ee,ec];refine I.eqT ?_ sc hb;show X.A.units+1 < iJ;lia
theorem Lz {K:aA}(hK:X.K=K)(hu:X.A.units+8 < iJ):MtR X "list.index" (Gm K):=by
 subst hK;exact Ek hu
theorem Vo {K:aA}{T:String}{name:Str}{id:String}{r:V->List V->Hp->VK->Prop}{o e:Expr}{es:List Expr}{to:TE}{t:TA}{apos cpos:Pos}(hK:X.K=K)(pa:wC T)(slot:Slot T name id)(hty:xX (.builtin id)=pure (.type "method_descriptor"))(hm:MtR X id r)(ho:PE X o to)(ha:PA X (e::es) t)
  (hbase:nJ o name X.env (eval o X.env)=eval o X.env:=by rfl)
  (hfew:((lE cpos (cZ (e::es) X.env)).all (λx=>!x.1) && (sY cpos (pP [] X.env)).all (λx=>x.1.isSome) && decide ((e::es).length+([]:List uI).length+(if ([]:List uI).isEmpty then 0 else 1) < 30))=true:=by rfl)
  (hline:(apos.endLine == cpos.line)=true:=by rfl) (hs:cZ (e::es) X.env=(false,eval e X.env)::cZ es X.env:=by rfl) (hplain:(lE cpos (cZ es X.env)).any (·.1)=false:=by rfl) :
  PE X (.Call (.Attribute o name apos) (e::es) [] cpos) (tBM K T r to t):=by
 subst hK;exact gi pa slot hty hm ho ha hbase hfew hline hs hplain
theorem S7 {K:aA}{T:String}{name:Str}{id:String}{r:V->List V->Hp->VK->Prop}{o:Expr}{to:TE}{apos cpos:Pos}(hK:X.K=K)(pa:wC T)(slot:Slot T name id)(hty:xX (.builtin id)=pure (.type "method_descriptor"))(hm:MtR X id r)(ho:PE X o to)
  (hbase:nJ o name X.env (eval o X.env)=eval o X.env:=by rfl) (hline:(apos.endLine == cpos.line)=true:=by rfl):PE X (.Call (.Attribute o name apos) [] [] cpos) (Uo K T r to):=by
 subst hK;exact yk pa slot hty hm ho hbase hline
end
end L2
namespace S1
theorem Bd {acc:List (List Int)}{c:Nat}{m:List Int}:m∈longer acc c↔∃l∈acc,∃v:Nat,v < c/\m=l++[(v:Int)]:=by
 constructor
 ·exact o8
 ·intro h_1;obtain⟨l,hl,v,hv,rfl⟩:=h_1;exact List.mem_flatMap.mpr ⟨l,hl,eE.mpr ⟨v,eZ.mpr hv,rfl⟩⟩
def Ji (cs:List Nat)(l:List Int):Prop:=l.length=cs.length/\∀(i:Nat)(v:Int),l[i]?=some v->∃c,cs[i]?=some c/\0<=v/\v < (c:Int)
theorem B2 {cs:List Nat}{c:Nat}{l:List Int}{v:Int}:Ji (cs++[c]) (l++[v])↔Ji cs l/\0<=v/\v < (c:Int):=by
 constructor
 ·intro h_1;obtain⟨h1,h2⟩:=h_1;have hl:l.length=cs.length:=(by simpa using h1);refine⟨⟨hl,λi u hi=>?_⟩,?_⟩
  ·have hlt:=(aK.mp hi).1;obtain⟨d,hd,r⟩:=h2 i u (by rw[eP hlt];exact hi);rw[eP (by lia)]at hd;exact⟨d,hd,r⟩
  ·obtain⟨d,hd,r⟩:=h2 l.length v (by simp);rw[hl]at hd;have:c=d:=(by simpa using hd);subst this;exact r
 ·intro h_1;obtain⟨⟨h1,h2⟩,h3⟩:=h_1;refine⟨by simp[h1],λi u hi=>?_⟩;rcases Nat.lt_trichotomy i l.length with q | q | q
  ·rw[eP q]at hi;obtain⟨d,hd,r⟩:=h2 i u hi;exact⟨d,by rw[eP (by lia)];exact hd,r⟩
  ·subst q;have e:v=u:=(by simpa using hi);subst e;exact⟨c,by rw[h1];simp,h3⟩
  ·rw[List.getElem?_eq_none (by rw[aN,gF];lia)]at hi;cases hi
theorem letters_mem (cs:List Nat)(l:List Int):l∈letters cs↔Ji cs l:=by
 suffices z:∀(ds:List Nat)(l:List Int),l∈letters ds.reverse↔Ji ds.reverse l by
  have:=z cs.reverse l
  rwa [nN]at this
 intro ds
 induction ds with
 |nil=>
  intro l;show l∈[[]]↔_;rw[List.mem_singleton];constructor
  ·rintro rfl;exact⟨rfl,λi v e=>by simp at e⟩
  ·rintro⟨h,_⟩;exact gM.mp h
 |cons c cs ih=>
  intro l;rw[lT,qk,Bd];constructor
  ·intro h_1;obtain⟨m,hm,v,hv,rfl⟩:=h_1;exact B2.mpr ⟨(ih m).mp hm,by lia,by lia⟩
  ·intro h;have hl:l≠[]:=λe=>(by rw[e]at h;have:=h.1;simp at this);obtain⟨m,v,rfl⟩:∃m v,l=m++[v]:=⟨l.dropLast,l.getLast hl,(List.dropLast_concat_getLast hl).symm⟩;obtain⟨h1,h2,h3⟩:=B2.mp h;exact⟨m,(ih m).mpr h1,v.toNat,by lia,by rw[Int.toNat_of_nonneg h2]⟩
theorem Vp {a b:List Int}(h:HT.lexLt a b=true):a≠b:=by
 intro h_1;subst h_1
 induction a with
 |nil=>cases h
 |cons x r ih=>rw[HT.lexLt_cons,if_pos rfl]at h;exact ih h
theorem uz (cs:List Nat):(letters cs).Nodup:=(jn cs).ord.imp λh=>Vp h
theorem Fg {cs:List Nat}{l:List Int}{i:Nat}{v:Int}{c:Nat}(hl:l∈letters cs)(hc:cs[i]?=some c)(h0:0<=v)(h1:v < (c:Int)):l.set i v∈letters cs:=by
 rw[letters_mem]at hl ⊢;refine⟨by rw[vH];exact hl.1,λj u e=>?_⟩;rw[List.getElem?_set]at e
 split at e
 ·rename_i hj
  subst hj
  split at e
  ·cases e;exact⟨c,hc,h0,h1⟩
  ·cases e
 ·exact hl.2 j u e
theorem Jj {cs:List Nat}(h6:∀c∈cs,c<=6)(h3:cs.length<=3):(letters cs).length<=216:=by
 rw[jr];exact bK (De cs h6) (bK (pG (by decide) h3) (by decide))
end S1
namespace S25
open PySem L2 Bits S1 Fly
theorem FnOk.calm {P:aS}{w:bZ}{K:aA}{mg:Str->Option aB}{base:Heap}{k:Nat}{f:Addr}{fd:cC}{ps:List Str}{sp sp':Sp}(F:FnOk P w K mg base (CXx P w) k f fd ps sp)
  (h:∀vs H Q E,sp' vs H Q E->sp vs H Q (λ_ _ _=>False)):FnOk P w K mg base CX0 k f fd ps sp' where
 len:=λvs H Q E z=>F.len vs H Q _ (h vs H Q E z)
 run:=λA outer s H args us vs Q E hr e b r z=>nR (F.run A outer s H args us vs Q _ hr e b r (h vs H Q E z)) λq s'=>by
  cases q with
  |error e=>intro hx;obtain⟨_,_,_,_,_,_,_,_,_,_,_,_,_,_,f⟩:=hx;exact f
  |ok fl=>cases fl<;>exact id
def isR (ls:List (List Int))(p:Nat)(v:Int):Rl:=λi j=>j=i/\∃l,ls[i]?=some l/\l[p]?=some v
def El (ls:List (List Int))(p:Nat)(v:Int):Rl:=λi j=>∃l,ls[i]?=some l/\ls[j]?=some (l.set p v)
def Can (ls:List (List Int))(p:Nat)(v:Int):Prop:=ls.Nodup/\ls.length<=300/\∀l∈ls,l.length<=10/\p < l.length/\l.set p v∈ls
def Co (T:List (List Int)->Nat->Int->Rl)(K:aA):Sp:=λvs H Q _=>∃(r:Addr)(ls:List (List Int)) (p:Nat) (v:Int),vs=[.ref r,.int (p:Int),.int v]/\j8 K H r ls/\Can ls p v/\Bb ls.length (T ls p v) H Q
theorem hu8 {A:cW}{k:Nat}(hr:Room k A):A.units+8 < iJ:=jU (sU (by decide:8<=64) _) hr.units
theorem rq {K:aA}{H:Hp}:∀{xs:List V}{ls:List (List Int)},Holds K H xs (ls.map jc)->Paired (λy m=>∃c,y=.ref c/\SqT K H c (m.map V.int)) xs ls
 |_,[],h=>by cases h;exact .nil
 |_,l::ls,h=>by
  cases h with
  |cons h1 t=>
   obtain⟨a,zs,rfl,ha,hzs⟩:=Hold.tupI h1;have ez:zs=l.map V.int:=hzs.ints;subst ez;exact .cons ⟨a,rfl,ha⟩ (rq t)
section
variable {P:aS}{w:bZ}{K:aA}{mg:Str->Option aB}{base:Heap}
theorem scIr:ar ["letters","place","value"] ["letters","place","value"] (aj Io):=fsN
def Qp:gG:={ kind:=.function,names:=[(".0",.local),("at",.local),("letter",.local),("place",.free),("value",.free)],isGenerator:=false,isCoroutine:=false,more:=[] }
theorem cIr_ {CX:CXT}{f:Addr}{cdv:aB}{A:cW}{outer:List Env}{s:aI}{H:Hp}{E:XK} :
  cb (bf CX P w K mg base ["letters","place","value"] "is_relation" (aj Io) f cdv A outer s H E).nox ["at","letter"] ["place","value"] [1,2] Qp [("value",s.heap.objs.size+1+1),("place",s.heap.objs.size+1)]:=csN [(".0",.local),("at",.local),("letter",.local),("place",.cell),("value",.cell)]
theorem Vq {f:Addr}{fd:cC}(F:Fun K "is_relation" "is_relation" Io f fd)(me:mg "enumerate"=none):FnOk P w K mg base CX0 1 f fd ["letters","place","value"] (Co isR K):=by
 refine F.ok scIr (λvs H Q E h=>?_) (λcdv A outer s H vs Q E hr h=>?_)
 ·obtain⟨r,ls,p,v,rfl,_⟩:=h;rfl
 obtain⟨r,ls,p,v,rfl,⟨xs,hr1,hd1⟩,⟨nd,l300,can⟩,q⟩:=h;refine⟨_,ai (au (cy (ns:=["at","letter"]) (ys:=["place","value"]) (sc:=Qp) cIr_ rfl (ue rfl me (ac (pv 0) af)) (λC s H fp=>pg2 rfl) (λC s H fp=>cw) (λC s H fp=>tq (bi df (aq (r:=Ak K) cf (pv 1) (pv 2) (λ_ _=>rfl)) (pv 3) (bn _)) (bc va ag (pv 0)) ag))),?_⟩;dsimp only[bf,Cx.nox];have xl:xs.length=ls.length:=(by rw[hd1.length,aG]);refine⟨_,rfl,r,_,rfl,SqL.of hr1,λD hD=>?_⟩;refine uf (K:=K) (a:=r) (xs:=xs) (λi ys G=>Same H G/\G D=some (.lst ys)/\∃us:List Int,ys=us.map V.int/\PartP ls.length us i (isR ls p v)) ⟨ad hD _,ae,[],rfl,.nil⟩ (λi ys G z=>z.2.1) (λi ys G _ z=>SqL.of (z.1 _ _ hr1)) ?_ ?_ ?_
 ·intro i ys G hi h_1;obtain⟨sG,gD,us,rfl,up⟩:=h_1;have ul:=up.1;exact bg (by rw[aG];lia)
 ·intro i x t ys G hx h_1 ht;obtain⟨sG,gD,us,rfl,up⟩:=h_1;obtain⟨l,el,hl⟩:=hd1.getm hx;obtain⟨a,zs,rfl,ha,hzs⟩:=Hold.tupI hl;have ez:zs=l.map V.int:=hzs.ints;subst ez;have hi:i < ls.length:=(aK.mp el).1;obtain⟨_,hp,_⟩:=can l (bQ el);have Dt:D≠t:=am gD ht;have tt:=ad ht (.tup [.int (i:Int),.ref a]);refine⟨t,_,rfl,SqT.of ae,rfl,_,_,rfl,_,_,rfl,rfl,⟨[some _,some _],rfl,rfl⟩,?_⟩;have vp:(l.map V.int)[p]?=some (.int l[p]):=(by rw[eK,aL hp];rfl);refine⟨_,rfl,_,rfl,a,_,_,_,rfl,rfl,ha.same (Same.trans sG tt),bh vp,_,rfl,rfl,_,rfl,?_⟩;generalize hG2:upd G t (.tup [.int (i:Int),.ref a])=G2;have sG2:Same H G2:=(by rw[<-hG2];exact Same.put sG (Same.free sG ht) _);have gD2:G2 D=some (.lst (us.map V.int)):=(by rw[<-hG2,al Dt];exact gD);have fin:∀y:Int,MaskP ls.length y (isR ls p v i)->G2 D=some (.lst (us.map V.int))/\Same H (upd G2 D (.lst (us.map V.int++[.int y])))/\upd G2 D (.lst (us.map V.int++[.int y])) D=some (.lst (us.map V.int++[.int y]))/\∃ws:List Int,us.map V.int++[.int y]=ws.map V.int/\PartP ls.length ws (i+1) (isR ls p v):=λy my=>
   ⟨gD2,Same.put sG2 hD _,ae,us++[y],(by rw[aZ];rfl),up.snoc my⟩
  refine c9 (λc=>?_) (λc=>?_)
  ·have c':l[p]=v:=(by simpa using c);refine⟨_,rfl,_,_,rfl,rfl,⟨by lia,by lia,by decide⟩,?_⟩;have z:(1:Int) * 2 ^ ((i:Int)).toNat=2 ^ i:=(by rw[tO,eY]);have f1:=fin _ ((qz (n:=ls.length) (k:=i) hi).iff λj hj=>⟨λe=>⟨e,l,el,by rw[aL hp,c']⟩,λe=>e.1⟩);rw[<-z]at f1;exact f1
  ·have c':¬l[p]=v:=(by simpa using c);refine fin _ ((ju _).iff λj hj=>⟨λf=>f.elim,λh0_=>?_⟩);obtain⟨_,l',e1,e2⟩:=h0_;rw[el]at e1;cases e1;rw[aL hp]at e2;exact c' (eQ e2)
 ·intro ys G h_1;obtain⟨sG,gD,us,rfl,up⟩:=h_1;rw[xl]at up;exact q D us G sG hD gD up
theorem Vr:ar ["letters","place","value","put"] ["letters","place","value"] (aj yu):=fsN
def Qq:gG:={ kind:=.function,names:=[(".0",.local),("letter",.local),("place",.free),("value",.free)],isGenerator:=false,isCoroutine:=false,more:=[] }
theorem cPr_ {CX:CXT}{f:Addr}{cdv:aB}{A:cW}{outer:List Env}{s:aI}{H:Hp}{E:XK} :
  cb (bf CX P w K mg base ["letters","place","value","put"] "put_relation" (aj yu) f cdv A outer s H E).nox ["letter"] ["place","value"] [1,2] Qq [("value",s.heap.objs.size+1+1+1),("place",s.heap.objs.size+1+1)]:=csN [(".0",.local),("letter",.local),("place",.cell),("value",.cell)]
def L0:gG:={ kind:=.function,names:=[(".0",.local),("letter",.local),("letters",.free)],isGenerator:=false,isCoroutine:=false,more:=[] }
theorem Xe {CX:CXT}{f:Addr}{cdv:aB}{A:cW}{outer:List Env}{s:aI}{H:Hp}{E:XK} :
  cb (bf CX P w K mg base ["letters","place","value","put"] "put_relation" (aj yu) f cdv A outer s H E).nox ["letter"] ["letters"] [0] L0 [("letters",s.heap.objs.size+1)]:=csN [(".0",.local),("letter",.local),("letters",.cell)]
theorem Ta (l:List Int)(p:Nat)(v:Int)(h:p < l.length):l.take p++v::l.drop (p+1)=l.set p v:=by
 rw[List.set_eq_take_append_cons_drop,if_pos h]
theorem Tc {f:Addr}{fd:cC}(F:Fun K "put_relation" "put_relation" yu f fd):FnOk P w K mg base CX0 1 f fd ["letters","place","value"] (Co El K):=by
 refine F.ok Vr (λvs H Q E h=>?_) (λcdv A outer s H vs Q E hr h=>?_)
 ·obtain⟨r,ls,p,v,rfl,_⟩:=h;rfl
 obtain⟨r,ls,p,v,rfl,⟨xs,hr1,hd1⟩,⟨nd,l300,can⟩,q⟩:=h;refine⟨_,ah (nv (i0:=3) (ns:=["letter"]) (ys:=["place","value"]) (sc:=Qq) Vr.nd rfl rfl cPr_ rfl (ck (pv 0)) (λC s H fp=>ay (i:=0) (by show(["letter","place","value"]:List Str).Nodup;decide +kernel) rfl (bV rfl)) (λC s H fp=>cw) (λC s H fp=>bc (r:=λx y H Q=>mf K x y H Q\/jj K x y H Q) ni (bc (r:=λx y H Q=>mf K x y H Q\/jj K x y H Q) ni (cq (r:=Ai K) vc (pv 0) dh (c7 (pv 1))) (bq (ac (pv 2) af))) (cq (r:=Ai K) vc (pv 0) (c7 (bc iy (pv 1) ag)) dh))) (ai (au (cy (ns:=["letter"]) (ys:=["letters"]) (sc:=L0) Xe rfl (ck (pv 3)) (λC s H fp=>ay (i:=0) (by show(["letter","letters"]:List Str).Nodup;decide +kernel) rfl (bV rfl)) (λC s H fp=>cw) (λC s H fp=>bc va ag (Vo (K:=K) rfl cX qR PySem.F.type_list_index (Lz (K:=K) rfl (hu8 hr)) (pv 1) (ac (pv 0) af)))))),?_⟩;dsimp only[bf,Cx.nox];have xl:xs.length=ls.length:=(by rw[hd1.length,aG]);refine⟨_,rfl,r,rfl,⟨_,SqL.of hr1⟩,λD hD=>?_⟩;refine dm (K:=K) (a:=r) (xs:=xs) (λi ys G=>Same H G/\G D=some (.lst ys)/\Holds K G ys (((ls.take i).map λl=>l.set p v).map jc)) ⟨ad hD _,ae,.nil⟩ (λi ys G z=>z.2.1) (λi ys G _ z=>SqL.of (z.1 _ _ hr1)) ?_ ?_
 ·intro i x ys G hx h_1;obtain⟨sG,gD,hy⟩:=h_1;obtain⟨l,el,hl⟩:=hd1.getm hx;obtain⟨a,zs,rfl,ha,hzs⟩:=Hold.tupI hl;have ez:zs=l.map V.int:=hzs.ints;subst ez;have hi:i < ls.length:=(aK.mp el).1;obtain⟨h10,hp,_⟩:=can l (bQ el);have yl:ys.length=i:=(by rw[hy.length,aG,aG,cQ];lia);refine⟨bg (by lia),⟨[some _],rfl,rfl⟩,?_⟩;refine Od (K:=K) (jl:=0) (ji:=1) (jv:=2) rfl rfl rfl (ha.same sG) hp (by lia) λb G' sG' hb=>?_;have gD':=sG' _ _ gD;refine⟨gD',Same.put (Same.trans sG sG') hD _,ae,?_⟩;have tk:ls.take (i+1)=ls.take i++[l]:=(by rw[dJ,el];rfl);rw[tk,aZ,aZ];refine Holds.append (Holds.stay ((Tups.of sG').trans (Tups.put gD' _)) (by rw[jF];exact bw (λ_=>gz _) _) hy) (.one (.tup (SqT.of ?_) (fz _)));rw[al (iw hb gD' (by intro z;cases z)),hb,Ta l p v hp]
 ·intro ys G h_1;obtain⟨sG,gD,hy⟩:=h_1;rw[xl,dZ]at hy;have yl:ys.length=ls.length:=(by rw[hy.length,aG,aG]);refine⟨_,rfl,D,rfl,⟨_,SqL.of gD⟩,λD2 hD2=>?_⟩;refine dm (K:=K) (a:=D) (xs:=ys) (λi zs G2=>Same G G2/\G2 D2=some (.lst zs)/\∃us:List Int,zs=us.map V.int/\PartP ls.length us i (El ls p v)) ⟨ad hD2 _,ae,[],rfl,.nil⟩ (λi ys G z=>z.2.1) (λi ys G _ z=>SqL.of (z.1 _ _ gD)) ?_ ?_
  ·intro i x zs G2 hx h_1;obtain⟨s2,gD2,us,rfl,up⟩:=h_1;have ul:=up.1;rw[jF]at hy;obtain⟨l,el,hl⟩:=hy.getm hx;have hi:i < ls.length:=(aK.mp el).1;obtain⟨a,ws,rfl,ha,hws⟩:=Hold.tupI hl;have ew:ws=(l.set p v).map V.int:=hws.ints;subst ew;obtain⟨_,_,hin⟩:=can l (bQ el);have hj:ls.idxOf (l.set p v) < ls.length:=nX.mpr hin;refine⟨bg (by rw[aG];lia),⟨[some _],rfl,rfl⟩,?_⟩;refine⟨_,rfl,.inl ⟨rfl,_,SqL.of ((Same.trans sG s2) _ _ hr1)⟩,_,rfl,r,a,xs,ls,l.set p v,rfl,rfl,SqL.of ((Same.trans sG s2) _ _ hr1),?_,ha.same s2,hin,_,_,rfl,rfl,⟨by lia,by lia,by decide⟩,?_⟩
   ·exact rq (Holds.mono (Same.trans sG s2) hd1)
   ·have z:(1:Int) * 2 ^ (((ls.idxOf (l.set p v):Nat):Int)).toNat=2 ^ (ls.idxOf (l.set p v)):=(by rw[tO,eY]);dsimp only;rw[z];refine⟨gD2,Same.put s2 hD2 _,ae,us++[2 ^ (ls.idxOf (l.set p v))],(by rw[aZ];rfl),up.snoc ((qz hj).iff λj hjl=>?_)⟩;constructor
    ·intro h_1;subst h_1;exact⟨l,el,by rw[aL hj,qJ]⟩
    ·intro h_1;obtain⟨l',e1,e2⟩:=h_1;rw[el]at e1;cases e1;have e3:ls[ls.idxOf (l.set p v)]?=some (l.set p v):=(by rw[aL hj,qJ]);exact(List.getElem?_inj hjl nd).mp (e2.trans e3.symm)
  ·intro zs G2 h_1;obtain⟨s2,gD2,us,rfl,up⟩:=h_1;rw[yl]at up;exact q D2 us G2 (Same.trans sG s2) (Same.free sG hD2) gD2 up
end
end S25
namespace S25
open PySem L2 Bits S1 Fly
section
variable {P:aS}{w:bZ}
theorem Jk {H:Hp}{h:Heap}{u a:Addr}{xs:List V}{o:HO}(hu:H u=some (.lst xs))(x:ObjOk P w H h a o):ObjOk P w (bv H u) h a o:=by
 have ne:∀{b:Addr}{q:HO},H b=some q->(∀ys,q≠.lst ys)->bv H u b=some q:=λ{b q} e n=>by
  rw[cg (λz=>by subst z;rw[hu]at e;cases e;exact n xs rfl)];exact e
 induction o with
 |dT kvs=>
  obtain⟨z,y,vs,r,q⟩:=x;exact⟨z,y,vs,Paired.mapP r λ_ _ t=>⟨t.1,ne t.2.1 (λ_ e=>nomatch e),t.2.2⟩,q⟩
 |ins C dx fs=>exact⟨ne x.1 (λ_ e=>nomatch e),x.2⟩
 |frz ob v ih=>exact⟨x.1,ih x.2⟩
 |_=>exact x
theorem Jl {H:Hp}{h:Heap}{u a:Addr}{xs:List V}{o:HO}(hu:H u=none)(x:ObjOk P w H h a o):ObjOk P w (upd H u (.lst xs)) h a o:=by
 have ne:∀{b:Addr}{q:HO},H b=some q->upd H u (.lst xs) b=some q:=λ{b q} e=>by
  rw[al (am e hu)];exact e
 induction o with
 |dT kvs=>
  obtain⟨z,y,vs,r,q⟩:=x;exact⟨z,y,vs,Paired.mapP r λ_ _ t=>⟨t.1,ne t.2.1,t.2.2⟩,q⟩
 |ins C dx fs=>exact⟨ne x.1,x.2⟩
 |frz ob v ih=>exact⟨x.1,ih x.2⟩
 |_=>exact x
def spFr (sp:Sp):Sp:=λvs H Q E=>∃(u:Addr)(xs:List V),H u=some (.lst xs)/\sp vs (bv H u) (λv H'=>H' u=none->Q v (upd H' u (.lst xs))) E
theorem FnOk.frame {K:aA}{mg:Str->Option aB}{base:Heap}{k:Nat}{f:Addr}{fd:cC}{ps:List Str}{sp:Sp}(F:FnOk P w K mg base CX0 k f fd ps sp):FnOk P w K mg base CX0 k f fd ps (spFr sp) where
 len:=λvs H Q E h0_=>by obtain⟨_,_,_,z⟩:=h0_;exact F.len vs _ _ _ z
 run:=λA outer s H args us vs Q E hr e b r ⟨u,xs,hu,z⟩=>by
  have hn:bv H u u=none:=(by unfold bv;rw[if_pos rfl]);have hide_none:∀{b:Addr},H b=none->bv H u b=none:=λ{b} q=>by
   by_cases h:b=u
   ·rw[h];exact hn
   ·rw[cg h];exact q
  have e':Env0 P w K mg base A outer s (bv H u):=⟨e.frames,e.mod,λb o q=>⟨(e.bs b o q).1,hide_none (e.bs b o q).2⟩,e.bsz,e.funs,λb hb=>hide_none (e.frf b hb),λa o q=>Jk hu (e.hok a o (hide_le _ _ q)),e.bare⟩;obtain⟨ob,hob⟩:∃ob,s.heap.get? u=some ob:=by
   obtain⟨_,its,n,_,q⟩:=e.hok u _ hu;exact⟨_,q⟩
  have nfr:u ∉ frs outer:=λq=>(by rw[e.frf u q]at hu;cases hu);refine nR (F.run A outer s (bv H u) args us vs _ E hr e' b r z) λq s'=>?_;cases q with
  |error er=>exact id
  |ok fl=>
   cases fl with
   |ret val=>
    intro h_1;obtain⟨v,H',os,bare,un,hok,rv,q⟩:=h_1;have fu:H' u=none:=un.free u ob hob hn (by simp);have hku:=un.keep u ob hob hn nfr (by simp);have nu:∀{b:Addr}{o:HO},H b=some o->(∀ys,o≠.lst ys)->b≠u:=λ{b o} e1 n z=>(by subst z;rw[hu]at e1;cases e1;exact n xs rfl);refine⟨v,upd H' u (.lst xs),os,bare,⟨λb o h1 h2 h3 h4=>un.keep b o h1 (hide_none h2) h3 h4,λb o h1 h2 h3 h4=>un.slot b o h1 (hide_none h2) h3 h4,λb o h1 h2 h3=>?_,un.there,λb ys h1=>?_,λb o v h1=>?_,λb ps h1=>?_⟩,λb o hb=>?_,rv,q fu⟩
    ·rw[al (λz=>by subst z;rw[hu]at h2;cases h2)];exact un.free b o h1 (hide_none h2) h3
    ·have n:=nu h1 (λ_ e=>nomatch e);rw[al n];exact un.tups b ys (by rw[cg n];exact h1)
    ·have n:=nu h1 (λ_ e=>nomatch e);rw[al n];exact un.frzs b o v (by rw[cg n];exact h1)
    ·have n:=nu h1 (λ_ e=>nomatch e);rw[al n];exact un.tbls b ps (by rw[cg n];exact h1)
    ·by_cases h:b=u
     ·subst h;rw[ae]at hb;cases hb;obtain⟨z1,its,n,rl,g⟩:=e.hok b _ hu;rw[hob]at g;exact⟨z1,its,n,rl,hku.trans g⟩
     ·rw[al h]at hb;exact Jl fu (hok b o hb)
   |_=>exact id
end
abbrev LL (ws:List (Str×Nat)):List (List Int):=letters (ws.map (·.2))
def Spk (K:aA)(H:Hp)(sp r:Addr)(ws:List (Str×Nat)):Prop:=Hold K H (.ref sp) (gj ws)/\j8 K H r (LL ws)/\fg ws
theorem Spk.mono {K:aA}{H G:Hp}{sp r:Addr}{ws:List (Str×Nat)}(h:Spk K H sp r ws)(s:Same H G):Spk K G sp r ws:=by
 obtain⟨h1,⟨xs,h2,h3⟩,h4⟩:=h;exact⟨h1.mono s,⟨xs,s _ _ h2,h3.mono s⟩,h4⟩
theorem Cp {ws:List (Str×Nat)}(h:fg ws):(LL ws).length<=216:=Jj (λc hc=>by
  obtain⟨x,hx,rfl⟩:=eE.mp hc;exact(h.cnt x hx).2) (by rw[aG];exact h.hi)
theorem L1 {ws:List (Str×Nat)}(h:fg ws){x:Str}{p c:Nat}{v:Int}(lk:look ws x=some (p,c))(g:0<=v/\v < (c:Int)):Can (LL ws) p v:=by
 have hle:=Cp h;obtain⟨y,e1,_,e3⟩:=Fx lk;have hp:p < ws.length:=(aK.mp e1).1;refine⟨uz _,by lia,λl hl=>?_⟩;have wl:=(jn _).wide l hl;rw[aG]at wl;have:=h.hi;exact⟨by lia,by lia,Fg hl (by rw[eK,e1,pX,e3]) g.1 g.2⟩
def Say.rm:Say->Nat
 | .note=>1
 | .again s=>s.rm
 | .either a b=>a.rm+b.rm
 | .both a b=>a.rm+b.rm
 |_=>0
def Say.W (ws:List (Str×Nat)):Say->Nat->Nat->Rl
 | .nought=>λ_ _ _ _=>False
 | .every=>λ_ _ i j=>j=i
 | .note=>Qi
 | .is f v=>λ_ _=>match look ws f.1 with | some (p,_)=>isR (LL ws) p v.1 | none=>λ_ _=>False
 | .put f v=>λ_ _=>match look ws f.1 with | some (p,_)=>El (LL ws) p v.1 | none=>λ_ _=>False
 | .no s=>λ_ _=>su (LL ws).length (s.W ws 0 0)
 | .again s=>vk (LL ws).length (s.W ws)
 | .either a b=>om (LL ws).length (a.rm+1) (a.W ws) (b.W ws)
 | .both a b=>re (LL ws).length (a.rm+1) (a.W ws) (b.W ws)
abbrev Pb (H:Hp)(ws:List (Str×Nat))(s:Say)(x:V):Prop:=WaysAt H (LL ws).length (s.rm+1) (s.W ws) x
def Qr (K:aA):Sp:=λvs H Q _=>∃(sp:Addr)(ws:List (Str×Nat)) (x:Str) (v:Int) (p c:Nat),vs=[.ref sp,.str x,.int v]/\Hold K H (.ref sp) (gj ws)/\v.natAbs.log2 < 1000/\(qH x).length<=2000/\
 look ws x=some (p,c)/\(0<=v/\v < (c:Int))/\∀H',Same H H'->Q (.int (p:Int)) H'
theorem Vs {P:aS}{w:bZ}{K:aA}{mg:Str->Option aB}{base:Heap}{k:Nat}{f cF cV:Addr}{fd:cC}{ps:List Str}(F:FnOk P w K mg base (CXx P w) k f fd ps (A0 K cF cV)):FnOk P w K mg base CX0 k f fd ps (Qr K):=
 FnOk.calm F λvs H Q E h0_=>by obtain⟨sp,ws,x,v,p,c,e,h1,h2,h3,lk,g,q⟩:=h0_;exact⟨sp,ws,x,v,e,h1,h2,h3,⟨λn=>absurd (lk.symm.trans n) (by simp),λi d l n=>(by rw[lk]at l;cases l;exact absurd g n),λi d l g'=>(by rw[lk]at l;cases l;exact q)⟩⟩
def Say.lone:Say->Bool
 | .nought=>true | .every=>true | .is _ _=>true | .put _ _=>true
 |_=>false
def Qs (K:aA):Sp:=λvs H Q _=>∃(sp r:Addr)(ws:List (Str×Nat)) (x:V) (s:Say),vs=[.ref sp,.ref r,x]/\Spk K H sp r ws/\Hold K H x s.da/\s.lone=true/\s.due ws=none/\Bb (LL ws).length (s.W ws 0 0) H Q
def L3 (K:aA):Sp:=λvs H Q _=>∃(sp r c:Addr)(ws:List (Str×Nat)) (x:V) (s:Say) (is:List V),vs=[.ref sp,.ref r,x,.ref c]/\Spk K H sp r ws/\Hold K H x s.da/\s.due ws=none/\s.rm<=300/\
 H c=some (.lst is)/\Paired (λy k=>Pb H ws k y) is s.kids/\Ei (LL ws).length (s.rm+1) (s.W ws) H Q
theorem Em {ws:List (Str×Nat)}{x:Str}{v:Int}(h:dt ws x v=none):∃p c,look ws x=some (p,c)/\0<=v/\v < (c:Int):=by
 unfold dt at h;cases e:look ws x with
 |none=>rw[e]at h;cases h
 |some pc=>
  rw[e]at h;obtain⟨p,c⟩:=pc;refine⟨p,c,rfl,?_⟩;by_cases g:0<=v/\v < (c:Int)
  ·exact g
  ·have h':(if 0<=v/\v < (c:Int)then none else some (Flt.value v))=none:=h
   rw[if_neg g]at h';cases h'
section
variable {P:aS}{w:bZ}{K:aA}{mg:Str->Option aB}{base:Heap}
theorem Vt:ar ["speech","letters","part","place"] ["speech","letters","part"] (aj Dw):=fsN
theorem Pc {f:Addr}{fd:cC}(F:Fun K "plain_relation" "plain_relation" Dw f fd)(hN:Has P w K mg base 1 "nothing" ["size"] Jc)(hS:Has P w K mg base 1 "the_same" ["size"] Jd)
  (hP:Has P w K mg base 4 "place_of" ["speech","field","value"] (Qr K)) (hI:Has P w K mg base 1 "is_relation" ["letters","place","value"] (Co isR K)) (hU:Has P w K mg base 1 "put_relation" ["letters","place","value"] (Co El K)) (ml:mg "len"=none) :
  FnOk P w K mg base CX0 5 f fd ["speech","letters","part"] (Qs K):=by
 obtain⟨fN,dN,GN,bN,kN,mN⟩:=hN;obtain⟨fS,dS,GS,bS,kS,mS⟩:=hS;obtain⟨fP,dP,GP,bP,kP,mP⟩:=hP;obtain⟨fI,dI,GI,bI,kI,mI⟩:=hI;obtain⟨fU,dU,GU,bU,kU,mU⟩:=hU;refine F.ok Vt (λvs H Q E h=>?_) (λcdv A outer s H vs Q E hr h=>?_)
 ·obtain⟨sp,r,ws,x,sy,rfl,_⟩:=h;rfl
 obtain⟨sp,r,ws,x,sy,rfl,spk,hx,lo,du,q⟩:=h;refine⟨_,ah (cj (bi df (aq cf (pv 2) ag (λ_ _=>rfl)) be (bn _)) (ai (au (ao GN (hr.mono (by decide)) rfl mN kN bN .nil az (ac (bp br rfl ml eX (ac (pv 1) af)) af)))) bo) (ah (cj (bi df (aq cf (pv 2) ag (λ_ _=>rfl)) be (bn _)) (ai (au (ao GS (hr.mono (by decide)) rfl mS kS bS .nil az (ac (bp br rfl ml eX (ac (pv 1) af)) af)))) bo) (ah (ax (i:=3) Vt.nd rfl (bV rfl) (ao GP hr rfl mP kP bP .nil az (ac (pv 0) (ac (aq cf (pv 2) ag (λ_ _=>rfl)) (ac (aq cf (pv 2) ag (λ_ _=>rfl)) af))))) (ah (cj (bi df (aq cf (pv 2) ag (λ_ _=>rfl)) be (bn _)) (ai (au (ao GI (hr.mono (by decide)) rfl mI kI bI .nil az (ac (pv 1) (ac (pv 3) (ac (aq cf (pv 2) ag (λ_ _=>rfl)) af)))))) bo) (ai (au (ao GU (hr.mono (by decide)) rfl mU kU bU .nil az (ac (pv 1) (ac (pv 3) (ac (aq cf (pv 2) ag (λ_ _=>rfl)) af))))))))),?_⟩;dsimp only[bf,Cx.nox];obtain⟨hsp,⟨xs,hr1,hd1⟩,sok⟩:=id spk;have xl:xs.length=(LL ws).length:=(by rw[hd1.length,aG]);have n216:=Cp sok;cases sy
 case nought=>
  obtain⟨a,ys,rfl,ha,hd⟩:=Hold.tupI hx;cases hd with
  |cons h1 r1=>
   cases r1;cases h1.flatI;refine⟨_,rfl,a,_,_,_,rfl,rfl,ha,rfl,rfl,_,rfl,?_⟩;refine gw ⟨_,rfl,r,_,rfl,.inl (SqL.of hr1),(LL ws).length,(by rw[xl];rfl),by lia,λr1 n1 G1 s1 h1 g1 v1=>q r1 n1 G1 s1 h1 g1 v1⟩
 case every=>
  obtain⟨a,ys,rfl,ha,hd⟩:=Hold.tupI hx;cases hd with
  |cons h1 r1=>
   cases r1;cases h1.flatI;refine⟨_,rfl,a,_,_,_,rfl,rfl,ha,rfl,rfl,_,rfl,?_⟩;refine cr ⟨_,rfl,a,_,_,_,rfl,rfl,ha,rfl,rfl,_,rfl,?_⟩;refine gw ⟨_,rfl,r,_,rfl,.inl (SqL.of hr1),(LL ws).length,(by rw[xl];rfl),by lia,λr1 n1 G1 s1 h1 g1 v1=>q r1 n1 G1 s1 h1 g1 v1⟩
 case is fx vx=>
  obtain⟨a,ys,rfl,ha,hd⟩:=Hold.tupI hx;cases hd with
  |cons h1 r1=>cases r1 with
   |cons h2 r2=>cases r2 with
    |cons h3 r3=>
     cases r3;cases h1.flatI;cases h2.flatI;cases h3.flatI;obtain⟨p,c,lk,g⟩:=Em (show dt ws fx.1 vx.1=none from du);refine⟨_,rfl,a,_,_,_,rfl,rfl,ha,rfl,rfl,_,rfl,?_⟩;refine cr ⟨_,rfl,a,_,_,_,rfl,rfl,ha,rfl,rfl,_,rfl,?_⟩;refine cr ⟨_,rfl,_,rfl,a,_,_,_,rfl,rfl,ha,rfl,_,rfl,a,_,_,_,rfl,rfl,ha,rfl,sp,ws,fx.1,vx.1,p,c,rfl,hsp,vx.2,fx.2,lk,g,λG1 s1=>?_⟩;refine⟨_,rfl,a,_,_,_,rfl,rfl,ha.same s1,rfl,rfl,_,rfl,?_⟩;refine gw ⟨_,rfl,_,rfl,_,rfl,a,_,_,_,rfl,rfl,ha.same s1,rfl,r,LL ws,p,vx.1,rfl,⟨xs,s1 _ _ hr1,hd1.mono s1⟩,L1 sok lk g,λr2 n2 G2 s2 h2 g2 v2=>q r2 n2 G2 (Same.trans s1 s2) (Same.free s1 h2) g2 ?_⟩;show RelP _ n2 (match look ws fx.1 with | some (p,_)=>isR (LL ws) p vx.1 | none=>λ_ _=>False)
     rw[lk];exact v2
 case put fx vx=>
  obtain⟨a,ys,rfl,ha,hd⟩:=Hold.tupI hx;cases hd with
  |cons h1 r1=>cases r1 with
   |cons h2 r2=>cases r2 with
    |cons h3 r3=>
     cases r3;cases h1.flatI;cases h2.flatI;cases h3.flatI;obtain⟨p,c,lk,g⟩:=Em (show dt ws fx.1 vx.1=none from du);refine⟨_,rfl,a,_,_,_,rfl,rfl,ha,rfl,rfl,_,rfl,?_⟩;refine cr ⟨_,rfl,a,_,_,_,rfl,rfl,ha,rfl,rfl,_,rfl,?_⟩;refine cr ⟨_,rfl,_,rfl,a,_,_,_,rfl,rfl,ha,rfl,_,rfl,a,_,_,_,rfl,rfl,ha,rfl,sp,ws,fx.1,vx.1,p,c,rfl,hsp,vx.2,fx.2,lk,g,λG1 s1=>?_⟩;refine⟨_,rfl,a,_,_,_,rfl,rfl,ha.same s1,rfl,rfl,_,rfl,?_⟩;refine cr ⟨_,rfl,_,rfl,_,rfl,a,_,_,_,rfl,rfl,ha.same s1,rfl,r,LL ws,p,vx.1,rfl,⟨xs,s1 _ _ hr1,hd1.mono s1⟩,L1 sok lk g,λr2 n2 G2 s2 h2 g2 v2=>q r2 n2 G2 (Same.trans s1 s2) (Same.free s1 h2) g2 ?_⟩;show RelP _ n2 (match look ws fx.1 with | some (p,_)=>El (LL ws) p vx.1 | none=>λ_ _=>False)
     rw[lk];exact v2
 all_goals cases lo
end
end S25
namespace S25
open PySem L2 Bits S1 Fly
section
variable {P:aS}{w:bZ}{K:aA}{mg:Str->Option aB}{base:Heap}
theorem scWp:ar ["speech","letters","part","inner"] ["speech","letters","part","inner"] (aj Dv):=fsN
theorem Td {f:Addr}{fd:cC}(F:Fun K "ways_of_part" "ways_of_part" Dv f fd)(hE:Has P w K mg base 4 "either_ways" ["one","other"] (Cm om))(hT:Has P w K mg base 4 "then_ways" ["first","second"] (Cm re))
  (hA:Has P w K mg base 4 "again_ways" ["ways"] Qm) (hW:Has P w K mg base 1 "where_nothing" ["relation"] (Cl su K)) (hN:Has P w K mg base 2 "note_ways" ["size"] Gk) (hP:Has P w K mg base 5 "plain_relation" ["speech","letters","part"] (Qs K)) (ml:mg "len"=none) :
  FnOk P w K mg base CX0 6 f fd ["speech","letters","part","inner"] (L3 K):=by
 obtain⟨fE,dE,GE,bE,kE,mE⟩:=hE;obtain⟨fT,dT,GT,bT,kT,mT⟩:=hT;obtain⟨fA,dA,GA,bA,kA,mA⟩:=hA;obtain⟨fW,dW,GW,bW,kW,mW⟩:=hW;obtain⟨fN,dN,GN,bN,kN,mN⟩:=hN;obtain⟨fP,dP,GP,bP,kP,mP⟩:=hP;refine F.ok scWp (λvs H Q E h=>?_) (λcdv A outer s H vs Q E hr h=>?_)
 ·obtain⟨sp,r,c,ws,x,sy,is,rfl,_⟩:=h;rfl
 obtain⟨sp,r,c,ws,x,sy,is,rfl,spk,hx,du,rm,gc,kid,q⟩:=h;refine⟨_,ah (cj (bi df (aq cf (pv 2) ag (λ_ _=>rfl)) be (bn _)) (ai (au (ao GE (hr.mono (by decide)) rfl mE kE bE .nil az (ac (aq aw (pv 3) ag (λ_ _=>rfl)) (ac (aq aw (pv 3) ag (λ_ _=>rfl)) af))))) bo) (ah (cj (bi df (aq cf (pv 2) ag (λ_ _=>rfl)) be (bn _)) (ai (au (ao GT (hr.mono (by decide)) rfl mT kT bT .nil az (ac (aq aw (pv 3) ag (λ_ _=>rfl)) (ac (aq aw (pv 3) ag (λ_ _=>rfl)) af))))) bo) (ah (cj (bi df (aq cf (pv 2) ag (λ_ _=>rfl)) be (bn _)) (ai (au (ao GA (hr.mono (by decide)) rfl mA kA bA .nil az (ac (aq aw (pv 3) ag (λ_ _=>rfl)) af)))) bo) (ah (cj (bi df (aq cf (pv 2) ag (λ_ _=>rfl)) be (bn _)) (ai (au (av (ac (av (ac (ao GW (hr.mono (by decide)) rfl mW kW bW .nil az (ac (aq aw (aq aw (aq aw (pv 3) ag (λ_ _=>rfl)) ag (λ_ _=>rfl)) ag (λ_ _=>rfl)) af)) af)) af)))) bo) (ah (cj (bi df (aq cf (pv 2) ag (λ_ _=>rfl)) be (bn _)) (ai (au (ao GN (hr.mono (by decide)) rfl mN kN bN .nil az (ac (bp br rfl ml eX (ac (pv 1) af)) af)))) bo) (ai (au (av (ac (av (ac (ao GP hr rfl mP kP bP .nil az (ac (pv 0) (ac (pv 1) (ac (pv 2) af)))) af)) af)))))))),?_⟩;dsimp only[bf,Cx.nox];obtain⟨hsp,⟨xs,hr1,hd1⟩,sok⟩:=id spk;have xl:xs.length=(LL ws).length:=(by rw[hd1.length,aG]);have n216:=Cp sok;obtain⟨a,ys,rfl,ha,hk⟩:=i5 hx;clear hk;refine⟨_,rfl,a,_,_,_,rfl,rfl,ha,d9 _ _,rfl,_,rfl,?_⟩;have lone:∀{R:Rl},(∀i j,R i j=sy.W ws 0 0 i j)->sy.rm=0->(∀r c,sy.W ws r c=sy.W ws 0 0)->∀(r1:Addr)(n1:List Int) (G1:Hp),Same H G1->G1 r1=some (.lst (n1.map V.int))->RelP (LL ws).length n1 R->∀p,G1 p=none->∀p2,upd G1 p (.lst [.ref r1]) p2=none->Q (.ref p2) (upd (upd G1 p (.lst [.ref r1])) p2 (.lst [.ref p])):=by
  intro R eR e0 eW r1 n1 G1 s1 g1 v1 p hp p2 hp2;have t1:=ad hp (.lst [.ref r1]);have t2:=ad hp2 (.lst [.ref p]);refine q _ _ (Same.trans s1 (Same.trans t1 t2)) ⟨p2,_,rfl,ae,?_⟩;rw[e0];refine .one ⟨p,_,rfl,t2 _ _ ae,.one ⟨r1,n1,rfl,(Same.trans t1 t2) _ _ g1,v1.iff λi j _ _=>?_⟩⟩;rw[eR]
 cases sy
 case either b1 b2=>
  cases kid with
  |cons k1 kr=>cases kr with
   |cons k2 kr2=>
    cases kr2;exact gw ⟨_,rfl,c,_,_,_,rfl,rfl,SqL.of gc,bh (j:=0) rfl,_,rfl,c,_,_,_,rfl,rfl,SqL.of gc,bh (j:=1) rfl,(LL ws).length,b1.rm,b2.rm,b1.W ws,b2.W ws,_,_,rfl,k1,k2,rm,by lia,q⟩
 case both b1 b2=>
  cases kid with
  |cons k1 kr=>cases kr with
   |cons k2 kr2=>
    cases kr2;refine cr ⟨_,rfl,a,_,_,_,rfl,rfl,ha,d9 _ _,rfl,_,rfl,?_⟩;exact gw ⟨_,rfl,c,_,_,_,rfl,rfl,SqL.of gc,bh (j:=0) rfl,_,rfl,c,_,_,_,rfl,rfl,SqL.of gc,bh (j:=1) rfl,(LL ws).length,b1.rm,b2.rm,b1.W ws,b2.W ws,_,_,rfl,k1,k2,rm,by lia,q⟩
 case again b1=>
  cases kid with
  |cons k1 kr=>
   cases kr;refine cr ⟨_,rfl,a,_,_,_,rfl,rfl,ha,d9 _ _,rfl,_,rfl,?_⟩;refine cr ⟨_,rfl,a,_,_,_,rfl,rfl,ha,d9 _ _,rfl,_,rfl,?_⟩;exact gw ⟨_,rfl,c,_,_,_,rfl,rfl,SqL.of gc,bh (j:=0) rfl,(LL ws).length,b1.rm,b1.W ws,_,rfl,k1,rm,by lia,q⟩
 case no b1=>
  cases kid with
  |cons k1 kr=>
   cases kr;refine cr ⟨_,rfl,a,_,_,_,rfl,rfl,ha,d9 _ _,rfl,_,rfl,?_⟩;refine cr ⟨_,rfl,a,_,_,_,rfl,rfl,ha,d9 _ _,rfl,_,rfl,?_⟩;refine cr ⟨_,rfl,a,_,_,_,rfl,rfl,ha,d9 _ _,rfl,_,rfl,?_⟩;obtain⟨a1,xs1,rfl,ga1,la1⟩:=k1;obtain⟨_,e1,c1,zs1,rfl,gb1,lb1⟩:=la1.at (c:=0) (by lia);obtain⟨_,f1,d1,ns1,rfl,gd1,rv1⟩:=lb1.at (c:=0) (by lia);refine gw ⟨_,rfl,c,_,_,_,rfl,rfl,SqL.of gc,bh (j:=0) rfl,a1,_,_,_,rfl,rfl,SqL.of ga1,bh (j:=0) e1,c1,_,_,_,rfl,rfl,SqL.of gb1,bh (j:=0) f1,(LL ws).length,d1,ns1,_,rfl,SqL.of gd1,rv1,by lia,λr1 n1 G1 s1 h1 g1 v1=>?_⟩;exact⟨sz1,λp hp=>⟨sz1,λp2 hp2=>lone (λ_ _=>rfl) rfl (λ_ _=>rfl) r1 n1 G1 s1 g1 v1 p hp p2 hp2⟩⟩
 case note=>
  refine cr ⟨_,rfl,a,_,_,_,rfl,rfl,ha,d9 _ _,rfl,_,rfl,?_⟩;refine cr ⟨_,rfl,a,_,_,_,rfl,rfl,ha,d9 _ _,rfl,_,rfl,?_⟩;refine cr ⟨_,rfl,a,_,_,_,rfl,rfl,ha,d9 _ _,rfl,_,rfl,?_⟩;refine cr ⟨_,rfl,a,_,_,_,rfl,rfl,ha,d9 _ _,rfl,_,rfl,?_⟩;exact gw ⟨_,rfl,r,_,rfl,.inl (SqL.of hr1),(LL ws).length,(by rw[xl];rfl),by lia,q⟩
 all_goals
  refine cr ⟨_,rfl,a,_,_,_,rfl,rfl,ha,d9 _ _,rfl,_,rfl,?_⟩;refine cr ⟨_,rfl,a,_,_,_,rfl,rfl,ha,d9 _ _,rfl,_,rfl,?_⟩;refine cr ⟨_,rfl,a,_,_,_,rfl,rfl,ha,d9 _ _,rfl,_,rfl,?_⟩;refine cr ⟨_,rfl,a,_,_,_,rfl,rfl,ha,d9 _ _,rfl,_,rfl,?_⟩;refine cr ⟨_,rfl,_,rfl,_,rfl,sp,r,ws,.ref a,_,rfl,spk,hx,rfl,du,λr1 n1 G1 s1 h1 g1 v1=>?_⟩;exact⟨sz1,λp hp=>⟨sz1,λp2 hp2=>lone (λ_ _=>rfl) rfl (λ_ _=>rfl) r1 n1 G1 s1 g1 v1 p hp p2 hp2⟩⟩
end
end S25
namespace S25
open PySem L2 Bits S1 Fly
theorem Cq (s:Say):s.rm<=s.nts:=by
 induction s with
 |again s ih=>exact ih
 |either a b ia ib=>exact Nat.add_le_add ia ib
 |both a b ia ib=>exact Nat.add_le_add ia ib
 |note=>exact aO _
 |_=>exact jZ _
theorem Pd {s p:Say}(h:p∈s.parts):p.nts<=s.nts:=by
 induction s with
 |no s ih=>
  rcases cD.mp h with rfl | h
  ·exact aO _
  ·exact ih h
 |again s ih=>
  rcases cD.mp h with rfl | h
  ·exact aO _
  ·exact ih h
 |either a b ia ib=>
  rcases cD.mp h with rfl | h
  ·exact aO _
  ·rcases eI.mp h with h | h
   ·exact bK (ia h) (Nat.le_add_right _ _)
   ·exact bK (ib h) (Nat.le_add_left _ _)
 |both a b ia ib=>
  rcases cD.mp h with rfl | h
  ·exact aO _
  ·rcases eI.mp h with h | h
   ·exact bK (ia h) (Nat.le_add_right _ _)
   ·exact bK (ib h) (Nat.le_add_left _ _)
 |_=>rw[cE.mp h];exact aO _
theorem Gn {a b:Option Flt}(h:a.or b=none):a=none/\b=none:=by
 cases a with
 |none=>exact⟨rfl,by simpa using h⟩
 |some x=>cases h
theorem Pe {ws:List (Str×Nat)}{s p:Say}(h:p∈s.parts)(d:s.due ws=none):p.due ws=none:=by
 induction s with
 |no s ih=>
  rcases cD.mp h with rfl | h
  ·exact d
  ·have d':(if s.isT=true then s.due ws else some (.test s))=none:=d
   by_cases t:s.isT=true
   ·rw[if_pos t]at d';exact ih h d'
   ·rw[if_neg t]at d';cases d'
 |again s ih=>
  rcases cD.mp h with rfl | h
  ·exact d
  ·exact ih h d
 |either a b ia ib=>
  rcases cD.mp h with rfl | h
  ·exact d
  ·obtain⟨d1,d2⟩:=Gn (show(a.due ws).or (b.due ws)=none from d);rcases eI.mp h with h | h
   ·exact ia h d1
   ·exact ib h d2
 |both a b ia ib=>
  rcases cD.mp h with rfl | h
  ·exact d
  ·obtain⟨d1,d2⟩:=Gn (show(a.due ws).or (b.due ws)=none from d);rcases eI.mp h with h | h
   ·exact ia h d1
   ·exact ib h d2
 |_=>rw[cE.mp h];exact d
theorem uo:∀{ts us:List Say},ts.flatMap Say.parts=us.flatMap Say.parts->ts=us
 | [],[],_=>rfl
 | [],u::us,h=>by rw[iW,jm]at h;cases h
 |t::ts,[],h=>by rw[iW,jm]at h;cases h
 |t::ts,u::us,h=>by
  rw[iW,iW]at h;have e:t=u:=by
   rw[jm t,jm u]at h;exact(oF h).1
  subst e;rw[uo (List.append_cancel_left h)]
theorem xb:∀{pre ps F:List Say}{p:Say},F.flatMap Say.parts=pre++p::ps->∃us,ps=(p.kids++us).flatMap Say.parts
 |_,_,[],p,h=>by simp at h
 | [],ps,t::F,p,h=>by
  rw[iW,jm]at h;obtain⟨e1,e2⟩:=oF h;subst e1;exact⟨F,by rw[iR];exact e2.symm⟩
 |q::pre,ps,t::F,p,h=>by
  rw[iW,jm]at h;obtain⟨_,e2⟩:=oF h;have e3:t.kids.flatMap Say.parts++F.flatMap Say.parts=pre++p::ps:=e2;rw[<-iR]at e3;exact xb e3
theorem vm {α β:Type}{F:α->β->Prop}:∀{bs cs:List β}{xs:List α},Paired F xs (bs++cs)->∃x1 x2,xs=x1++x2/\Paired F x1 bs/\Paired F x2 cs
 | [],cs,xs,h=>⟨[],xs,rfl,.nil,h⟩
 |b::bs,cs,_,h=>by
  cases h with
  |cons h1 t=>
   obtain⟨x1,x2,rfl,p1,p2⟩:=vm (bs:=bs) t;exact⟨_::x1,x2,rfl,.cons h1 p1,p2⟩
theorem hide_none {G:Hp}{D:Addr}(h:G D=none):bv G D=G:=by
 funext b
 by_cases e:b=D
 ·rw[e,h];unfold bv;rw[if_pos rfl]
 ·exact cg e
theorem L4 {G:Hp}{u:Addr}{xs:List V}(h:G u=some (.lst xs)):Tups G (bv G u):=
 ⟨λb ys e=>by rw[cg (λz=>by subst z;rw[h]at e;cases e)];exact e,λb o v e=>by rw[cg (λz=>by subst z;rw[h]at e;cases e)];exact e⟩
def L5 (K:aA):Sp:=λvs H Q _=>∃(sp r:Addr)(ws:List (Str×Nat)) (x:V) (s:Say),vs=[.ref sp,.ref r,x]/\Spk K H sp r ws/\Hold K H x s.da/\s.due ws=none/\s.size<=500/\s.nts<=300/\Ei (LL ws).length (s.rm+1) (s.W ws) H Q
section
variable {P:aS}{w:bZ}{K:aA}{mg:Str->Option aB}{base:Heap}
theorem Jm:ar ["speech","letters","saying","waiting","part","inner"] ["speech","letters","saying"] (aj Cg):=fsN
def Qt:gG:={ kind:=.function,names:=[(".0",.local),("held",.local),("waiting",.free)],isGenerator:=false,isCoroutine:=false,more:=[] }
theorem cWo_ {CX:CXT}{f:Addr}{cdv:aB}{A:cW}{outer:List Env}{s:aI}{H:Hp}{E:XK} :
  cb (bf CX P w K mg base ["speech","letters","saying","waiting","part","inner"] "ways_of" (aj Cg) f cdv A outer s H E).nox ["held"] ["waiting"] [3] Qt [("waiting",s.heap.objs.size+1)]:=csN [(".0",.local),("held",.local),("waiting",.cell)]
theorem Te {f:Addr}{fd:cC}(F:Fun K "ways_of" "ways_of" Cg f fd)(hA:Has P w K mg base 2 "parts_of" ["saying"] (ss K))(hH:Has P w K mg base 1 "held_in" ["saying"] (D0 K))
  (hP:Has P w K mg base 6 "ways_of_part" ["speech","letters","part","inner"] (L3 K)) (mr:mg "reversed"=none):FnOk P w K mg base CX0 7 f fd ["speech","letters","saying"] (L5 K):=by
 obtain⟨fA,dA,GA,bA,kA,mA⟩:=hA;obtain⟨fH,dH,GH,bH,kH,mH⟩:=hH;obtain⟨fP,dP,GP,bP,kP,mP⟩:=hP;refine F.ok Jm (λvs H Q E h=>?_) (λcdv A outer s H vs Q E hr h=>?_)
 ·obtain⟨sp,r,ws,x,sy,rfl,_⟩:=h;rfl
 obtain⟨sp,r,ws,x,sy,rfl,spk,hx,du,h500,n300,q⟩:=h;refine⟨_,ah (ax (i:=3) Jm.nd rfl (lJ rfl) (av af)) (ah (de eB rfl (Vn rfl mr (ac (ao (FnOk.frame GA) (hr.mono (by decide)) rfl mA kA bA .nil az (ac (pv 2) af)) af)) (ay (i:=4) Jm.nd rfl (bV rfl)) (ah (nv (i0:=5) (ns:=["held"]) (ys:=["waiting"]) (sc:=Qt) Jm.nd rfl rfl cWo_ rfl (on (ao GH (hr.mono (by decide)) rfl mH kH bH .nil az (ac (pv 4) af))) (λC s H fp=>ay (i:=0) (by show(["held","waiting"]:List Str).Nodup;decide +kernel) rfl (bV rfl)) (λC s H fp=>cw) (λC s H fp=>S7 (K:=K) rfl cX rL rM C4 (pv 1))) (ai (bx (gi cX fV fX dy (pv 3) (ac (ao (FnOk.frame GP) hr rfl mP kP bP .nil az (ac (pv 0) (ac (pv 1) (ac (pv 4) (ac (pv 5) af))))) af)))))) (ai (au (yk cX rL rM C4 (pv 3))))),?_⟩;dsimp only[bf,Cx.nox];refine⟨sz0,λu hu=>?_⟩;have s0:Same H (bv (upd H u (.lst [])) u):=sv (ad hu _) hu;refine⟨_,rfl,u,[],ae,x,sy,rfl,hx.mono s0,h500,λr1 xs B sB gr hB hBu=>?_⟩;have sHB:=Same.trans s0 sB;have ru:r1≠u:=am gr hBu;have xl:xs.length=sy.parts.length:=(by rw[hB.length,aG]);have p500:sy.parts.length<=500:=(by rw[i6];exact h500);refine⟨r1,xs,rfl,SqL.of (by rw[al ru];exact gr),S0 (K:=K) (a:=r1) (xs:=xs) (λi σ G=>∃(v4 v5:Option V)(zs:List V) (ts:List Say),σ=[some (.ref sp),some (.ref r),some x,some (.ref u),v4,v5]/\Same B (bv G u)/\G u=some (.lst zs)/\sy.parts.drop (sy.parts.length - i)=ts.flatMap Say.parts/\Paired (λy k=>Pb (bv G u) ws k y) zs.reverse ts/\zs.length<=i) ⟨none,none,[],[],rfl,(by rw[iu,hide_none hBu];exact λ_ _ z=>z),ae,(by rw[uY,rF];rfl),.nil,aO _⟩ (λi σ G _ h0_=>by obtain⟨_,_,_,_,_,sG,_⟩:=h0_;exact SqL.of (hide_le _ _ (sG _ _ gr))) ?_ ?_⟩
 ·intro i x σ G hx1 h_1;obtain⟨v4,v5,zs,ts,rfl,sG,gu,ets,pz,zl⟩:=h_1;generalize hE1_:db.mk _ _ _ _=E1_;revert hE1_ E1_;refine id ?_;intro E1_ hE1_;have hi:i < sy.parts.length:=by
   have:=(aK.mp hx1).1;rw[gZ]at this;lia
  rw[rK (by lia)]at hx1;obtain⟨p,ep,hp⟩:=hB.getm hx1;rw[xl]at ep;have pm:p∈sy.parts:=bQ ep;have ed:sy.parts.drop (sy.parts.length - 1 - i)=p::sy.parts.drop (sy.parts.length - i):=by
   obtain⟨h1,h2⟩:=aK.mp ep;rw[lN h1,h2,show sy.parts.length - 1 - i+1=sy.parts.length - i by lia]
  obtain⟨us,eu⟩:∃us,sy.parts.drop (sy.parts.length - i)=(p.kids++us).flatMap Say.parts:=by
   refine xb (F:=[sy]) (pre:=sy.parts.take (sy.parts.length - 1 - i)) (p:=p) ?_;rw[<-ed,List.take_append_drop];simp
  have et:ts=p.kids++us:=uo (ets.symm.trans eu);subst et;obtain⟨zk,zv,ez,pk,pv'⟩:=vm pz;have ezs:zs=zv.reverse++zk.reverse:=(by rw[<-pS,<-ez,nN]);have hpG:Hold K G x p.da:=(hp.mono sG).mono hide_le;refine⟨_,rfl,x,p,rfl,hpG,λa ks G1 s1 ha hks=>?_⟩;have gu1:=s1 _ _ gu;have haB:SqT K (bv G1 u) a ks:=ha.tups (L4 gu1);have kl:ks.length=p.kids.length:=(by rw[hks.length,aG]);have zkl:zk.length=p.kids.length:=Paired.length pk;refine⟨a,rfl,⟨_,ha⟩,λD hD=>?_⟩;have Du:D≠u:=gH (am gu1 hD);have hDB:(bv G1 u) D=none:=(by rw[cg Du];exact hD);have zsl:zs.length=zv.length+zk.length:=(by rw[ezs,aN,gZ,gZ]);refine qf (K:=K) (a:=a) (xs:=ks) (λj ys G2=>Same (bv G1 u) (bv G2 u)/\G2 u=some (.lst (zv.reverse++(zk.drop j).reverse))/\G2 D=some (.lst ys)/\ys=zk.take j)
   ⟨?_,?_,ae,rfl⟩ (λi ys G z=>z.2.2.1) (λi ys G _ z=>(haB.same z.1).same hide_le) ?_ ?_
  ·intro b o e;have hb:b≠D:=am e hDB;have hbu:b≠u:=λz=>(by subst z;unfold bv at e;rw[if_pos rfl]at e;cases e);rw[cg hbu]at e ⊢;rw[al hb];exact e
  ·rw[al (gH Du),gu1,ezs];rfl
  ·intro j y ys G2 hy h_1;obtain⟨s2,gu2,gD2,rfl⟩:=h_1;have hj:j < zk.length:=(by rw[zkl,<-kl];exact(aK.mp hy).1);have edr:zk.drop j=zk[j]::zk.drop (j+1):=lN hj;refine⟨bg (by rw[cQ];lia),⟨[some _],rfl,rfl⟩,?_⟩;refine⟨_,rfl,.inl ⟨rfl,_,SqL.of gu2⟩,u,_,zk[j],rfl,rfl,gu2,?_,?_⟩
   ·rw[edr,lT,<-lU];simp
   ·refine⟨by rw[al Du];exact gD2,?_,?_,ae,?_⟩
    ·intro b o e;have hb:b≠D:=am e hDB;have hbu:b≠u:=λz=>(by subst z;unfold bv at e;rw[if_pos rfl]at e;cases e);have e2:=s2 _ _ e;rw[cg hbu]at e2 ⊢;rw[al hb,al hbu];exact e2
    ·rw[al (gH Du),ae,edr,lT,<-lU,List.dropLast_concat]
    ·rw[dJ,aL hj];rfl
  ·intro ys G2 h_1;obtain⟨s2,gu2,gD2,rfl⟩:=h_1;rw[kl,<-zkl,dZ]at gD2;rw[kl,<-zkl,rF]at gu2;have gu2':G2 u=some (.lst zv.reverse):=(by rw[gu2];simp);have sGG:Same (bv G u) (bv G2 u):=Same.trans (d7 s1) s2;have sBG:=Same.trans sG sGG;refine⟨_,rfl,.inl ⟨rfl,_,SqL.of gu2'⟩,?_⟩;refine⟨_,rfl,_,rfl,_,rfl,_,rfl,u,_,gu2',sp,r,D,ws,x,p,zk,rfl,spk.mono (Same.trans sHB sBG),hp.mono sBG,Pe pm du,bK (Cq p) (bK (Pd pm) n300),(by rw[cg Du];exact gD2),Paired.mapP pk λy k z=>z.mono sGG,λy H' sH wy hu'=>?_⟩;refine⟨u,_,_,rfl,rfl,ae,bg (by rw[gZ];lia),?_⟩;have eH:bv (upd (upd H' u (.lst zv.reverse)) u (.lst (zv.reverse++[y]))) u=H':=(by rw[iu,iu,hide_none hu']);subst hE1_;refine⟨_,_,_,p::us,rfl,(by rw[eH];exact Same.trans sBG sH),ae,?_,?_,(by rw[aN,gZ];show _+1<=_;lia)⟩
   ·rw[show sy.parts.length - (i+1)=sy.parts.length - 1 - i by lia,ed,eu,iW,jm p,iR];rfl
   ·rw[eH,pS,nN];exact .cons wy (Paired.mapP pv' λy k z=>(z.mono sGG).mono sH)
 ·intro σ G h_1;obtain⟨v4,v5,zs,ts,rfl,sG,gu,ets,pz,zl⟩:=h_1;rw[xl,xB,tI]at ets;have et:ts=[sy]:=uo (ets.symm.trans (by simp));subst et;have ez:∃y,zs=[y]/\Pb (bv G u) ws sy y:=by
   generalize hz:zs.reverse=zr at pz;cases pz with
   |cons h1 t=>
    cases t;exact⟨_,by rw[<-nN zs,hz];rfl,h1⟩
  obtain⟨y,rfl,wy⟩:=ez;refine⟨_,rfl,.inl ⟨rfl,_,SqL.of gu⟩,u,_,y,rfl,rfl,gu,rfl,q y _ (Same.trans sHB (Same.trans sG Eh)) (wy.mono Eh)⟩
end
end S25
namespace L2
open PySem PySem.Spec PyProof.Rows
structure Vu (K:aA)(C:Addr)(m:Str)(f:Addr):Prop where
 ga:oQ K (.ref C) "__getattribute__"=some (some (.builtin "type.__getattribute__"))
 rd:pV K C (.type "type")=true
 fc:pW K (.ref C) (.type "type") m=some (.val (.ref f))
 kp:aU K (.ref f)=true
section
variable {X:Cx}{CX:CXT}{k:Nat}{f C:Addr}{fd:cC}{ps:List Str}{sp:Sp}{dvs:List V}{ds:List aB}{E:XK}{x m:Str}{p pos ap:Pos}{a:Expr}{es:List Expr}{t:TA}
theorem Pf {pl:Sem Bool}(c:Vu X.K C m f)(F:FnOk X.prog X.w X.K X.mg X.base CX k f fd ps sp)(hr:Room k X.A)(hg:Gl X x)(hm:X.mg x=some (.ref C))(hb:Binds X.K fd ps ds)(hd:Vals dvs ds)(hx:lq CX X E)(ha:PA X (a::es) t)
  (hdb:(x == ("__debug__":Str))=false:=by decide) (he:cZ (a::es) X.env=(false,eval a X.env)::cZ es X.env:=by rfl) (hpl:(lE pos (cZ es X.env)).any (·.1)=false:=by rfl)
  (ht:eval (.Call (.Attribute (.Name x p) m ap) (a::es) [] pos) X.env=(do
    let ov <-eval (.Name x p) X.env
    sV ap.atName
    let (f,first) <-oU [ov] (tQ ov m pl)
    xL pos f first (lE pos (cZ (a::es) X.env)) (sY pos (pP [] X.env))):=by rfl) :
  PE X (.Call (.Attribute (.Name x p) m ap) (a::es) [] pos) (P5 sp dvs E t):=by
 intro pins s σ H Q I h;refine oV (pl:=pl) (ko I hg hm ?_ hdb) ht;refine PySem.W.method_cls I.kIn c.ga (PySem.W.cls_value I.kIn c.rd c.fc rfl ?_);refine mZ (h₀:=X.base) I.ok.mod.kin c.kp (thn (ha pos pins _ σ H _ (I.tok (s.toks+1)) h) λus s1 h0_=>?_) he hpl;obtain⟨vs,H1,I1,r,q⟩:=h0_;refine⟨I1.kIn,?_⟩;exact yi F hr hb hd hx I1 r q
end
end L2
namespace S25
open PySem L2 Bits S1 Fly
def qr (P:aS)(w:bZ)(K:aA)(mg:Str->Option aB)(base:Heap)(C:Addr)(k:Nat)(x:Str)(ps:List Str)(sp:Sp):Prop:=
 ∃f d,FnOk P w K mg base CX0 k f d ps sp/\Binds K d ps []/\Hj K C x f
structure MC (K:aA)(C:Addr):Prop where
 cl:Cls K C
 nl:NoAttr K C "letters"
 nw:NoAttr K C "ways"
def MachAt (K:aA)(H:Hp)(C m:Addr)(ls:List (List Int))(k:Nat)(W:Nat->Nat->Rl):Prop:=∃dx r xw,H m=some (.ins C dx [("letters",.ref r),("ways",xw)])/\j8 K H r ls/\WaysAt H ls.length (k+1) W xw
theorem MachAt.mono {K:aA}{H G:Hp}{C m:Addr}{ls:List (List Int)}{k:Nat}{W:Nat->Nat->Rl}(h:MachAt K H C m ls k W)(s:Same H G):MachAt K G C m ls k W:=by
 obtain⟨dx,r,xw,h1,⟨xs,h2,h3⟩,h4⟩:=h;exact⟨dx,r,xw,s _ _ h1,⟨xs,s _ _ h2,h3.mono s⟩,h4.mono s⟩
def qt (n k:Nat)(ns:List Int)(T:Nat->Nat->Prop):Prop:=ns.length=k/\∀c m,ns[c]?=some m->MaskP n m (T c)
def Vv (C:Addr):Sp:=λvs H Q _=>∃(m dx:Addr)(y z:V),vs=[.ref m,y,z]/\H m=some (.ins C dx [])/\Q .non (upd H m (.ins C dx [("letters",y),("ways",z)]))
def d8 (rs:List Nat):List V:=rs.map λ(r:Nat)=>V.int (r:Int)
def mw (W:Nat->Nat->Rl)(rs:List Nat)(i:Nat)(c j:Nat):Prop:=∃r,r∈rs/\W r c i j
def Jn (K:aA)(H:Hp)(C:Addr)(m t lt:Addr)(ls:List (List Int))(k:Nat)(W:Nat->Nat->Rl)(rs:List Nat)(l:List Int):Prop:=
 MachAt K H C m ls k W/\SqT K H t (d8 rs)/\(∀r∈rs,r < k+1)/\rs.length<=400/\SqT K H lt (l.map V.int)/\l∈ls/\ls.length<=300/\k<=300
def Be (K:aA)(C:Addr):Sp:=λvs H Q _=>∃(m t lt:Addr)(ls:List (List Int)) (k:Nat) (W:Nat->Nat->Rl) (rs:List Nat) (l:List Int),vs=[.ref m,.ref t,.ref lt]/\Jn K H C m t lt ls k W rs l/\
 ∀(p:Addr)(ns:List Int) (H':Hp),Same H H'->H p=none->H' p=some (.lst (ns.map V.int))->qt ls.length (k+1) ns (mw W rs (ls.idxOf l))->Q (.ref p) H'
section
variable {P:aS}{w:bZ}{K:aA}{mg:Str->Option aB}{base:Heap}{C:Addr}
theorem scRi:ar ["self","letters","ways"] ["self","letters","ways"] (aj Dp):=fsN
theorem Pg {f:Addr}{fd:cC}(F:Fun K "__init__" "Runs.__init__" Dp f fd)(M:MC K C):FnOk P w K mg base CX0 1 f fd ["self","letters","ways"] (Vv C):=by
 refine F.ok scRi (λvs H Q E h=>?_) (λcdv A outer s H vs Q E hr h=>?_)
 ·obtain⟨m,dx,y,z,rfl,_⟩:=h;rfl
 obtain⟨m,dx,y,z,rfl,hm,q⟩:=h;refine⟨_,ah (Kn (pv 0) (pv 1) rfl) (ai (Kn (pv 0) (pv 2) rfl)),?_⟩;dsimp only[bf,Cx.nox];refine⟨_,rfl,_,rfl,m,C,dx,_,rfl,hm,M.cl,M.nl,(by decide),?_⟩;refine⟨_,rfl,_,rfl,m,C,dx,_,rfl,ae,M.cl,M.nw,(by show 1 < 1000;decide),?_⟩;rw[Q5];exact q
theorem En:ar ["self","rooms","letter","place","masks","room"] ["self","rooms","letter"] (aj yt):=fsN
def Qu:gG:={ kind:=.function,names:=[(".0",.local),("mask",.local),("relation",.local),("place",.free)],isGenerator:=false,isCoroutine:=false,more:=[] }
theorem cMa_ {CX:CXT}{f:Addr}{cdv:aB}{A:cW}{outer:List Env}{s:aI}{H:Hp}{E:XK} :
  cb (bf CX P w K mg base ["self","rooms","letter","place","masks","room"] "Runs.masks_from" (aj yt) f cdv A outer s H E).nox ["mask","relation"] ["place"] [3] Qu [("place",s.heap.objs.size+1)]:=csN [(".0",.local),("mask",.local),("relation",.local),("place",.cell)]
theorem Ph {f:Addr}{fd:cC}(F:Fun K "masks_from" "Runs.masks_from" yt f fd)(M:MC K C)(ml:mg "len"=none)(mz:mg "zip"=none):FnOk P w K mg base CX0 1 f fd ["self","rooms","letter"] (Be K C):=by
 refine F.ok En (λvs H Q E h=>?_) (λcdv A outer s H vs Q E hr h=>?_)
 ·obtain⟨m,t,lt,ls,k,W,rs,l,rfl,_⟩:=h;rfl
 obtain⟨m,t,lt,ls,k,W,rs,l,rfl,⟨⟨dx,r,xw,hm,⟨xs,hr1,hd1⟩,ww⟩,ht,hrs,r400,hlt,hl,n300,k300⟩,q⟩:=h;refine⟨_,ah (ax (i:=3) En.nd rfl (lJ rfl) (gi cX qR PySem.F.type_list_index (Ek (hu8 hr)) (qd (pv 0) rfl) (ac (pv 2) af))) (ah (ax (i:=4) En.nd rfl (bV rfl) (bc C5 (av (bj ag af)) (bp br rfl ml eX (ac (qd (pv 0) rfl) af)))) (ah (de eB rfl (on (pv 1)) (ay (i:=5) En.nd rfl (bV rfl)) (ah (nv (i0:=4) (ns:=["mask","relation"]) (ys:=["place"]) (sc:=Qu) En.nd rfl rfl cMa_ rfl (A6 rfl mz (ac (pv 4) (ac (aq aw (qd (pv 0) rfl) (pv 5) (λ_ _=>rfl)) af))) (λC s H fp=>pg2 rfl) (λC s H fp=>cw) (λC s H fp=>bc Hh (pv 0) (aq (r:=xm K) aw (pv 1) (pv 2) (λ_ _=>rfl)))) bo)) (ai (au (pv 4))))),?_⟩;dsimp only[bf,Cx.nox];obtain⟨a,rows,rfl,ga,la⟩:=id ww;have rl:=la.1;have hj:ls.idxOf l < ls.length:=nX.mpr hl;refine⟨_,rfl,m,C,dx,_,_,rfl,hm,M.cl,M.nl,rfl,.inl ⟨rfl,_,SqL.of hr1⟩,_,rfl,r,lt,xs,ls,l,rfl,rfl,SqL.of hr1,rq hd1,hlt,hl,?_⟩;refine⟨sz1,λp0 hp0=>?_⟩;have t0:=ad hp0 (.lst [.int 0]);refine⟨_,rfl,m,C,dx,_,_,rfl,t0 _ _ hm,M.cl,M.nw,rfl,a,_,rfl,.inl (SqL.of (t0 _ _ ga)),p0,_,_,rfl,rfl,ae,(by rw[rl];lia),(by rw[rl];lia),?_,λp1 hp1=>?_⟩
 ·rw[rl];show 1 * (((k+1:Nat):Int)).toNat<=sizeLine;exact small (by lia)
 have t1:=ad hp1 (.lst (dQ (((rows.length:Nat):Int)).toNat [V.int 0]).flatten);have sA:=Same.trans t0 t1;have hp1H:H p1=none:=Same.free t0 hp1;refine⟨_,rfl,t,rfl,⟨_,ht.same sA⟩,Ae (K:=K) (a:=t) (xs:=d8 rs) (λi σ G=>∃(b:Addr)(ns:List Int) (v5:Option V),σ=[some (.ref m),some (.ref t),some (.ref lt),some (.int ((ls.idxOf l:Nat):Int)),some (.ref b),v5]/\Same H G/\H b=none/\G b=some (.lst (ns.map V.int))/\qt ls.length (k+1) ns (mw W (rs.take i) (ls.idxOf l))) ⟨p1,dQ (k+1) 0,none,rfl,sA,hp1H,?_,⟨gN,λc mk e=>?_⟩⟩ (λi σ G _ h0_=>by obtain⟨_,_,_,_,sG,_⟩:=h0_;exact ht.same sG) ?_ ?_⟩
 ·rw[ae,rl,show(((k+1:Nat):Int)).toNat=k+1 by lia,Ed]
 ·rw[List.eq_of_mem_replicate (bQ e)];exact(ju _).iff λj _=>⟨λf=>f.elim,λh0_=>by obtain⟨_,z,_⟩:=h0_;exact by simp at z⟩
 ·intro i x σ G hx h_1;obtain⟨b,ns,v5,rfl,sG,hb,gb,mp⟩:=h_1;generalize hE1_:db.mk _ _ _ _=E1_;revert hE1_ E1_;refine id ?_;intro E1_ hE1_;unfold d8 at hx;rw[eK]at hx;obtain⟨rm,er,rfl⟩:=gJ.mp hx;have hrm:=hrs rm (bQ er);obtain⟨_,ey,c,zs,rfl,gc,lc⟩:=la.at hrm;have zl:=lc.1;have nl:=mp.1;refine⟨_,rfl,_,rfl,m,C,dx,_,_,rfl,sG _ _ hm,M.cl,M.nw,rfl,_,rfl,a,_,_,_,rfl,rfl,SqL.of (sG _ _ ga),bh ey,b,c,_,_,rfl,SqL.of gb,SqL.of (sG _ _ gc),λD hD=>?_⟩;refine vh (K:=K) (a:=b) (b:=c) (xs:=ns.map V.int) (ws:=zs) (by rw[aG,nl,zl]) (λe ys G2=>Same G G2/\G2 D=some (.lst ys)/\∃us:List Int,ys=us.map V.int/\us.length=e/\∀c mk,us[c]?=some mk->MaskP ls.length mk (mw W (rs.take (i+1)) (ls.idxOf l) c))
   ⟨ad hD _,ae,[],rfl,rfl,λc mk e=>by simp at e⟩ (λi ys G z=>z.2.1) (λi ys G _ z=>⟨SqL.of (z.1 _ _ gb),SqL.of (z.1 _ _ (sG _ _ gc))⟩) ?_ ?_ ?_
  ·intro e ys G2 he h_1;obtain⟨s2,gD,us,rfl,ul,um⟩:=h_1;rw[aG,nl]at he;exact bg (by rw[aG];lia)
  ·intro e x y tt ys G2 hx2 hy h_1 htt;obtain⟨s2,gD,us,rfl,ul,um⟩:=h_1;obtain⟨mk,emk,rfl⟩:=jb hx2;obtain⟨rr,nr,rfl,grr,rrel⟩:=(lc.2 e y hy).mono (Same.trans sG s2);have Dt:D≠tt:=am gD htt;have ts:=ad htt (.tup [.int mk,.ref rr]);obtain⟨v,ev,mv⟩:=rrel.at hj;have vv:(nr.map V.int)[ls.idxOf l]?=some (.int v):=(by rw[eK,ev];rfl);refine⟨tt,_,rfl,SqT.of ae,rfl,_,_,rfl,_,_,rfl,rfl,⟨[some _,some _],rfl,rfl⟩,?_⟩;refine⟨_,rfl,_,rfl,_,rfl,rr,_,_,_,rfl,rfl,SqL.of (ts _ _ grr),bh vv,_,_,rfl,rfl,ts _ _ gD,Same.put (Same.trans s2 ts) hD _,ae,us++[nI mk v],(by rw[aZ];rfl),(by rw[aN,ul];rfl),λc' mk' e'=>?_⟩;by_cases hc:c' < us.length
   ·rw[eP hc]at e';exact um c' mk' e'
   ·rw[gB (by lia)]at e';have h0:=(aK.mp e').1;simp only[dX,lS]at h0;have ec:c'=e:=(by lia);subst ec;rw[show c' - us.length=0 by lia]at e';cases e';refine(uh (mp.2 c' mk emk) mv).iff λj hjj=>?_;have tk:rs.take (i+1)=rs.take i++[rm]:=(by rw[dJ,er];rfl);unfold mw;rw[tk];constructor
    ·rintro(⟨r0,h1,h2⟩ | h)
     ·exact⟨r0,jD _ h1,h2⟩
     ·exact⟨rm,eJ _ (cE.mpr rfl),h⟩
    ·intro h_1;obtain⟨r0,h1,h2⟩:=h_1;rcases eI.mp h1 with z | z
     ·exact .inl ⟨r0,z,h2⟩
     ·rw[cE.mp z]at h2;exact .inr h2
  ·intro ys G2 h_1;obtain⟨s2,gD,us,rfl,ul,um⟩:=h_1;rw[aG,nl]at ul;subst hE1_;exact⟨D,us,_,rfl,Same.trans sG s2,Same.free sG hD,gD,ul,um⟩
 ·intro σ G h_1;obtain⟨b,ns,v5,rfl,sG,hb,gb,mp⟩:=h_1;unfold d8 at mp;rw[aG,dZ]at mp;exact⟨_,rfl,q b ns G sG hb gb mp⟩
end
end S25
namespace S25
open PySem L2 Bits S1 Fly
theorem zn {K:aA}{H:Hp}{xs:List V}{ls:List (List Int)}(h:Holds K H xs (ls.map jc))(m:Int):∀k,k<=xs.length->Holds K H (pick m xs k) ((pick m ls k).map jc)
 |0,_=>.nil
 |k+1,hk=>by
  have ih:=zn h m k (by lia);have ex:xs[k]?=some xs[k]:=aL (by lia);obtain⟨l,el,hl⟩:=h.getm ex;cases hb:m.toNat.testBit k with
  |true=>
   rw[xr hb ex,xr hb el,aZ];exact ih.append (.one hl)
  |false=>
   rw[Ba hb,Ba hb];exact ih
def cz (ns:List Int)(k j:Nat):List Nat:=((fK k).map (·+1)).filter λc=>(ns.getD c 0).toNat.testBit j
def goL (ns:List Int)(ls:List (List Int))(k n:Nat):List (List Int×List Nat):=(fK n).filterMap λj=>if cz ns k j=[]then none else (ls[j]?).map λl=>(l,cz ns k j)
def goD (x:List Int×List Nat):Da:=.tup [jc x.1,.tup (x.2.map λ(r:Nat)=>.flat (.int (r:Int)))]
def vn (x:List Int×Nat):Da:=.tup [jc x.1,.flat (.int (x.2:Int))]
theorem Bf (x:List Int×List Nat):(goD x).fix=true:=by
 unfold goD;rw[Da.fix,ir,gz,ir,Da.fix,bw (λ_=>by rw[Da.fix])];rfl
theorem xu (x:List Int×Nat):(vn x).fix=true:=by
 unfold vn;rw[Da.fix,ir,gz,ir,Da.fix];rfl
def Bh (K:aA)(C:Addr):Sp:=λvs H Q _=>∃(m t lt:Addr)(ls:List (List Int)) (k:Nat) (W:Nat->Nat->Rl) (rs:List Nat) (l:List Int),vs=[.ref m,.ref t,.ref lt]/\Jn K H C m t lt ls k W rs l/\
 ∀(p:Addr)(mk:Int) (H':Hp),Same H H'->H p=none->MaskP ls.length mk (mw W rs (ls.idxOf l) 0)->j8 K H' p (pick mk ls ls.length)->Q (.ref p) H'
def zo (K:aA)(C:Addr):Sp:=λvs H Q _=>∃(m lt:Addr)(ls:List (List Int)) (k:Nat) (W:Nat->Nat->Rl) (r:Nat) (l:List Int),vs=[.ref m,.int (r:Int),.ref lt]/\MachAt K H C m ls k W/\r < k+1/\SqT K H lt (l.map V.int)/\l∈ls/\ls.length<=300/\k<=300/\
 ∀(p:Addr)(mk:Int) (H':Hp),Same H H'->H p=none->MaskP ls.length mk (W r 0 (ls.idxOf l))->j8 K H' p (pick mk ls ls.length)->Q (.ref p) H'
def Bi (K:aA)(C:Addr):Sp:=λvs H Q _=>∃(m t lt:Addr)(ls:List (List Int)) (k:Nat) (W:Nat->Nat->Rl) (rs:List Nat) (l:List Int),vs=[.ref m,.ref t,.ref lt]/\Jn K H C m t lt ls k W rs l/\
 ∀(p:Addr)(ns:List Int) (xs:List V) (H':Hp),Same H H'->H p=none->qt ls.length (k+1) ns (mw W rs (ls.idxOf l))->H' p=some (.lst xs)->Holds K H' xs ((goL ns ls k ls.length).map goD)->Q (.ref p) H'
def L6 (K:aA)(C:Addr):Sp:=λvs H Q _=>∃(m lt:Addr)(ls:List (List Int)) (k:Nat) (W:Nat->Nat->Rl) (r:Nat) (l:List Int),vs=[.ref m,.int (r:Int),.ref lt]/\MachAt K H C m ls k W/\r < k+1/\SqT K H lt (l.map V.int)/\l∈ls/\ls.length<=300/\k<=10/\
 ∀(p:Addr)(ns:List Int) (xs:List V) (H':Hp),Same H H'->H p=none->qt ls.length (k+1) ns (λc=>W r c (ls.idxOf l))->H' p=some (.lst xs)->Holds K H' xs (((goL ns ls k ls.length).flatMap λx=>x.2.map λr=>(x.1,r)).map vn)->Q (.ref p) H'
def Go (K:aA)(C:Addr):Sp:=λvs H Q _=>∃(m:Addr)(ls:List (List Int)) (k:Nat) (W:Nat->Nat->Rl),vs=[.ref m]/\MachAt K H C m ls k W/\Q (.int ((k+1:Nat):Int)) H
section
variable {P:aS}{w:bZ}{K:aA}{mg:Str->Option aB}{base:Heap}{C:Addr}
theorem scRo:ar ["self"] ["self"] (aj Dq):=fsN
theorem Pi {f:Addr}{fd:cC}(F:Fun K "rooms" "Runs.rooms" Dq f fd)(M:MC K C)(ml:mg "len"=none):FnOk P w K mg base CX0 1 f fd ["self"] (Go K C):=by
 refine F.ok scRo (λvs H Q E h=>?_) (λcdv A outer s H vs Q E hr h=>?_)
 ·obtain⟨m,ls,k,W,rfl,_⟩:=h;rfl
 obtain⟨m,ls,k,W,rfl,⟨dx,r,xw,hm,_,ww⟩,q⟩:=h;refine⟨_,ai (au (bp br rfl ml eX (ac (qd (pv 0) rfl) af))),?_⟩;dsimp only[bf,Cx.nox];obtain⟨a,rows,rfl,ga,la⟩:=ww;refine⟨_,rfl,m,C,dx,_,_,rfl,hm,M.cl,M.nw,rfl,a,_,rfl,.inl (SqL.of ga),?_⟩;rw[la.1];exact q
theorem scEf:ar ["self","rooms","letter"] ["self","rooms","letter"] (aj Dr):=fsN
theorem Pj {f:Addr}{fd:cC}(F:Fun K "ends_from" "Runs.ends_from" Dr f fd)(M:MC K C)(hL:Has P w K mg base 1 "letters_in" ["letters","mask"] (Gi K))(hM:qr P w K mg base C 1 "masks_from" ["self","rooms","letter"] (Be K C)) :
  FnOk P w K mg base CX0 2 f fd ["self","rooms","letter"] (Bh K C):=by
 obtain⟨fL,dL,GL,bL,kL,mL⟩:=hL;obtain⟨fM,dM,GM,bM,me⟩:=hM;refine F.ok scEf (λvs H Q E h=>?_) (λcdv A outer s H vs Q E hr h=>?_)
 ·obtain⟨m,t,lt,ls,k,W,rs,l,rfl,_⟩:=h;rfl
 obtain⟨m,t,lt,ls,k,W,rs,l,rfl,as,q⟩:=h;refine⟨_,ai (au (ao GL hr rfl mL kL bL .nil az (ac (qd (pv 0) rfl) (ac (aq aw (jf (pv 0) M.cl me GM hr bM .nil az (ac (pv 1) (ac (pv 2) af))) ag (λ_ _=>rfl)) af)))),?_⟩;dsimp only[bf,Cx.nox];obtain⟨⟨dx,r,xw,hm,⟨xs,hr1,hd1⟩,ww⟩,_,_,_,_,_,n300,k300⟩:=id as;have xl:xs.length=ls.length:=(by rw[hd1.length,aG]);refine⟨_,rfl,m,C,dx,_,_,rfl,hm,M.cl,M.nl,rfl,_,rfl,m,dx,_,rfl,hm,rfl,_,rfl,_,rfl,m,t,lt,ls,k,W,rs,l,rfl,as,λp1 ns G1 s1 h1 g1 mp=>?_⟩;have nl:=mp.1;have e0:ns[0]?=some (ns[0]'(by lia)):=aL (by lia);have v0:(ns.map V.int)[0]?=some (.int (ns[0]'(by lia))):=(by rw[eK,e0];rfl);have m0:=mp.2 0 _ e0;refine⟨p1,_,_,_,rfl,rfl,SqL.of g1,bh (j:=0) v0,r,ls.length,_,xs,rfl,m0.1,SqL.of (s1 _ _ hr1),by lia,λp2 G2 s2 h2 g2=>?_⟩;have s12:=Same.trans s1 s2;rw[xl]at g2;refine q p2 _ G2 s12 (Same.free s1 h2) m0 ⟨_,g2,?_⟩;exact zn (hd1.mono s12) _ _ (by lia)
theorem scEn:ar ["self","room","letter"] ["self","room","letter"] (aj Im):=fsN
theorem Tf {f:Addr}{fd:cC}(F:Fun K "ends" "Runs.ends" Im f fd)(M:MC K C)(hE:qr P w K mg base C 2 "ends_from" ["self","rooms","letter"] (Bh K C)):FnOk P w K mg base CX0 3 f fd ["self","room","letter"] (zo K C):=by
 obtain⟨fE,dE,GE,bE,me⟩:=hE;refine F.ok scEn (λvs H Q E h=>?_) (λcdv A outer s H vs Q E hr h=>?_)
 ·obtain⟨m,lt,ls,k,W,r,l,rfl,_⟩:=h;rfl
 obtain⟨m,lt,ls,k,W,r,l,rfl,ma,hrk,hlt,hl,n300,k300,q⟩:=h;refine⟨_,ai (au (jf (pv 0) M.cl me GE hr bE .nil az (ac (bq (ac (pv 1) af)) (ac (pv 2) af)))),?_⟩;obtain⟨dx,r1,xw,hm,_⟩:=id ma;refine⟨_,rfl,m,dx,_,rfl,hm,rfl,_,rfl,sz1,λt ht=>?_⟩;have tt:=ad ht (.tup [.int (r:Int)]);refine⟨_,rfl,m,t,lt,ls,k,W,[r],l,rfl,⟨ma.mono tt,SqT.of ae,λr' hr'=>(by rw[cE.mp hr'];exact hrk),(by show 1<=400;decide),hlt.same tt,hl,n300,k300⟩,λp mk H' s1 h1 mp la=>?_⟩;exact q p mk H' (Same.trans tt s1) (Same.free tt h1) (mp.iff λj _=>⟨λh0_=>by obtain⟨r',z1,z2⟩:=h0_;exact by rw[cE.mp z1]at z2;exact z2,λz=>⟨r,cE.mpr rfl,z⟩⟩) la
end
end S25
namespace S25
open PySem L2 Bits S1 Fly
theorem xc (ns:List Int)(k j:Nat):cz ns (k+1) j=cz ns k j++if (ns.getD (k+1) 0).toNat.testBit j=true then [k+1]else []:=by
 unfold cz;rw[jO,aZ,nB];congr 1;cases h:(ns.getD (k+1) 0).toNat.testBit j
 ·rw[List.map_singleton,pH,h];rfl
 ·rw[List.map_singleton,pH,h];rfl
theorem vo (ns:List Int)(k j:Nat):(cz ns k j).length<=k:=by
 unfold cz;refine bK (jR _ _) ?_;rw[aG,gK];exact aO _
theorem L7 {ns:List Int}{k j r:Nat}(h:r∈cz ns k j):1<=r/\r < k+1/\(ns.getD r 0).toNat.testBit j=true:=by
 unfold cz at h;obtain⟨h1,h2⟩:=vC.mp h;obtain⟨i,hi,rfl⟩:=eE.mp h1;have:=eZ.mp hi;exact⟨by lia,by lia,h2⟩
theorem Eo {ns:List Int}{ls:List (List Int)}{k j:Nat}{l:List Int}(e:ls[j]?=some l):goL ns ls k (j+1)=goL ns ls k j++if cz ns k j=[]then []else [(l,cz ns k j)]:=by
 unfold goL;rw[jO,jQ];congr 1;by_cases h:cz ns k j=[]
 ·simp[h]
 ·simp[h,e]
theorem Ep (ns:List Int)(ls:List (List Int))(k n:Nat):(goL ns ls k n).length<=n:=by
 unfold goL;have:=jY (λj=>if cz ns k j=[]then none else (ls[j]?).map λl=>(l,cz ns k j)) (fK n)
 rw[gK]at this;exact this
theorem Bj {ns:List Int}{ls:List (List Int)}{k n:Nat}{x:List Int×List Nat}(h:x∈goL ns ls k n):∃j,j < n/\ls[j]?=some x.1/\x.2=cz ns k j/\x.2≠[]:=by
 unfold goL at h;obtain⟨j,hj,e⟩:=qB.mp h
 split at e
 ·cases e
 ·rename_i hne
  obtain⟨l,el,rfl⟩:=gJ.mp e;exact⟨j,eZ.mp hj,el,rfl,hne⟩
theorem rz {K:aA}{H:Hp}:∀(rs:List Nat),Holds K H (d8 rs) (rs.map λ(r:Nat)=>.flat (.int (r:Int)))
 | []=>.nil
 |_::rs=>.cons (.flat rfl) (rz rs)
theorem xx {K:aA}{H:Hp}:∀{xs:List V}{rs:List Nat},Holds K H xs (rs.map λ(r:Nat)=>.flat (.int (r:Int)))->xs=d8 rs
 |_,[],h=>by cases h;rfl
 |_,r::rs,h=>by
  cases h with
  |cons h1 t=>
   have e1:=h1.flatI;have e2:=xx t;subst e1;rw[e2];rfl
theorem Er {K:aA}{H:Hp}{x:V}{g:List Int×List Nat}(h:Hold K H x (goD g)):∃p a t,x=.ref p/\SqT K H p [.ref a,.ref t]/\SqT K H a (g.1.map V.int)/\SqT K H t (d8 g.2):=by
 obtain⟨p,ys,rfl,hp,hy⟩:=Hold.tupI h;cases hy with
 |cons h1 r1=>cases r1 with
  |cons h2 r2=>
   cases r2;obtain⟨a,zs,rfl,ha,hz⟩:=Hold.tupI h1;obtain⟨t,us,rfl,ht,hu⟩:=Hold.tupI h2;have e1:zs=g.1.map V.int:=hz.ints;subst e1;have e2:=xx hu;subst e2;exact⟨p,a,t,rfl,hp,ha,ht⟩
section
variable {P:aS}{w:bZ}{K:aA}{mg:Str->Option aB}{base:Heap}{C:Addr}
theorem xy:ar ["self","rooms","letter","masks","told","place","noted","bit","later"] ["self","rooms","letter"] (aj yr):=fsN
def Qv:gG:={ kind:=.function,names:=[(".0",.local),("room",.local),("bit",.free),("masks",.free)],isGenerator:=false,isCoroutine:=false,more:=[] }
theorem cGf_ {CX:CXT}{f:Addr}{cdv:aB}{A:cW}{outer:List Env}{s:aI}{H:Hp}{E:XK} :
  cb (bf CX P w K mg base ["self","rooms","letter","masks","told","place","noted","bit","later"] "Runs.goes_from" (aj yr) f cdv A outer s H E).nox ["room"] ["bit","masks"] [7,3] Qv [("masks",s.heap.objs.size+1),("bit",s.heap.objs.size+1+1)]:=csN [(".0",.local),("room",.local),("bit",.cell),("masks",.cell)]
theorem Pk {f:Addr}{fd:cC}(F:Fun K "goes_from" "Runs.goes_from" yr f fd)(M:MC K C)(hM:qr P w K mg base C 1 "masks_from" ["self","rooms","letter"] (Be K C))
  (me:mg "enumerate"=none) (mt:mg "tuple"=none) (mr:mg "range"=none) (ml:mg "len"=none):FnOk P w K mg base CX0 2 f fd ["self","rooms","letter"] (Bi K C):=by
 obtain⟨fM,dM,GM,bM,mm⟩:=hM;refine F.ok xy (λvs H Q E h=>?_) (λcdv A outer s H vs Q E hr h=>?_)
 ·obtain⟨m,t,lt,ls,k,W,rs,l,rfl,_⟩:=h;rfl
 obtain⟨m,t,lt,ls,k,W,rs,l,rfl,as,q⟩:=h;refine⟨_,ah (ax (i:=3) xy.nd rfl (lJ rfl) (jf (pv 0) M.cl mm GM hr bM .nil az (ac (pv 1) (ac (pv 2) af)))) (ah (ax (i:=4) xy.nd rfl (bV rfl) (av af)) (ah (de eB rfl (ue rfl me (ac (qd (pv 0) rfl) af)) (jz rfl (cn (ay (i:=5) xy.nd rfl (bV rfl)) (cn (ay (i:=6) xy.nd rfl (bV rfl)) im))) (ah (ax (i:=7) xy.nd rfl (lJ rfl) (bc va ag (pv 5))) (ah (ax (i:=8) xy.nd rfl (bV rfl) (ku oy rfl mt (by kernel_rfl) (ac (cy (ns:=["room"]) (ys:=["bit","masks"]) (sc:=Qv) cGf_ rfl (Kf rfl mr (ac ag (ac (bp br rfl ml eX (ac (pv 3) af)) af))) (λC s H fp=>ay (i:=0) (by show(["room","bit","masks"]:List Str).Nodup;decide +kernel) rfl (bV rfl)) (λC s H fp=>nh (vi (K:=K) rfl (bc yc (aq (r:=xm K) aw (pv 2) (pv 0) (λ_ _=>rfl)) (pv 1)) (λ_=>rfl))) (λC s H fp=>pv 0)) af))) (ai (cj (j9 (pv 8) (λ_=>rfl)) (ai (bx (gi cX fV fX dy (pv 4) (ac (bq (ac (pv 6) (ac (pv 8) af))) af)))) bo))))) (ai (au (pv 4))))),?_⟩;dsimp only[bf,Cx.nox];obtain⟨⟨dx,r,xw,hm,⟨xs,hr1,hd1⟩,ww⟩,_,_,_,_,_,n300,k300⟩:=id as;have xl:xs.length=ls.length:=(by rw[hd1.length,aG]);refine⟨_,rfl,m,dx,_,rfl,hm,rfl,_,rfl,_,rfl,m,t,lt,ls,k,W,rs,l,rfl,as,λp1 ns G1 s1 h1 g1 mp=>?_⟩;have nl:=mp.1;refine⟨sz0,λu hu=>?_⟩;have tu:=ad hu (.lst []);have sA:=Same.trans s1 tu;have huH:H u=none:=Same.free s1 hu;have pu:p1≠u:=am g1 hu;refine⟨_,rfl,m,C,dx,_,_,rfl,sA _ _ hm,M.cl,M.nl,rfl,r,_,rfl,SqL.of (sA _ _ hr1),Lk (K:=K) (a:=r) (xs:=xs) (λi σ G=>∃(zs:List V)(v5 v6 v7 v8:Option V),σ=[some (.ref m),some (.ref t),some (.ref lt),some (.ref p1),some (.ref u),v5,v6,v7,v8]/\Same H G/\G p1=some (.lst (ns.map V.int))/\G u=some (.lst zs)/\Holds K G zs ((goL ns ls k i).map goD)) ⟨[],none,none,none,none,rfl,sA,tu _ _ g1,ae,.nil⟩ (λi σ G _ h0_=>by obtain⟨_,_,_,_,_,_,sG,_⟩:=h0_;exact SqL.of (sG _ _ hr1)) ?_ ?_⟩
 ·intro j x p σ G hx h_1 hp;obtain⟨zs,v5,v6,v7,v8,rfl,sG,gp,gu,hz⟩:=h_1;generalize hE1_:db.mk _ _ _ _=E1_;revert hE1_ E1_;refine id ?_;intro E1_ hE1_;obtain⟨l',el,hl'⟩:=hd1.getm hx;obtain⟨a,ys,rfl,ha,hys⟩:=Hold.tupI hl';have ey:ys=l'.map V.int:=hys.ints;subst ey;have hj:j < ls.length:=(aK.mp el).1;have tp:=ad hp (.tup [.int (j:Int),.ref a]);have zl:zs.length<=300:=by
   rw[hz.length,aG];have:=Ep ns ls k j;lia
  refine⟨p,_,rfl,SqT.of ae,rfl,_,_,rfl,_,_,rfl,rfl,?_⟩;refine⟨_,rfl,_,_,rfl,rfl,⟨by lia,by lia,by decide⟩,?_⟩;have ez:(1:Int) * 2 ^ ((j:Int)).toNat=2 ^ j:=(by rw[tO,eY]);dsimp only;rw[ez];have gp':=tp _ _ gp;refine⟨_,rfl,p1,_,rfl,.inl (SqL.of gp'),1,_,rfl,⟨by decide,by decide,by rw[aG];lia,by rw[aG,nl];lia⟩,λD hD=>?_⟩;have en:((((ns.map V.int).length:Nat):Int) - 1).toNat=k:=(by rw[aG,nl];lia);generalize hG1:upd G p (.tup [.int (j:Int),.ref a])=G2 at tp gp' hD ⊢;refine o7 (lo:=1) (n:=((((ns.map V.int).length:Nat):Int) - 1).toNat) (λi ys G3=>Same G2 G3/\G3 D=some (.lst ys)/\ys=d8 (cz ns i j)) ⟨ad hD _,ae,rfl⟩ (λi ys G z=>z.2.1) ?_ ?_
  ·intro i ys G3 hi h_1;obtain⟨s3,gD,rfl⟩:=h_1;rw[en]at hi;have li:=vo ns i j;have e0:ns[i+1]?=some (ns[i+1]'(by lia)):=aL (by lia);have v0:(ns.map V.int)[i+1]?=some (.int (ns[i+1]'(by lia))):=(by rw[eK,e0];rfl);have eg:ns.getD (i+1) 0=ns[i+1]'(by lia):=(by rw[eV,e0];rfl);refine⟨bg (by unfold d8;rw[aG];lia),⟨[some _],rfl,rfl⟩,?_⟩;refine⟨_,rfl,_,rfl,p1,_,_,_,rfl,rfl,SqL.of (s3 _ _ gp'),(by rw[show(1:Int)+(i:Int)=((i+1:Nat):Int)by lia];exact bh v0),_,rfl,_,_,rfl,rfl,_,rfl,?_⟩;have bt:=Ss (mp.2 _ _ e0).1 j;refine c9 (λc=>?_) (λc=>?_)
   ·have c':(ns.getD (i+1) 0).toNat.testBit j=true:=(by rw[eg,<-bt];exact c);refine⟨_,rfl,gD,Same.put s3 hD _,ae,?_⟩;rw[xc,if_pos c'];unfold d8;rw[aZ];show _++[V.int (1+(i:Int))]=_++[V.int ((i+1:Nat):Int)];rw[show(1:Int)+(i:Int)=((i+1:Nat):Int)by lia]
   ·have c':¬(ns.getD (i+1) 0).toNat.testBit j=true:=(by rw[eg,<-bt];exact c);refine⟨s3,gD,?_⟩;rw[xc,if_neg c',iM]
  ·intro ys G3 h_1;obtain⟨s3,gD,rfl⟩:=h_1;rw[en]at gD;refine⟨D,_,rfl,.inl ⟨SqL.of gD,λt2 ht2=>?_⟩⟩;have t2s:=ad ht2 (.tup (d8 (cz ns k j)));have sT:=Same.trans tp (Same.trans s3 t2s);have gu':=sT _ _ gu;refine⟨_,rfl,_,.inr (.inl ⟨_,SqT.of ae,rfl⟩),?_⟩;have hz':Holds K (upd G3 t2 (.tup (d8 (cz ns k j)))) zs ((goL ns ls k j).map goD):=hz.mono sT;refine c9 (λc=>?_) (λc=>?_)
   ·have cne:cz ns k j≠[]:=λe=>(by rw[e]at c;cases c);refine⟨_,rfl,.inl ⟨rfl,_,SqL.of gu'⟩,_,rfl,_,rfl,sz2,λp3 hp3=>?_⟩;have t3:=ad hp3 (.tup [.ref a,.ref t2]);have gu3:=t3 _ _ gu';refine⟨u,_,_,rfl,rfl,gu3,bg (by lia),?_⟩;subst hE1_;refine⟨_,_,_,_,_,rfl,Same.put (Same.trans sG (Same.trans sT t3)) huH _,(by rw[al pu];exact(Same.trans sT t3) _ _ gp),ae,?_⟩;rw[Eo el,if_neg cne,aZ];have tps:Tups (upd G3 t2 (.tup (d8 (cz ns k j)))) (upd (upd (upd G3 t2 (.tup (d8 (cz ns k j)))) p3 (.tup [.ref a,.ref t2])) u (.lst (zs++[.ref p3]))):=(Tups.of t3).trans (Tups.put gu3 _);refine(hz'.stay tps (bw Bf _)).append (.one (.tup (xs:=[.ref a,.ref t2]) (SqT.of ?_) (.cons (.tup ((ha.same (Same.trans sG sT)).tups tps) (fz _)) (.cons (.tup ((SqT.of ae).tups tps) (rz _)) .nil))));rw[al (iw ae gu3 (by intro z;cases z)),ae]
   ·have ce:cz ns k j=[]:=by
     cases e:cz ns k j with
     |nil=>rfl
     |cons y z=>rw[e]at c;exact absurd rfl c
    subst hE1_;refine⟨_,_,_,_,_,rfl,Same.trans sG sT,sT _ _ gp,gu',?_⟩;rw[Eo el,if_pos ce,iM];exact hz'
 ·intro σ G h_1;obtain⟨zs,v5,v6,v7,v8,rfl,sG,gp,gu,hz⟩:=h_1;rw[xl]at hz;exact⟨_,rfl,q u ns zs G sG huH mp gu hz⟩
end
end S25
namespace S25
open PySem L2 Bits S1 Fly
theorem Pl {K:aA}{H:Hp}{p a:Addr}{l:List Int}{r:Nat}(hp:SqT K H p [.ref a,.int (r:Int)])(ha:SqT K H a (l.map V.int)):Hold K H (.ref p) (vn (l,r)):=
 .tup hp (.cons (.tup ha (fz _)) (.cons (.flat rfl) .nil))
theorem L8 {K:aA}{H:Hp}{x:V}{g:List Int×Nat}(h:Hold K H x (vn g)):∃p a,x=.ref p/\SqT K H p [.ref a,.int (g.2:Int)]/\SqT K H a (g.1.map V.int):=by
 obtain⟨p,ys,rfl,hp,hy⟩:=Hold.tupI h;cases hy with
 |cons h1 r1=>cases r1 with
  |cons h2 r2=>
   cases r2;obtain⟨a,zs,rfl,ha,hz⟩:=Hold.tupI h1;have e1:zs=g.1.map V.int:=hz.ints;subst e1;cases h2.flatI;exact⟨p,a,rfl,hp,ha⟩
def pf (ns:List Int)(ls:List (List Int))(k n:Nat):List (List Int×Nat):=(goL ns ls k n).flatMap λx=>x.2.map λr=>(x.1,r)
theorem n9 {α β:Type}{f:α->List β}{c:Nat}:∀{xs:List α},(∀x∈xs,(f x).length<=c)->(xs.flatMap f).length<=xs.length * c
 | [],_=>by simp
 |x::xs,h=>by
  rw[iW,aN,dX,wV];have h1:=h x eG;have h2:=n9 (xs:=xs) (f:=f) (c:=c) λy hy=>h y (cY _ hy);lia
def Vw (K:aA)(C cF cV cT:Addr):Sp:=λvs H Q E=>∃(m dx sp:Addr)(ws:List (Str×Nat)) (x:V) (s:Say),vs=[.ref m,.ref sp,x]/\H m=some (.ins C dx [])/\Hold K H (.ref sp) (gj ws)/\fg ws/\Hold K H x s.da/\s.size<=500/\s.nts<=300/\
 (s.due ws=none->∀H',Same (bv H m) H'->MachAt K H' C m (LL ws) s.rm (s.W ws)->Q .non H')/\(∀f,s.due ws=some f->FOut K H E cF cV cT f)
section
variable {P:aS}{w:bZ}{K:aA}{mg:Str->Option aB}{base:Heap}{C:Addr}
theorem Jo:ar ["self","room","letter","told","noted","rooms"] ["self","room","letter"] (aj Cf):=fsN
def Qw:gG:={ kind:=.function,names:=[(".0",.local),("other",.local),("noted",.free)],isGenerator:=false,isCoroutine:=false,more:=[] }
theorem cGo_ {CX:CXT}{f:Addr}{cdv:aB}{A:cW}{outer:List Env}{s:aI}{H:Hp}{E:XK} :
  cb (bf CX P w K mg base ["self","room","letter","told","noted","rooms"] "Runs.goes" (aj Cf) f cdv A outer s H E).nox ["other"] ["noted"] [4] Qw [("noted",s.heap.objs.size+1)]:=csN [(".0",.local),("other",.local),("noted",.cell)]
theorem Tg {f:Addr}{fd:cC}(F:Fun K "goes" "Runs.goes" Cf f fd)(M:MC K C)(hG:qr P w K mg base C 2 "goes_from" ["self","rooms","letter"] (Bi K C)):FnOk P w K mg base CX0 3 f fd ["self","room","letter"] (L6 K C):=by
 obtain⟨fG,dG,GG,bG,mm⟩:=hG;refine F.ok Jo (λvs H Q E h=>?_) (λcdv A outer s H vs Q E hr h=>?_)
 ·obtain⟨m,lt,ls,k,W,r,l,rfl,_⟩:=h;rfl
 obtain⟨m,lt,ls,k,W,r,l,rfl,ma,hrk,hlt,hl,n300,k10,q⟩:=h;refine⟨_,ah (ax (i:=3) Jo.nd rfl (bV rfl) (av af)) (ah (de eB rfl (ck (jf (pv 0) M.cl mm GG hr bG .nil az (ac (bq (ac (pv 1) af)) (ac (pv 2) af)))) (jz rfl (cn (ay (i:=4) Jo.nd rfl (lJ rfl)) (cn (ay (i:=5) Jo.nd rfl (bV rfl)) im))) (ai (bx (gi cX jV jW oq (pv 3) (ac (cy (ns:=["other"]) (ys:=["noted"]) (sc:=Qw) cGo_ rfl (on (pv 5)) (λC s H fp=>ay (i:=0) (by show(["other","noted"]:List Str).Nodup;decide +kernel) rfl (bV rfl)) (λC s H fp=>cw) (λC s H fp=>bq (ac (pv 1) (ac (pv 0) af)))) af))))) (ai (au (pv 3)))),?_⟩;dsimp only[bf,Cx.nox];refine⟨sz0,λu hu=>?_⟩;have tu:=ad hu (.lst []);obtain⟨dx,r1,xw,hm,_⟩:=id ma;refine⟨_,rfl,m,dx,_,rfl,tu _ _ hm,rfl,_,rfl,sz1,λt ht=>?_⟩;have tt:=ad ht (.tup [.int (r:Int)]);have sA:=Same.trans tu tt;refine⟨_,rfl,m,t,lt,ls,k,W,[r],l,rfl,⟨ma.mono sA,SqT.of ae,λr' hr'=>(by rw[cE.mp hr'];exact hrk),(by show 1<=400;decide),hlt.same sA,hl,n300,by lia⟩,λp ns xs G1 s1 h1 mp gp hx=>?_⟩;have s01:=Same.trans sA s1;have pu:p≠u:=λe=>(by subst e;rw[tt _ _ ae]at h1;cases h1);have gu1:=(Same.trans tt s1) _ _ (show upd H u (.lst []) u=some (.lst [])from ae);have xl:xs.length=(goL ns ls k ls.length).length:=(by rw[hx.length,aG]);have gl:=Ep ns ls k ls.length;have each:∀x∈goL ns ls k ls.length,(x.2.map λr=>(x.1,r)).length<=10:=λx hx=>by
  obtain⟨j,_,_,e,_⟩:=Bj hx;rw[aG,e];have:=vo ns k j;lia
 have each':∀i,((goL ns ls k ls.length).take i |>.flatMap λx=>x.2.map λr=>(x.1,r)).length<=i * 10:=λi=>by
  refine bK (n9 (c:=10) λx hx=>each x (nP hx)) ?_;rw[cQ];exact sI _ (Nat.min_le_left _ _)
 have start:Same G1 (upd G1 u (.lst [])):=λb o e=>by
  by_cases h:b=u
  ·subst h;rw[ae];rw[gu1]at e;exact e
  ·rw[al h];exact e
 refine⟨p,rfl,⟨_,SqL.of gp⟩,gq (K:=K) (a:=p) (xs:=xs) (λi σ G=>∃(zs:List V)(v4 v5:Option V),σ=[some (.ref m),some (.int (r:Int)),some (.ref lt),some (.ref u),v4,v5]/\Same G1 (upd G u (.lst []))/\G u=some (.lst zs)/\Holds K G zs ((((goL ns ls k ls.length).take i).flatMap λx=>x.2.map λr=>(x.1,r)).map vn)) ⟨[],none,none,rfl,start,gu1,.nil⟩ (λi σ G _ h0_=>by obtain⟨_,_,_,_,sG,_⟩:=h0_;exact SqL.of (by have:=sG _ _ gp;rw[al pu]at this;exact this)) ?_ ?_⟩
 ·intro i x σ G hx1 h_1;obtain⟨zs,v4,v5,rfl,sG,gu,hz⟩:=h_1;generalize hE1_:db.mk _ _ _ _=E1_;revert hE1_ E1_;refine id ?_;intro E1_ hE1_;obtain⟨g,eg,hg⟩:=hx.getm hx1;have hi:i < (goL ns ls k ls.length).length:=(aK.mp eg).1;have tG:Tups G1 G:=by
   refine⟨λb ys e=>?_,λb o v e=>?_⟩
   ·have hb:b≠u:=λz=>(by subst z;rw[gu1]at e;cases e);have:=sG _ _ e;rw[al hb]at this;exact this
   ·have hb:b≠u:=λz=>(by subst z;rw[gu1]at e;cases e);have:=sG _ _ e;rw[al hb]at this;exact this
  obtain⟨pp,a,t5,rfl,hpp,ha,ht5⟩:=Er (hg.stay tG (Bf g));have zl:zs.length<=3000:=by
   rw[hz.length,aG];have:=each' i;lia
  refine⟨pp,_,rfl,hpp,rfl,_,_,rfl,_,_,rfl,rfl,?_⟩;refine⟨_,rfl,.inl ⟨rfl,_,SqL.of gu⟩,_,rfl,t5,rfl,⟨_,ht5⟩,λD hD=>?_⟩;have uD:u≠D:=am gu hD;have g2l:g.2.length<=10:=by
   have:=each g (bQ eg);rw[aG]at this;exact this
  refine qf (K:=K) (a:=t5) (xs:=d8 g.2) (λj ys G2=>Same G G2/\G2 D=some (.lst ys)/\Holds K G2 ys (((g.2.take j).map λr=>(g.1,r)).map vn)) ⟨ad hD _,ae,.nil⟩ (λj ys G2 h=>h.2.1) (λj ys G2 _ h=>ht5.same h.1) ?_ ?_
  ·intro j y ys G2 hy h_1;obtain⟨s2,gD,hy2⟩:=h_1;unfold d8 at hy;rw[eK]at hy;obtain⟨rm,er,rfl⟩:=gJ.mp hy;have hj:j < g.2.length:=(aK.mp er).1;have yl:ys.length<=10:=(by rw[hy2.length,aG,aG,cQ];lia);refine⟨bg (by lia),⟨[some _],rfl,rfl⟩,?_⟩;refine⟨_,rfl,_,rfl,sz2,λp3 hp3=>?_⟩;have t3:=ad hp3 (.tup [.ref a,.int (rm:Int)]);have gD3:=t3 _ _ gD;refine⟨gD3,Same.put (Same.trans s2 t3) hD _,ae,?_⟩;have tk:g.2.take (j+1)=g.2.take j++[rm]:=(by rw[dJ,er];rfl);rw[tk,aZ,aZ];have tps:=(Tups.of t3).trans (Tups.put gD3 (.lst (ys++[.ref p3])));refine(hy2.stay tps (by rw[jF];exact bw (λ_=>xu _) _)).append (.one (Pl (SqT.of ?_) ((ha.same s2).tups tps)));rw[al (iw ae gD3 (by intro z;cases z)),ae]
  ·intro ys G2 h_1;obtain⟨s2,gD,hy2⟩:=h_1;unfold d8 at hy2;rw[aG,dZ]at hy2;have yl:ys.length<=10:=(by rw[hy2.length,aG,aG];exact g2l);have gu2:=s2 _ _ gu;refine⟨u,D,zs,ys,rfl,rfl,gu2,gD,iE (jU (show zs.length+ys.length<=4000 by lia) (by decide)),?_⟩;subst hE1_;refine⟨_,_,_,rfl,?_,ae,?_⟩
   ·intro b o e;by_cases h:b=u
    ·subst h;rw[ae];rw[gu1]at e;exact e
    ·have:=sG _ _ e;rw[al h]at this;rw[al h,al h];exact s2 _ _ this
   ·have tk:(goL ns ls k ls.length).take (i+1)=(goL ns ls k ls.length).take i++[g]:=(by rw[dJ,eg];rfl);rw[tk,iR,aZ];have tps:=Tups.put gu2 (.lst (zs++ys));refine(hz.stay ((Tups.of s2).trans tps) (bw xu _)).append (Holds.stay tps (bw xu _) ?_);simpa using hy2
 ·intro σ G h_1;obtain⟨zs,v4,v5,rfl,sG,gu,hz⟩:=h_1;rw[xl,dZ]at hz;refine⟨_,rfl,q u ns zs G ?_ hu ⟨mp.1,λc mk e=>(mp.2 c mk e).iff λj _=>⟨λh0_=>by obtain⟨r',z1,z2⟩:=h0_;exact by rw[cE.mp z1]at z2;exact z2,λz=>⟨r,cE.mpr rfl,z⟩⟩⟩ gu hz⟩;intro b o e;have hb:b≠u:=am e hu;have:=sG _ _ (s01 _ _ e);rw[al hb]at this;exact this
end
end S25
namespace S25
open PySem L2 Bits S1 Fly
def Jp (H H':Hp):Prop:=∀b xs,H b=some (.lst xs)->H' b=some (.lst xs)
theorem RelAt.lsts {H H':Hp}{n:Nat}{R:Rl}{x:V}(e:Jp H H')(h:RelAt H n R x):RelAt H' n R x:=by
 obtain⟨a,ns,rfl,g,r⟩:=h;exact⟨a,ns,rfl,e _ _ g,r⟩
theorem RowAt.lsts {H H':Hp}{n k:Nat}{W:Nat->Rl}{x:V}(e:Jp H H')(h:RowAt H n k W x):RowAt H' n k W x:=by
 obtain⟨a,xs,rfl,g,r⟩:=h;exact⟨a,xs,rfl,e _ _ g,r.imp λ_ _ _ z=>z.lsts e⟩
theorem WaysAt.lsts {H H':Hp}{n k:Nat}{W:Nat->Nat->Rl}{x:V}(e:Jp H H')(h:WaysAt H n k W x):WaysAt H' n k W x:=by
 obtain⟨a,xs,rfl,g,r⟩:=h;exact⟨a,xs,rfl,e _ _ g,r.imp λ_ _ _ z=>z.lsts e⟩
section
variable {P:aS}{w:bZ}{K:aA}{mg:Str->Option aB}{base:Heap}{C cF cV cT cR:Addr}
theorem Vx:ar ["self","speech","saying","letters"] ["self","speech","saying"] (aj Ds):=fsN
theorem Pm {f fM fR:Addr}{fd dM dR:cC}(F:Fun K "__init__" "Machine.__init__" Ds f fd)
  (GM:FnOk P w K mg base (CXx P w) 6 fM dM ["speech","saying"] (Ix K cF cV cT)) (bM:Binds K dM ["speech","saying"] []) (kM:aU K (.ref fM)=true) (mM:mg "must_saying"=some (.ref fM))
  (hL:Has P w K mg base 2 "letters_of" ["speech"] (Bz K)) (hW:Has P w K mg base 7 "ways_of" ["speech","letters","saying"] (L5 K))
  (GR:FnOk P w K mg base CX0 1 fR dR ["self","letters","ways"] (Vv C)) (bR:Binds K dR ["self","letters","ways"] []) (cm:Vu K cR "__init__" fR) (mR:mg "Runs"=some (.ref cR)) :
  FnOk P w K mg base (CXx P w) 8 f fd ["self","speech","saying"] (Vw K C cF cV cT):=by
 obtain⟨fL,dL,GL,bL,kL,mL⟩:=hL;obtain⟨fW,dW,GW,bW,kW,mW⟩:=hW;refine F.okX Vx (λvs H Q E h=>?_) (λcdv A outer s H vs Q E hr h=>?_)
 ·obtain⟨m,dx,sp,ws,x,sy,rfl,_⟩:=h;rfl
 obtain⟨m,dx,sp,ws,x,sy,rfl,hm,hsp,sok,hx,h500,n300,q1,q2⟩:=h;refine⟨_,ah (bx (ao GM (hr.mono (by decide)) rfl mM kM bM .nil jq (ac (pv 1) (ac (pv 2) af)))) (ah (ax (i:=3) Vx.nd rfl (bV rfl) (ao GL (hr.mono (by decide)) rfl mL kL bL .nil az (ac (pv 1) af))) (ai (bx (Pf cm GR (hr.mono (by decide)) rfl mR bR .nil az (ac (pv 0) (ac (pv 3) (ac (ao GW hr rfl mW kW bW .nil az (ac (pv 1) (ac (pv 3) (ac (pv 2) af)))) af))))))),?_⟩;refine⟨_,rfl,_,rfl,sp,x,ws,sy,rfl,hsp,hx,h500,λdu G1 s1=>?_,q2⟩;refine⟨_,rfl,sp,ws,rfl,hsp.mono s1,sok,λr G2 s2 h2 la=>?_⟩;have s12:=Same.trans s1 s2;refine⟨_,rfl,_,rfl,_,rfl,_,rfl,_,rfl,sp,r,ws,x,sy,rfl,⟨hsp.mono s12,la,sok⟩,hx.mono s12,du,h500,n300,λy G3 s3 wy=>?_⟩;have s13:=Same.trans s12 s3;have gm:=s13 _ _ hm;refine⟨m,dx,.ref r,y,rfl,gm,q1 du _ ?_ ?_⟩
 ·intro b o e;have hb:b≠m:=λz=>(by subst z;unfold bv at e;rw[if_pos rfl]at e;cases e);rw[al hb];exact s13 _ _ (hide_le _ _ e)
 ·have nm:∀{b:Addr}{o:HO},G3 b=some o->(∀fs,o≠.ins C dx fs)->b≠m:=λ{b o} e n z=>(by subst z;rw[gm]at e;cases e;exact n _ rfl);have tp:Tups G3 (upd G3 m (.ins C dx [("letters",.ref r),("ways",y)])):=⟨λb xs e=>by rw[al (nm e (λ_ z=>nomatch z))];exact e,λb o u e=>by rw[al (nm e (λ_ z=>nomatch z))];exact e⟩;have lp:Jp G3 (upd G3 m (.ins C dx [("letters",.ref r),("ways",y)])):=λb xs e=>(by rw[al (nm e (λ_ z=>nomatch z))];exact e);obtain⟨xs,gx,hxs⟩:=la;exact⟨dx,r,y,ae,⟨xs,lp _ _ (s3 _ _ gx),(hxs.mono s3).stay tp (bw gz _)⟩,wy.lsts lp⟩
end
end S25
namespace PySem
namespace Deep
abbrev I2:=Sum Int (List Int)
section
variable (prog:aS)(w:bZ)
def sx (h:Heap):I2->aB->Prop
 | .inl i,v=>(lX prog w).is i v=true
 | .inr l,v=>∃b,v=.ref b/\sQ (lX prog w) h l b
def kh:I2->Int
 | .inl i=>(lX prog w).hash i
 | .inr l=>tupleKeyHash (lX prog w) l
def vq:I2->Nat
 | .inl _=>1
 | .inr l=>l.length+1
def ItemsR (h:Heap):List I2->List aB->Prop
 | [],[]=>True
 |k::ks,v::vs=>sx prog w h k v/\ItemsR h ks vs
 |_,_=>False
def IsDeep (h:Heap)(ks:List I2)(a:Addr):Prop:=∃o its n,h.get? a=some o/\o.cls=.type "tuple"/\o.data=.seq its n/\ItemsR prog w h ks its.toList
def fh (ks:List I2):Int:=wF (iD (ks.map (kh prog w)))
def uq:List I2->Nat
 | []=>0
 |k::ks=>vq k+uq ks
end
theorem L9 (ks:List I2)(k:I2):uq (ks++[k])=uq ks+vq k:=by
 induction ks with
 |nil=>simp[uq]
 |cons x xs ih=>rw[List.cons_append,uq,uq,ih,rC]
section
variable {prog:aS}{w:bZ}{A:cW}{E:aB->aI->Prop}{s:aI}
theorem Pn {h:Heap}{v:aB}{x y:I2}(hx:sx prog w h x v)(hy:sx prog w h y v):x=y:=by
 cases x with
 |inl i=>cases y with
  |inl j=>rw[(lX prog w).inj _ _ _ hx hy]
  |inr l=>
   obtain⟨b,rfl,_⟩:=hy;exact absurd hx (by show ¬mK i (.ref b)=true;simp[mK])
 |inr l=>cases y with
  |inl j=>
   obtain⟨b,rfl,_⟩:=hx;exact absurd hy (by show ¬mK j (.ref b)=true;simp[mK])
  |inr m=>
   obtain⟨b,rfl,k1⟩:=hx;obtain⟨c,e,k2⟩:=hy;cases e;rw[k1.inj k2]
theorem ItemsR.inj {h:Heap}:∀{vs:List aB}{x y:List I2},ItemsR prog w h x vs->ItemsR prog w h y vs->x=y
 | [],[],[],_,_=>rfl
 | [],[],_::_,_,q=>q.elim
 | [],_::_,_,q,_=>q.elim
 |_::_,[],_,q,_=>q.elim
 |_::_,_::_,[],_,q=>q.elim
 |_::vs,_::xs,_::ys,hx,hy=>by rw[Pn hx.1 hy.1,ItemsR.inj (vs:=vs) hx.2 hy.2]
theorem ItemsR.length {h:Heap}:∀{vs:List aB}{x:List I2},ItemsR prog w h x vs->x.length=vs.length
 | [],[],_=>rfl
 | [],_::_,q=>q.elim
 |_::_,[],q=>q.elim
 |_::vs,_::xs,hx=>by rw[dX,dX,ItemsR.length (vs:=vs) hx.2]
theorem ItemsR.imp {h h':Heap}(f:∀l b,sQ (lX prog w) h l b->sQ (lX prog w) h' l b):∀{vs:List aB}{x:List I2},ItemsR prog w h x vs->ItemsR prog w h' x vs
 | [],[],_=>trivial
 | [],_::_,q=>q.elim
 |_::_,[],q=>q.elim
 |_::vs,k::xs,hx=>⟨by
     cases k with
     |inl i=>exact hx.1
     |inr l=>obtain⟨b,e,k1⟩:=hx.1;exact⟨b,e,f _ _ k1⟩,ItemsR.imp f (vs:=vs) hx.2⟩
theorem IsDeep.typeIs {ks:List I2}{a:Addr}(x:IsDeep prog w s.heap ks a):s.TypeIs (.ref a) "tuple":=by
 obtain⟨o,_,_,e,c,_⟩:=x;exact⟨o,e,c⟩
theorem IsDeep.inj {h:Heap}{a:Addr}{x y:List I2}(hx:IsDeep prog w h x a)(hy:IsDeep prog w h y a):x=y:=by
 obtain⟨o,i1,n1,e1,_,d1,r1⟩:=hx;obtain⟨o2,i2,n2,e2,_,d2,r2⟩:=hy;rw[e1]at e2;cases e2;rw[d1]at d2;cases d2;exact r1.inj r2
theorem IsDeep.keeps {h h':Heap}{ks:List I2}{a d:Addr}{o:Obj}{es ep}(x:IsDeep prog w h ks a)(ho:h.get? d=some o)(hd:o.data=.dict es ep)(hs:gI d h h'):IsDeep prog w h' ks a:=by
 obtain⟨o2,its,n,e2,c2,d2,r⟩:=x;have ne:a≠d:=λz=>by
  subst z;rw[ho]at e2;cases e2;rw[hd]at d2;cases d2
 exact⟨o2,its,n,(hs.2 a ne).trans e2,c2,d2,r.imp λl b k=>k.keeps ho hd hs⟩
theorem Ma {i:Int}{v:aB}(h:(lX prog w).is i v=true):∃t,v=.int i t:=Value.isInt_shape (k:=i) (v:=v) h
theorem Mb {l:List Int}{b:Addr}{h:Heap}(k:sQ (lX prog w) h l b):∃its,h.IsTuple b its:=by
 obtain⟨o,its,n,e,c,d,_⟩:=k;exact⟨its,o,e,c,n,d⟩
theorem Mc {k:I2}{v:aB}{Q:Int->aI->Prop}(hu:A.units < iJ)(hk:sx prog w s.heap k v)(h:Q (kh prog w k) { s with toks:=s.toks+vq k }):aM (aX prog w) A (pyHash v) Q E s:=by
 cases k with
 |inl i=>exact(lX prog w).pyHash hk h
 |inr l=>
  obtain⟨b,rfl,k1⟩:=hk;exact wpAny_pyHash_tuple hu k1 h
theorem Th {x y:I2}{u v:aB}{Q:Bool->aI->Prop}(hu:A.units+1 < iJ)(hx:sx prog w s.heap x u)(hy:sx prog w s.heap y v)(h:Q (decide (x=y)) s):aM (aX prog w) A (eqBool u v) Q E s:=by
 cases x with
 |inl i=>cases y with
  |inl j=>
   refine(lX prog w).eqBool hx hy ?_;have e:decide ((Sum.inl i:I2)=Sum.inl j)=decide (i=j):=(by rw[decide_eq_decide];exact⟨λz=>Sum.inl.inj z,λz=>by rw[z]⟩);rw[<-e];exact h
  |inr l=>
   obtain⟨b,rfl,k1⟩:=hy;obtain⟨t,rfl⟩:=Ma hx;have e:decide ((Sum.inl i:I2)=Sum.inr l)=false:=decide_eq_false (λz=>nomatch z);rw[e]at h;obtain⟨its,k2⟩:=Mb k1;exact SeqAt.EqAt.int_tuple i t k2 (uE hu) prog w E Q h
 |inr l=>cases y with
  |inl j=>
   obtain⟨b,rfl,k1⟩:=hx;obtain⟨t,rfl⟩:=Ma hy;have e:decide ((Sum.inr l:I2)=Sum.inl j)=false:=decide_eq_false (λz=>nomatch z);rw[e]at h;obtain⟨its,k2⟩:=Mb k1;exact SeqAt.EqAt.tuple_int j t k2 (uE hu) prog w E Q h
  |inr m=>
   obtain⟨b,rfl,k1⟩:=hx;obtain⟨c,rfl,k2⟩:=hy;refine wpAny_eqBool_tuple (uE hu) k1 k2 ?_;have e:decide ((Sum.inr l:I2)=Sum.inr m)=decide (l=m):=(by rw[decide_eq_decide];exact⟨λz=>Sum.inr.inj z,λz=>by rw[z]⟩);rw[<-e];exact h
theorem Md {ks:List I2}{a:Addr}{Q:Int->aI->Prop}(hu:A.units+2 < iJ)(hk:IsDeep prog w s.heap ks a)(h:Q (fh prog w ks) { s with toks:=s.toks+(uq ks+1) }):aM (aX prog w) A (pyHash (.ref a)) Q E s:=by
 have ty:=hk.typeIs;obtain⟨o,its,n,e1,_,d1,r1⟩:=hk;unfold pyHash
 first | unfold pyHashByItsType | skip
 first | refine aC (wpAny_cRoomFor_or (.inr (by omega)) ?_) | skip
 refine aC (lR ty F.slot_tuple_hash.lookup ?_);show aM _ _ (if (some (iL "tuple.__hash__") == some iS)=true then _ else _) Q E s
 rw[if_neg (by rw[beq_builtin_none];exact cU)];refine aC (lR ty F.slot_tuple_hash.lookup ?_);show aM _ _ (callSpecialIfBoundUnlessNone? (.ref a) "__hash__" _ >>= _) Q E s;refine aC (wpAny_callSpecialIfBoundUnlessNone?_slot ty F.slot_tuple_hash (iI F.slot_tuple_hash ty F.entry_tuple_hash ?_ (F.args_tuple_hash_1 _)));show aM _ _ (pJ (.ref a) >>= _) _ _ s;refine aC (tU e1 d1 ?_);refine aC ?_;rw[<-qK];refine nY _ (λrest (b:Array Int) s'=>∃pre left,ks=pre++left/\ItemsR prog w s.heap left rest/\b.toList=pre.map (kh prog w)/\s'={ s with toks:=s.toks+uq pre }) _ ?_ ?_ _ _ ⟨[],ks,rfl,r1,rfl,rfl⟩
 ·intro x rest b s' h_1;obtain⟨pre,left,rfl,hl,hb,rfl⟩:=h_1;cases left with
  |nil=>exact hl.elim
  |cons k left=>
   refine aC (Mc (by show A.units+1 < iJ;omega) hl.1 ?_);exact wpAny_pure ⟨pre++[k],left,by simp,hl.2,by simp[hb],by rw[L9,rC]⟩
 ·intro b s' h_1;obtain⟨pre,left,rfl,hl,hb,rfl⟩:=h_1;cases left with
  |cons k left=>exact hl.elim
  |nil=>
   rw[iM]at h;show aM _ _ (retInt (iD b.toList)) _ _ _;rw[hb];refine wpAny_ret_mkInt ?_;show aM _ _ (if (decide (-(2:Int) ^ 63<=iD (pre.map (kh prog w))) && decide (iD (pre.map (kh prog w)) < 2 ^ 63))=true then _ else _) Q E _
   unfold fh wF at h;by_cases c:(decide (-(2:Int) ^ 63<=iD (pre.map (kh prog w))) && decide (iD (pre.map (kh prog w)) < 2 ^ 63))=true
   ·rw[if_pos c]at h ⊢;exact wpAny_pure (by simpa[rC]using h)
   ·rw[if_neg c]at h ⊢;exact aC (pE (wpAny_pure (by simpa[rC]using h)))
theorem Ti {x y:List I2}{a b:Addr}{P:Fin->aI->Prop}(hu:A.units+1 < iJ)(hx:IsDeep prog w s.heap x a)(hy:IsDeep prog w s.heap y b)(h:P (.done (.ret (.bool (decide (x=y))))) s) :
  aM (aX prog w) A (jA.«tuple.__eq__» ⟨[.ref a,.ref b],[]⟩) P E s:=by
 have ty:=hy.typeIs;obtain⟨o1,i1,n1,e1,_,d1,r1⟩:=hx;obtain⟨o2,i2,n2,e2,_,d2,r2⟩:=hy;show aM _ _ (sC (.ref b) (.type "tuple") >>= _) _ _ s;refine aC (lZ ty rQ ?_);simp only[oG,gW,if_false];refine aC (tU e1 d1 ?_);refine aC (tU e2 d2 ?_);refine aC ?_;refine nY _ (λrest r s'=>r.1=none/\s'=s/\∃x' y' u' v',rest=List.zip u' v'/\ItemsR prog w s.heap x' u'/\ItemsR prog w s.heap y' v'/\(x'=y'↔x=y)/\(u'.length=v'.length↔i1.size=i2.size)) _ ?_ ?_ _ _
  ⟨rfl,rfl,x,y,i1.toList,i2.toList,rfl,r1,r2,Iff.rfl,by simp⟩
 ·intro h_1 rest r s' h_2;obtain⟨p,q⟩:=h_1;obtain⟨hr,rfl,x',y',u',v',hz,hx',hy',hd,hl⟩:=h_2;cases u' with
  |nil=>simp at hz
  |cons u u'=>
   cases v' with
   |nil=>simp at hz
   |cons v v'=>
    simp only[List.zip_cons_cons,List.cons.injEq,Prod.mk.injEq]at hz;obtain⟨⟨rfl,rfl⟩,rfl⟩:=hz;cases x' with
    |nil=>exact hx'.elim
    |cons k1 x'=>
     cases y' with
     |nil=>exact hy'.elim
     |cons k2 y'=>
      refine aC (Th hu hx'.1 hy'.1 ?_);by_cases c:k1=k2
      ·subst c;rw[decide_eq_true rfl];simp only[oG,gW,if_false];exact wpAny_pure ⟨rfl,rfl,x',y',u',v',rfl,hx'.2,hy'.2,by rw[<-hd];simp,by rw[<-hl];simp⟩
      ·rw[decide_eq_false c];simp only[Bool.not_false,if_true];have hf:decide (x=y)=false:=decide_eq_false λz=>c (oF (hd.mpr z)).1;rw[hf]at h;exact aC (wpAny_pure (wpAny_pure (wpAny_pure h)))
 ·intro h_1 s' h_2;obtain⟨c1,c2⟩:=h_1;obtain⟨hr,rfl,x',y',u',v',hz,hx',hy',hd,hl⟩:=h_2;simp only at hr;subst hr;refine wpAny_pure ?_;have fin:(i1.size == i2.size)=decide (x=y):=by
   have l1:=hx'.length;have l2:=hy'.length;cases u' with
   |nil=>
    have ex:x'=[]:=gM.mp l1;subst ex;cases v' with
    |nil=>
     have ey:y'=[]:=gM.mp l2;subst ey;rw[decide_eq_true (hd.mp rfl),beq_iff_eq];exact hl.mp rfl
    |cons v v'=>
     have ne:¬x=y:=λz=>(by rw[<-hd.mpr z]at l2;simp at l2);rw[decide_eq_false ne,beq_eq_false_iff_ne];intro z;have:=hl.mpr z;simp at this
   |cons u u'=>
    cases v' with
    |nil=>
     have ey:y'=[]:=gM.mp l2;subst ey;have ne:¬x=y:=λz=>(by rw[hd.mpr z]at l1;simp at l1);rw[decide_eq_false ne,beq_eq_false_iff_ne];intro z;have:=hl.mpr z;simp at this
    |cons v v'=>simp at hz
  show P (.done (.ret (.bool (i1.size == i2.size)))) s';rw[fin];exact h
theorem Tj {x y:List I2}{a b:Addr}{Q:Bool->aI->Prop}(hu:A.units+2 < iJ)(hx:IsDeep prog w s.heap x a)(hy:IsDeep prog w s.heap y b)(h:Q (decide (x=y)) s):aM (aX prog w) A (eqBool (.ref a) (.ref b)) Q E s:=by
 unfold eqBool
 try with_reducible refine iK ?_
 show aM _ _ (if (cH a == cH b)=true then _ else _) Q E s
 by_cases c:(cH a == cH b)=true
 ·rw[if_pos c];have e:a=b:=(by have:=eq_of_beq c;injection this);subst e;rw[hx.inj hy]at h;exact aC (pE (wpAny_pure (by simpa using h)))
 ·rw[if_neg c];refine aC (wpAny_richCompare_same_room (op:=.Eq) hx.typeIs hy.typeIs F.slot_tuple_eq (iI F.slot_tuple_eq hx.typeIs F.entry_tuple_eq ?_ (F.args_tuple_eq_2 _ _)) (by omega));exact Ti (by show A.units+1+1 < iJ;omega) hx hy ⟨_,rfl,(λe=>nomatch e),jJ h⟩
theorem Mg {l:List Int}{b:Addr}{n:Nat}{Q:Bool->aI->Prop}(hk:sQ (lX prog w) s.heap l b)(h:Q true s):aM (aX prog w) A (vK (n+1) (.ref b)) Q E s:=by
 have ty:=hk.typeIs;obtain⟨o,its,m,e1,_,d1,r1⟩:=hk;unfold vK;refine aC (lR ty F.slot_tuple_eq.lookup ?_);show aM _ _ (sC (.ref b) (.type "tuple") >>= _) _ _ s;refine aC (lZ ty rQ ?_);simp only[oG,gW,if_false];refine aC (jI e1 d1 (aC ?_));show aM _ _ (forIn its _ _) _ _ s;rw[<-qK];refine nY _ (λrest r s'=>r.1=none/\s'=s/\∀v∈rest,carriedByValue v=true) _ ?_ ?_ _ _ ⟨rfl,rfl,r1.byValue⟩
 ·intro v rest r s' h_1;obtain⟨hr,rfl,all⟩:=h_1;rw[eqIsQuiet_byValue _ (all v eG)];refine aC (wpAny_pure ?_);simp only[oG,gW,if_false];exact wpAny_pure ⟨rfl,rfl,λu q=>all u (cY _ q)⟩
 ·intro h_1 s' h_2;obtain⟨c1,c2⟩:=h_1;obtain⟨hr,rfl,_⟩:=h_2;simp only at hr;subst hr;exact wpAny_pure h
theorem Jq {ks:List I2}{a:Addr}{Q:Bool->aI->Prop}(hk:IsDeep prog w s.heap ks a)(h:Q true s):aM (aX prog w) A (vK 8 (.ref a)) Q E s:=by
 have ty:=hk.typeIs;obtain⟨o,its,m,e1,_,d1,r1⟩:=hk;unfold vK;refine aC (lR ty F.slot_tuple_eq.lookup ?_);show aM _ _ (sC (.ref a) (.type "tuple") >>= _) _ _ s;refine aC (lZ ty rQ ?_);simp only[oG,gW,if_false];refine aC (jI e1 d1 (aC ?_));show aM _ _ (forIn its _ _) _ _ s;rw[<-qK];refine nY _ (λrest r s'=>r.1=none/\s'=s/\∃left,ItemsR prog w s.heap left rest) _ ?_ ?_ _ _ ⟨rfl,rfl,ks,r1⟩
 ·intro v rest r s' h_1;obtain⟨hr,rfl,left,hl⟩:=h_1;cases left with
  |nil=>exact hl.elim
  |cons k left=>
   have go:∀{R:Bool->aI->Prop},R true s'->aM (aX prog w) A (vK 7 v) R E s':=λ{R} q=>by
    cases k with
    |inl i=>
     rw[eqIsQuiet_byValue _ ((lX prog w).byValue _ _ hl.1)];exact wpAny_pure q
    |inr l=>
     obtain⟨b,rfl,k1⟩:=hl.1;exact Mg k1 q
   refine aC (go ?_);simp only[oG,gW,if_false];exact wpAny_pure ⟨rfl,rfl,left,hl.2⟩
 ·intro h_1 s' h_2;obtain⟨c1,c2⟩:=h_1;obtain⟨hr,rfl,_⟩:=h_2;simp only at hr;subst hr;exact wpAny_pure h
end
def cv (prog:aS)(w:bZ):HeapKind prog w (List I2) where
 is:=IsDeep prog w
 hash:=fh prog w
 draws:=λks=>uq ks+1
 room:=λA=>A.units+2 < iJ
 inj:=λhx hy=>hx.inj hy
 keeps:=λx ho hd hs=>x.keeps ho hd hs
 pyHash:=λhu hk h=>Md hu hk h
 eqBool:=λhu hx hy h=>Tj hu hx hy h
 quiet:=λhk h=>Jq hk h
end Deep
end PySem
namespace PySem
namespace Deep
inductive BT where
 |nil
 |node (l:BT) (x:Int) (r:BT)
def BT.ins:BT->Int->Option BT
 | .nil,y=>some (.node .nil y .nil)
 | .node l x r,y=>if y < x then (l.ins y).map (.node · x r)else if x < y then (r.ins y).map (.node l x ·)else none
def BT.toL:BT->List Int
 | .nil=>[]
 | .node l x r=>l.toL++x::r.toL
def BT.build:List Int->BT->Option BT
 | [],t=>some t
 |x::xs,t=>(t.ins x).bind (BT.build xs)
theorem BT.ins_ok:∀{t t':BT}{y:Int},t.ins y=some t'->t.toL.Pairwise (· < ·)->t'.toL.Pairwise (· < ·)/\t'.toL.Perm (y::t.toL)
 | .nil,t',y,h,_=>by
  cases h;exact⟨by simp[BT.toL],by simp[BT.toL]⟩
 | .node l x r,t',y,h,hs=>by
  have hs':(l.toL++x::r.toL).Pairwise (· < ·):=hs;obtain⟨s1,s2,s3⟩:=List.pairwise_append.mp hs';obtain⟨s4,s5⟩:=List.pairwise_cons.mp s2;have h':(if y < x then (l.ins y).map (BT.node · x r)else if x < y then (r.ins y).map (BT.node l x ·)else none)=some t':=h
  by_cases c:y < x
  ·rw[if_pos c]at h';obtain⟨l',e,rfl⟩:=gJ.mp h';obtain⟨q1,q2⟩:=BT.ins_ok e s1;refine⟨List.pairwise_append.mpr ⟨q1,s2,λa ha b hb=>?_⟩,?_⟩
   ·rcases cD.mp (q2.mem_iff.mp ha)with rfl | ha
    ·rcases cD.mp hb with rfl | hb
     ·exact c
     ·exact uW c (s4 b hb)
    ·exact s3 a ha b hb
   ·show(l'.toL++x::r.toL).Perm (y::(l.toL++x::r.toL));exact List.Perm.append_right _ q2
  ·rw[if_neg c]at h';by_cases c2:x < y
   ·rw[if_pos c2]at h';obtain⟨r',e,rfl⟩:=gJ.mp h';obtain⟨q1,q2⟩:=BT.ins_ok e s5;have up:∀b∈r'.toL,x < b:=λb hb=>by
     rcases cD.mp (q2.mem_iff.mp hb)with rfl | hb
     ·exact c2
     ·exact s4 b hb
    refine⟨List.pairwise_append.mpr ⟨s1,List.pairwise_cons.mpr ⟨up,q1⟩,λa ha b hb=>?_⟩,?_⟩
    ·rcases cD.mp hb with rfl | hb
     ·exact s3 a ha b eG
     ·exact uW (s3 a ha x eG) (up b hb)
    ·show(l.toL++x::r'.toL).Perm (y::(l.toL++x::r.toL));refine(rR l.toL (List.Perm.cons x q2)).trans ?_;refine(rR l.toL (List.Perm.swap y x r.toL)).trans ?_;exact List.perm_middle
   ·rw[if_neg c2]at h';cases h'
theorem BT.build_ok:∀{xs:List Int}{t t':BT},BT.build xs t=some t'->t.toL.Pairwise (· < ·)->t'.toL.Pairwise (· < ·)/\t'.toL.Perm (xs++t.toL)
 | [],t,t',h,hs=>by cases h;exact⟨hs,List.Perm.refl _⟩
 |x::xs,t,t',h,hs=>by
  obtain⟨t1,e1,e2⟩:=Option.bind_eq_some_iff.mp (show(t.ins x).bind (BT.build xs)=some t' from h);obtain⟨q1,q2⟩:=BT.ins_ok e1 hs;obtain⟨q3,q4⟩:=BT.build_ok e2 q1;refine⟨q3,q4.trans ?_⟩;refine(rR xs q2).trans ?_;exact List.perm_middle
theorem oa {xs:List Int}(h:(BT.build xs .nil).isSome=true):xs.Nodup:=by
 obtain⟨t,e⟩:=nS.mp h;obtain⟨q1,q2⟩:=BT.build_ok e .nil;have q3:t.toL.Nodup:=q1.imp λh=>Int.ne_of_lt h;have q4:t.toL.Perm xs:=(by simpa[BT.toL]using q2);exact q4.nodup_iff.mp q3
theorem m4 {α β:Type}{f:α->β}:∀{xs:List α},(xs.map f).Nodup->∀a∈xs,∀b∈xs,f a=f b->a=b
 | [],_,a,ha,_,_,_=>by cases ha
 |x::xs,h,a,ha,b,hb,e=>by
  rw[fZ,lB]at h;rcases cD.mp ha with ea | ha'
  ·rcases cD.mp hb with eb | hb'
   ·rw[ea,eb]
   ·rw[ea]at e;exact absurd (eE.mpr ⟨b,hb',e.symm⟩) h.1
  ·rcases cD.mp hb with eb | hb'
   ·rw[eb]at e;exact absurd (eE.mpr ⟨a,ha',e⟩) h.1
   ·exact m4 h.2 a ha' b hb' e
def tf (x:Nat×List Int):Int:=wF (iD [hashInt (x.1:Int),wF (iD (x.2.map hashInt))])
def box (n:Nat):List (Nat×List Int):=(fK 6).flatMap λr=>(S1.letters (dQ n 6)).map λl=>(r,l)
theorem box1:((box 1).map tf).Nodup:=oa (by decide +kernel)
theorem box2:((box 2).map tf).Nodup:=oa (by decide +kernel)
theorem box3:((box 3).map tf).Nodup:=oa (by decide +kernel)
theorem Es (P:aS)(w:bZ)(r:Nat)(l:List Int):fh P w [.inl (r:Int),.inr l]=tf (r,l):=rfl
theorem Tk {n r:Nat}{l:List Int}(hr:r < 6)(hl:l.length=n)(h6:∀v∈l,0<=v/\v < 6):(r,l)∈box n:=by
 refine List.mem_flatMap.mpr ⟨r,eZ.mpr hr,eE.mpr ⟨l,?_,rfl⟩⟩;rw[S1.letters_mem];refine⟨by rw[hl,gN],λi v e=>?_⟩;have hi:=(aK.mp e).1;refine⟨6,by rw[kX,if_pos (by lia)],?_⟩;exact h6 v (bQ e)
theorem Po {n:Nat}(hn:n=1\/n=2\/n=3){a b:Nat×List Int}(ha:a∈box n)(hb:b∈box n)(e:tf a=tf b):a=b:=by
 rcases hn with rfl | rfl | rfl
 ·exact m4 box1 a ha b hb e
 ·exact m4 box2 a ha b hb e
 ·exact m4 box3 a ha b hb e
end Deep
end PySem
namespace PySem
namespace Deep
theorem Tl:iU (.type "list") "keys"=pure none:=by rw[typeLookup_type,builtinLookup_eq_fast];kernel_rfl
section
variable {prog:aS}{w:bZ}{A:cW}{E:aB->aI->Prop}{s:aI}
theorem Et {a:Addr}{o:Obj}{xs:Array aB}{k:Nat}{Q:Option aB->aI->Prop}(hx:s.heap.get? a=some o)(hc:o.cls=.type "list")(hdat:o.data=.seq xs k)(hd:o.dict=none)(hA:A.handled=none)
  (h:∀h' tk,(∀b q,s.heap.get? b=some q->h'.get? b=some q)->Q none { s with heap:=h',toks:=tk }):aM (aX prog w) A (xM (.ref a) "keys") Q E s:=by
 obtain⟨c,dct,dat,sl⟩:=o;simp only at hc hdat hd;subst hc hdat hd;obtain⟨hp,g,d,tk,os⟩:=s;have hT:∀tk',(⟨hp,g,d,tk',os⟩:aI).TypeIs (.ref a) "list":=λ_=>⟨_,hx,rfl⟩;have f1:=sub_AttributeError;have f3:=F.slot_list_getattribute.lookup;have f4:=F.slot_list_getattribute.bind (.ref a);have f5:=am_list_getattr_none;unfold xM getAttrBy? getAttrBy
 repeat (any_goals (first | assumption | exact hT _ | ((with_reducible show aM _ _ (call (iL "list.__getattribute__") _ _) _ _ _);refine pC F.slot_list_getattribute (hT _) am_entry_list_getattribute (F.args_list_getattribute_2 _ _) (meets_getattribute_miss_list a xs k sl "keys" _ Tl (by decide +kernel) (by decide +kernel)) ⟨hx,hA,λh' tk' e hx'=>?_⟩) | wp_step))
 obtain⟨t',u',he⟩:=hx'.there;show aM _ _ (getattributeRaised _ _ _ _ _ _ _) _ _ _;unfold getattributeRaised
 repeat (any_goals (first | assumption | wp_step))
 exact h _ _ hx'.of.keeps
theorem zp:entryFor table "dict.update.loop"=some jA.«dict.update.loop»:=entryFor_of_tree (by kernel_rfl)
theorem pj:plainId "dict.update.loop"=true:=by decide +kernel
theorem IsDeep.mono {h h':Heap}(f:∀b q,h.get? b=some q->q.cls=.type "tuple"->h'.get? b=some q){ks:List I2}{a:Addr}(x:IsDeep prog w h ks a):IsDeep prog w h' ks a:=by
 obtain⟨o,its,n,e,c,d,r⟩:=x;refine⟨o,its,n,f _ _ e c,c,d,r.imp λl b k=>?_⟩;obtain⟨o2,i2,n2,e2,c2,d2,r2⟩:=k;exact⟨o2,i2,n2,f _ _ e2 c2,c2,d2,r2⟩
def Eu (prog:aS)(w:bZ)(h:Heap)(v:aB)(e:List I2×Addr×aB):Prop:=∃p o n,v=.ref p/\h.get? p=some o/\o.cls=.type "tuple"/\o.data=.seq #[.ref e.2.1,e.2.2] n/\IsDeep prog w h e.1 e.2.1
def m5 (xs ks:List (List I2×Addr×aB)):List (List I2×Addr×aB):=ks.foldl (λacc e=>qO acc e.1 e.2.1 e.2.2) xs
theorem Fh (xs:List (List I2×Addr×aB))(k:List I2)(a:Addr)(v:aB):(qO xs k a v).length<=xs.length+1:=by
 unfold qO
 split
 ·rw[aG];lia
 ·rw[aN];exact aO _
theorem zq:∀(ks xs:List (List I2×Addr×aB)),(m5 xs ks).length<=xs.length+ks.length
 | [],xs=>aO _
 |e::ks,xs=>by
  have h1:=zq ks (qO xs e.1 e.2.1 e.2.2);have h2:=Fh xs e.1 e.2.1 e.2.2;show(m5 (qO xs e.1 e.2.1 e.2.2) ks).length<=_;rw[dX];lia
theorem Gp {α β:Type}{F:α->β->Prop}:∀{xs:List α}{ys:List β},Paired F xs ys->∀{i:Nat}{x:α},xs[i]?=some x->∃y,ys[i]?=some y/\F x y
 |_,_,.nil,i,x,e=>by simp at e
 |_,_,.cons h _,0,x,e=>by simp at e;subst e;exact⟨_,rfl,h⟩
 |_,_,.cons _ t,i+1,x,e=>by simpa using Gp t (i:=i) (x:=x) (by simpa using e)
theorem Jr {R:wO->aI->Prop}{d it l:Addr}{items:Array aB}{h0:Heap}(hh:A.handled=none)(hu:A.units+8 < iJ)(hl:h0.IsList l items)(ld:l≠d)(li:l≠it)(di:d≠it)(hd0:∃o es ep,h0.get? d=some o/\o.cls=.type "dict"/\o.data=.dict es ep)
  (hi0:∃o,h0.get? it=some o/\o.cls=.type "list_iterator") {ks:List (List I2×Addr×aB)}(hp:Paired (Eu prog w h0) items.toList ks) (hz:ks.length<=sizeLine) :
  ∀(n i:Nat)(s:aI),ks.length - i=n->i<=ks.length->(∀b q,b≠d->b≠it->h0.get? b=some q->s.heap.get? b=some q)->s.heap.IsListIter it l i->s.heap.DictOfH (cv prog w) d (m5 [] (ks.take i))->
   (∀h' tk,(∀b q,b≠d->b≠it->s.heap.get? b=some q->h'.get? b=some q)->h'.DictOfH (cv prog w) d (m5 [] ks)->R (.ok (.ret .none)) { s with heap:=h',toks:=tk })->
   nQ (aX prog w) A (.builtin "dict.update.loop" ⟨[.ref d,.ref it,jC i,.none],[]⟩) R s:=by
 have hlen:items.toList.length=ks.length:=Paired.length hp;have tne:∀{b:Addr}{q:Obj},h0.get? b=some q->q.cls=.type "tuple"->b≠d/\b≠it:=λ{b q} e c=>by
  obtain⟨o,_,_,e1,c1,_⟩:=hd0;obtain⟨o2,e2,c2⟩:=hi0;refine⟨λz=>?_,λz=>?_⟩
  ·subst z;rw[e1]at e;cases e;rw[c1]at c;injection c with c;exact absurd c (by decide)
  ·subst z;rw[e2]at e;cases e;rw[c2]at c;injection c with c;exact absurd c (by decide)
 intro n
 induction n with
 |zero=>
  intro i s hn hi keep itr dd hR;have ei:i=ks.length:=(by lia);subst ei;rw[dZ]at dd;have hl':s.heap.IsList l items:=by
   obtain⟨o,e,r⟩:=hl;exact⟨o,keep _ _ ld li e,r⟩
  refine vJ zp ?_;rw[Around.under_plainId pj _];show aM _ A.in1 (mQ (.ref it) >>= _) _ _ s;refine aC (rG hh itr hl' (by rw[<-hlen];simp) λh' eb=>?_);show aM _ A.in1 (Builtin.Dict.addKeywords d [] >>= _) _ _ _;refine aC (wpAny_pure (wpAny_pure (hR h' s.toks (λb q _ hb e=>eb b q hb e) ?_)));obtain⟨o,es,ep,e1,e2,e3,e4,e5,e6⟩:=dd;refine⟨o,es,ep,eb _ _ di e1,e2,e3,e4,λx hx=>?_,e6⟩;refine IsDeep.mono (λb q e c=>eb b q (λz=>?_) e) (e5 x hx);obtain⟨oi,ei,ci,_⟩:=itr;subst z;rw[ei]at e;cases e;rw[ci]at c;injection c with c;exact absurd c (by decide)
 |succ n ih=>
  intro i s hn hi keep itr dd hR;have hlt:i < ks.length:=(by lia);have hl':s.heap.IsList l items:=by
   obtain⟨o,e,r⟩:=hl;exact⟨o,keep _ _ ld li e,r⟩
  have hx:items.toList[i]?=some (items.toList[i]'(by lia)):=aL (by lia);obtain⟨e,ee,p,op,np,ev,ep1,ep2,ep3,dk⟩:=Gp hp hx;refine vJ zp ?_;rw[Around.under_plainId pj _];show aM _ A.in1 (mQ (.ref it) >>= _) _ _ s;refine aC (qX itr hl' (x:=.ref p) (by rw[<-Array.getElem?_toList,hx,ev]) λh1 itr1 sb=>?_);have keep1:∀b q,b≠d->b≠it->h0.get? b=some q->h1.get? b=some q:=λb q h2 h3 e=>(sb.2 b h3).trans (keep b q h2 h3 e);have tk1:∀b q,h0.get? b=some q->q.cls=.type "tuple"->h1.get? b=some q:=λb q e c=>keep1 b q (tne e c).1 (tne e c).2 e;have gp:=tk1 _ _ ep1 ep2;have dk1:=IsDeep.mono tk1 dk;have dd1:h1.DictOfH (cv prog w) d (m5 [] (ks.take i)):=by
   obtain⟨o,es,ep,e1,e2,e3,e4,e5,e6⟩:=dd;refine⟨o,es,ep,(sb.2 d di).trans e1,e2,e3,e4,λx hx=>?_,e6⟩;refine IsDeep.mono (λb q e c=>(sb.2 b (λz=>?_)).trans e) (e5 x hx);obtain⟨oi,ei,ci,_⟩:=itr;subst z;rw[ei]at e;cases e;rw[ci]at c;injection c with c;exact absurd c (by decide)
  have hTp:({ s with heap:=h1 }:aI).TypeIs (.ref p) "tuple":=⟨op,gp,ep2⟩;show aM _ A.in1 (oU [cH p] _ >>= _) _ _ _;refine aC (iK (aC (wpAny_tryCatch ?_)));unfold Builtin.Dict.pairItems;refine aC (qD hTp ?_);rw[if_pos (by decide)];refine aC (jI (s:={ s with heap:=h1 }) gp ep3 (wpAny_pure ?_));show aM _ A.in1 (oU [cH e.2.1,e.2.2] (dictSet d (.ref e.2.1) e.2.2)) _ _ _;have hsz:(m5 [] (ks.take i)).length<=sizeLine:=by
   have:=zq (ks.take i) [];rw[lS,cQ]at this;lia
  refine iK (wpAny_dictSet_heap (knd:=cv prog w) (hsz:=hsz) (by show A.units+1+2 < iJ;lia) dk1 dd1 λh2 dd2 sb2=>?_);have tk:ks.take (i+1)=ks.take i++[e]:=(by rw[dJ,ee];rfl);refine wpAny_pure ⟨plainId_quiet pj _,?_⟩;have ei:((i:Int))+1=((i+1:Nat):Int):=(by lia);show nQ _ _ (.builtin "dict.update.loop" ⟨[.ref d,.ref it,jC ((i:Int)+1),.none],[]⟩) _ _;rw[ei];refine ih (i+1) _ (by lia) hlt (λb q h3 h4 e=>(sb2.2 b h3).trans (keep1 b q h3 h4 e)) ?_ ?_ λh' tkn kp dd'=>hR h' tkn (λb q h3 h4 e=>kp b q h3 h4 ((sb2.2 b h3).trans ((sb.2 b h4).trans e))) dd'
  ·obtain⟨oi,ei,r⟩:=itr1;exact⟨oi,(sb2.2 it (gH di)).trans ei,r⟩
  ·rw[tk];unfold m5;rw[List.foldl_append];exact dd2
end
end Deep
end PySem
namespace PySem
namespace Deep
section
variable {prog:aS}{w:bZ}{A:cW}{E:aB->aI->Prop}{s:aI}
theorem zt {α β:Type}{F G:α->β->Prop}:∀{xs:List α}{ys:List β},Paired F xs ys->(∀x y,F x y->G x y)->Paired G xs ys
 |_,_,.nil,_=>.nil
 |_,_,.cons h t,f=>.cons (f _ _ h) (zt t f)
theorem Js {l:Addr}{items:Array aB}{k:Nat}{Q:aB->aI->Prop}(hl:s.heap.get? l=some { cls:=.type "list",data:=.seq items k }){ks:List (List I2×Addr×aB)}(hp:Paired (Eu prog w s.heap) items.toList ks)(hz:ks.length<=sizeLine)
  (hh:A.handled=none) (hu:A.units+16 < iJ)
  (h:∀h' tk,(∀b q,s.heap.get? b=some q->h'.get? b=some q)->h'.DictOfH (cv prog w) s.heap.objs.size (m5 [] ks)->Q (.ref s.heap.objs.size) { s with heap:=h',toks:=tk }) :
  aM (aX prog w) A (call (.type "dict") [.ref l]) Q E s:=by
 refine callType_codes (Q₁:=λobj s₁=>obj=.ref s.heap.objs.size/\s₁={ s with heap:=s.heap.push { cls:=.type "dict",data:=.dict #[] } }) F.kt_called_dict (F.kt_typeCall_dict_1 _) F.entry_dict_init (kt_code_dict_new _ ⟨rfl,rfl⟩) ?_;intro obj s₁ h_1;obtain⟨rfl,rfl⟩:=h_1;have hnew:(s.heap.push { cls:=.type "dict",data:=.dict #[] }).DictOfH (cv prog w) s.heap.objs.size []:=Heap.DictOfH.new s.heap;have hlt:l < s.heap.objs.size:=bX hl;have hl1:(s.heap.push { cls:=.type "dict",data:=.dict #[] }).get? l=some { cls:=.type "list",data:=.seq items k }:=aJ _ hl;have hTl:({ s with heap:=s.heap.push { cls:=.type "dict",data:=.dict #[] } }:aI).TypeIs (.ref l) "list":=⟨_,hl1,rfl⟩;refine⟨hnew.typeIs,F.args_dict_init_2 _ _,?_⟩;unfold jA.«dict.__init__»;refine aC ?_;unfold Builtin.Dict.selfAndRest;refine aC (wpAny_notOrdered_dict hnew.typeIs ?_);show aM _ _ (pure (s.heap.objs.size,[cH l])) _ _ _;refine wpAny_pure ?_;show aM _ _ (oB "dict.__init__" s.heap.objs.size (.ref l) [] .none) _ _ _;unfold oB;refine aC (qD hTl ?_);rw[if_pos (by decide)];refine aC (Et (s:={ s with heap:=s.heap.push { cls:=.type "dict",data:=.dict #[] } }) hl1 rfl rfl rfl hh λh1 tk1 k1=>?_);simp only[Option.isNone_none,if_true];refine aC (pE ?_);have hl2:h1.IsList l items:=⟨_,k1 _ _ hl1,rfl,k,rfl⟩;refine aC (hX hl2 (wpAny_pure ⟨plainId_quiet pj _,?_⟩));have k2:∀b q,(s.heap.push { cls:=.type "dict",data:=.dict #[] }).get? b=some q->(h1.push { cls:=.type "list_iterator",data:=.fields #[.ref l,.int 0 0] }).get? b=some q:=λb q e=>aJ _ (k1 _ _ e);have k0:∀b q,s.heap.get? b=some q->(h1.push { cls:=.type "list_iterator",data:=.fields #[.ref l,.int 0 0] }).get? b=some q:=λb q e=>k2 _ _ (aJ _ e);have dlt:s.heap.objs.size < h1.objs.size:=bX (k1 _ _ (cJ _ rfl));have dd:(h1.push { cls:=.type "list_iterator",data:=.fields #[.ref l,.int 0 0] }).DictOfH (cv prog w) s.heap.objs.size []:=by
  obtain⟨o,es,ep,e1,e2,e3,e4,e5,e6⟩:=hnew;exact⟨o,es,ep,k2 _ _ e1,e2,e3,e4,(λx hx=>by cases hx),e6⟩
 refine Jr (A:=A.in1) (d:=s.heap.objs.size) (it:=h1.objs.size) (l:=l) (items:=items) (h0:=h1.push { cls:=.type "list_iterator",data:=.fields #[.ref l,.int 0 0] }) (ks:=ks) hh (by show A.units+1+8 < iJ;lia) ⟨_,k0 _ _ hl,rfl,k,rfl⟩ (cK hlt) (cK (iZ hlt dlt)) (cK dlt) ?_ ⟨_,cJ _ rfl,rfl⟩ ?_ hz
  ks.length 0 _ rfl (jZ _) (λ_ _ _ _ e=>e) ⟨_,cJ _ rfl,rfl,rfl⟩ dd λh' tk kp dd'=>⟨rfl,h h' tk (λb q e=>kp b q ?_ ?_ (k0 _ _ e)) dd'⟩
 ·obtain⟨o,es,ep,e1,e2,e3,_⟩:=dd;exact⟨o,es,ep,e1,e2.1,e3⟩
 ·refine zt hp λv e h0_=>by obtain⟨p,o,n,h1,h2,h3,h4,h5⟩:=h0_;exact⟨p,o,n,h1,k0 _ _ h2,h3,h4,IsDeep.mono (λb q e _=>k0 b q e) h5⟩
 ·exact cK (bX e)
 ·exact cK (iZ (bX e) dlt)
end
end Deep
end PySem
namespace PySem
namespace Deep
section
variable {prog:aS}{w:bZ}{A:cW}{E:aB->aI->Prop}{s:aI}
theorem zu {α:Type}{f:α->Int}:∀{xs:List α},(xs.map f).Nodup->∀(z:Int),(xs.filter λx=>f x == z).length<=1
 | [],_,_=>by simp
 |x::xs,h,z=>by
  rw[fZ,lB]at h;rw[pH];by_cases e:(f x == z)=true
  ·rw[if_pos e];have e':f x=z:=(by simpa using e);have:(xs.filter λx=>f x == z)=[]:=by
    rw[List.filter_eq_nil_iff];intro y hy c;have c':f y=z:=(by simpa using c);exact h.1 (eE.mpr ⟨y,hy,c'.trans e'.symm⟩)
   rw[this];simp
  ·rw[if_neg e];exact zu h.2 z
theorem Jt {nm:String}{d:Addr}{o:Obj}{es:Array wY}{ep:Nat}{xs:List (List I2×Addr×aB)}{Q:Array wY->aI->Prop}(ho:s.heap.get? d=some o)(hd:o.data=.dict es ep)(he:es.toList=xs.map (qL (cv prog w)))
  (his:∀x∈xs,(cv prog w).is s.heap x.1 x.2.1) (hH:(xs.map λx=>fh prog w x.1).Nodup) (h:Q es s):aM (aX prog w) A (Builtin.Dict.entriesForEmpty nm d) Q E s:=by
 unfold Builtin.Dict.entriesForEmpty;refine aC (qW ho hd (aC ?_));rw[<-qK,he];refine nY _ (λrest _ s'=>s'=s/\∀y∈rest,∃x∈xs,y=qL (cv prog w) x) _ ?_ ?_ _ _ ⟨rfl,λy hy=>by obtain⟨x,hx,e⟩:=eE.mp hy;exact⟨x,hx,e.symm⟩⟩
 ·intro y rest b s' h_1;obtain⟨rfl,all⟩:=h_1;obtain⟨x,hx,rfl⟩:=all y eG;have ty:s'.TypeIs (.ref x.2.1) "tuple":=IsDeep.typeIs (prog:=prog) (w:=w) (his x hx);show aM _ _ (Builtin.Dict.quietEq (.ref x.2.1) >>= _) _ _ _;unfold Builtin.Dict.quietEq;refine aC (aC (lR ty F.slot_tuple_eq.lookup (wpAny_pure ?_)));have hsz:¬(es.filter λy=>y.hash == (qL (cv prog w) x).hash).size > 1:=by
   have e1:(es.filter λy=>y.hash == (qL (cv prog w) x).hash).size=(xs.filter λy=>fh prog w y.1 == fh prog w x.1).length:=by
    rw[<-lV,Array.toList_filter,he,List.filter_map,aG];rfl
   rw[e1];have:=zu hH (fh prog w x.1);omega
  have done:s'=s'/\∀y∈rest,∃x∈xs,y=qL (cv prog w) x:=⟨rfl,λy hy=>all y (cY _ hy)⟩;by_cases c:(!some (iL "tuple.__eq__") == some (iL "object.__eq__"))=true
  ·rw[if_pos c,if_neg hsz];exact wpAny_pure done
  ·rw[if_neg c];exact wpAny_pure done
 ·intro b s' h_1;obtain⟨rfl,_⟩:=h_1;exact wpAny_pure h
theorem Tm (a:Addr):(keyPart (.ref a)).isSome=false:=rfl
theorem Mh {o:Addr}{xs:List (List I2×Addr×aB)}{Q:aB->aI->Prop}(hoS:(o == kK)=false)(ho:s.heap.DictOfH (cv prog w) o xs)(hz:xs.length<=sizeLine)(hH:(xs.map λx=>fh prog w x.1).Nodup)
  (h:∀h',(∀b q,s.heap.get? b=some q->h'.get? b=some q)->h'.DictOfH (cv prog w) s.heap.objs.size xs->Q (.ref s.heap.objs.size) { s with heap:=h' }) :
  aM (aX prog w) A (call (.type "dict") [.ref o]) Q E s:=by
 refine callType_codes (Q₁:=λobj s₁=>obj=.ref s.heap.objs.size/\s₁={ s with heap:=s.heap.push { cls:=.type "dict",data:=.dict #[] } }) F.kt_called_dict (F.kt_typeCall_dict_1 _) F.entry_dict_init (kt_code_dict_new _ ⟨rfl,rfl⟩) ?_;intro obj s₁ h_1;obtain⟨rfl,rfl⟩:=h_1;have hnew:(s.heap.push { cls:=.type "dict",data:=.dict #[] }).DictOfH (cv prog w) s.heap.objs.size []:=Heap.DictOfH.new s.heap;have kp:∀b q,s.heap.get? b=some q->(s.heap.push { cls:=.type "dict",data:=.dict #[] }).get? b=some q:=λb q e=>aJ _ e;obtain⟨oo,es,ep,e1,e2,e3,e4,e5,e6⟩:=ho;have olt:o < s.heap.objs.size:=bX e1;have g1:=kp _ _ e1;have hTo:({ s with heap:=s.heap.push { cls:=.type "dict",data:=.dict #[] } }:aI).TypeIs (.ref o) "dict":=⟨_,g1,e2.1⟩;have is1:∀x∈xs,(cv prog w).is (s.heap.push { cls:=.type "dict",data:=.dict #[] }) x.1 x.2.1:=λx hx=>IsDeep.mono (λb q e _=>kp b q e) (e5 x hx);refine⟨hnew.typeIs,F.args_dict_init_2 _ _,?_⟩;unfold jA.«dict.__init__»;refine aC ?_;unfold Builtin.Dict.selfAndRest;refine aC (wpAny_notOrdered_dict hnew.typeIs ?_);show aM _ _ (pure (s.heap.objs.size,[cH o])) _ _ _;refine wpAny_pure ?_;show aM _ _ (oB "dict.__init__" s.heap.objs.size (.ref o) [] .none) _ _ _;unfold oB;refine aC (qD hTo ?_);rw[if_neg (by decide)];refine aC ?_;unfold Builtin.Dict.merge;refine aC ?_;unfold Builtin.Dict.readDirectly;refine aC (lZ hTo isSubtype_dict_dict ?_);simp only[oG,gW,if_false];refine aC (lR hTo F.slot_dict_iter.lookup (wpAny_pure ?_));simp only[beq_self_eq_true,if_true];refine aC (wpAny_pure ?_);unfold Builtin.Dict.mergeDict;rw[if_neg (by simpa using gT olt)];unfold Builtin.Dict.showsAll;rw[if_neg (by rw[hoS];exact cU)];refine aC (wpAny_pure (aC (qW (s:={ s with heap:=s.heap.push { cls:=.type "dict",data:=.dict #[] } }) g1 e3 ?_)));cases xs with
 |nil=>
  have es0:es=#[]:=by
   have:es.toList=[]:=e4;simpa using this
  subst es0;dsimp only;rw[if_neg (by simp)];refine aC (wpAny_dictEpoch (s:={ s with heap:=s.heap.push { cls:=.type "dict",data:=.dict #[] } }) g1 e3 (aC (qW (s:={ s with heap:=s.heap.push { cls:=.type "dict",data:=.dict #[] } }) g1 e3 (aC ?_))));rw[Std.Legacy.Range.forIn_eq_forIn_range'];simp only[Std.Legacy.Range.size,uY,Nat.add_sub_cancel,Nat.div_one];refine nY _ (λrest _ s'=>rest=[]/\s'={ s with heap:=s.heap.push { cls:=.type "dict",data:=.dict #[] } }) _ ?_ ?_ _ _ ⟨rfl,rfl⟩
  ·intro x rest b s' h_1;obtain⟨z,_⟩:=h_1;cases z
  ·intro b s' h_1;obtain⟨_,rfl⟩:=h_1;exact wpAny_pure (aC (wpAny_pure (wpAny_pure ⟨rfl,h _ kp hnew⟩)))
 |cons x xs=>
  have hf:(decide (es.size<=8) && es.all λe=>(keyPart e.key).isSome)=false:=by
   rw[<-Array.all_toList,e4,fZ,wJ];show(decide (es.size<=8) && ((keyPart (.ref x.2.1)).isSome && _))=false;rw[Tm,Bool.false_and,vU]
  dsimp only;rw[hf,if_pos (by decide)];obtain⟨od,esd,epd,d1,d2,d3,d4,d5,d6⟩:=id hnew;have esd0:esd=#[]:=by
   have:esd.toList=[]:=d4;simpa using this
  subst esd0;refine aC (qW (s:={ s with heap:=s.heap.push { cls:=.type "dict",data:=.dict #[] } }) d1 d3 ?_);rw[if_pos (show((#[]:Array wY).isEmpty=true)from rfl)];refine aC (Jt (s:={ s with heap:=s.heap.push { cls:=.type "dict",data:=.dict #[] } }) g1 e3 e4 is1 hH ?_);have hne:(!es.isEmpty)=true:=by
   have:es.toList.length≠0:=(by rw[e4];simp);rw[lV]at this;simp[Array.isEmpty];intro z;rw[z]at this;exact this rfl
  rw[if_pos hne];have hsz:es.size<=sizeLine+1:=by
   rw[<-lV,e4,aG];omega
  refine aC (wpAny_updateDictKeysTo (s:={ s with heap:=s.heap.push { cls:=.type "dict",data:=.dict #[] } }) d1 d3 ?_ hsz);refine wpAny_pure (aC (wpAny_pure (wpAny_pure ⟨rfl,h _ (λb q e=>?_) ?_⟩)))
  ·have hb:b≠s.heap.objs.size:=cK (bX e);exact((pR (h:=s.heap.push { cls:=.type "dict",data:=.dict #[] }) (a:=s.heap.objs.size) ..).2 b hb).trans (kp _ _ e)
  ·refine⟨_,es,epd+1,jP _ d1 (Obj.isFreed_of_dict (Obj.data_mapDictKeys d3 _)),d2.mapDictKeys _,Obj.data_mapDictKeys d3 _,e4,λy hy=>?_,e6⟩;refine IsDeep.mono (λb q e c=>?_) (is1 y hy);have hb:b≠s.heap.objs.size:=λz=>by
    subst z;rw[d1]at e;cases e;rw[d2.1]at c;injection c with c;exact absurd c (by decide)
   exact((pR (h:=s.heap.push { cls:=.type "dict",data:=.dict #[] }) (a:=s.heap.objs.size) ..).2 b hb).trans e
end
end Deep
end PySem
namespace L2
open PySem PySem.Spec PyProof.Rows PySem.Deep
def KeyAt (K:aA)(H:Hp)(b:Addr)(ks:List I2):Prop:=∃xs,SqT K H b xs/\Paired (λv k=>match k with | Sum.inl i=>v=V.int i | Sum.inr l=>∃c,v=.ref c/\SqT K H c (l.map V.int)) xs ks
abbrev DE:=List (List I2×Addr×V)
def og:(List I2×Addr×V)->(List I2×Addr×aB)->Prop:=λp q=>p.1=q.1/\p.2.1=q.2.1/\RelV p.2.2 q.2.2
def jd (P:aS)(w:bZ)(a:Addr)(kvs:DE):HO:=.ext λh=>∃xs:List (List I2×Addr×aB),Paired og kvs xs/\∃o es ep,h.get? a=some o/\o.ExactDict/\o.data=.dict es ep/\es.toList=xs.map (qL (cv P w))/\(xs.map (·.1)).Nodup
structure DictAt (P:aS)(w:bZ)(K:aA)(H:Hp)(a:Addr)(kvs:DE):Prop where
 at_:H a=some (jd P w a kvs)
 keys:∀e∈kvs,KeyAt K H e.2.1 e.1
 len:kvs.length<=sizeLine
 sys:(a == kK)=false
def atK (kvs:DE)(k:List I2):Option V:=(kvs.find? λe=>decide (e.1=k)).map (·.2.2)
def g0 (kvs:DE)(k:List I2)(b:Addr)(v:V):DE:=if (atK kvs k).isSome=true then kvs.map (λe=>if e.1=k then (e.1,e.2.1,v)else e)else kvs++[(k,b,v)]
def p9 (kvs es:DE):DE:=es.foldl (λacc e=>g0 acc e.1 e.2.1 e.2.2) kvs
theorem Gq {kvs:DE}{xs:List (List I2×Addr×aB)}(r:Paired og kvs xs)(k:List I2):RelO (atK kvs k) ((oR xs k).map (·.2)):=by
 induction r with
 |nil=>exact oJ
 |@cons p q ps qs h t ih=>
  obtain⟨h1,h2,h3⟩:=h;by_cases e:p.1=k
  ·have e':q.1=k:=h1.symm.trans e;have a1:atK (p::ps) k=some p.2.2:=(by simp[atK,e]);have a2:oR (q::qs) k=some q.2:=(by simp[oR,e']);rw[a1,a2];exact h3
  ·have e':¬q.1=k:=λz=>e (h1.trans z);have a1:atK (p::ps) k=atK ps k:=(by simp[atK,e]);have a2:oR (q::qs) k=oR qs k:=(by simp[oR,e']);rw[a1,a2];exact ih
theorem Pp {kvs:DE}{xs:List (List I2×Addr×aB)}(r:Paired og kvs xs)(k:List I2){y:V}{u:aB}(ry:RelV y u):Paired og (kvs.map λe=>if e.1=k then (e.1,e.2.1,y)else e) (xs.map (putAt k u)):=by
 induction r with
 |nil=>exact .nil
 |@cons p q ps qs h t ih=>
  rw[fZ,fZ];refine .cons ?_ ih;obtain⟨h1,h2,h3⟩:=h;unfold putAt;by_cases e:p.1=k
  ·rw[if_pos e,if_pos (h1.symm.trans e)];exact⟨h1,h2,ry⟩
  ·rw[if_neg e,if_neg (λz=>e (h1.trans z))];exact⟨h1,h2,h3⟩
theorem zw {kvs:DE}{xs:List (List I2×Addr×aB)}(r:Paired og kvs xs)(k:List I2)(b:Addr){y:V}{u:aB}(ry:RelV y u):Paired og (g0 kvs k b y) (qO xs k b u):=by
 have e:(atK kvs k).isSome=(oR xs k).isSome:=by
  have:=(Gq r k).isSome_eq
  rwa [oS]at this
 unfold g0 qO;rw[e];by_cases c:(oR xs k).isSome=true
 ·rw[if_pos c,if_pos c];exact Pp r k ry
 ·rw[if_neg c,if_neg c];exact Paired.snoc r ⟨rfl,rfl,ry⟩
theorem Fi {es:DE}{ks:List (List I2×Addr×aB)}(h:Paired og es ks):∀{kvs:DE}{xs:List (List I2×Addr×aB)},Paired og kvs xs->Paired og (p9 kvs es) (m5 xs ks):=by
 induction h with
 |nil=>intro kvs xs r;exact r
 |@cons p q ps qs h t ih=>
  intro kvs xs r;obtain⟨h1,h2,h3⟩:=h;refine ih (kvs:=g0 kvs p.1 p.2.1 p.2.2) (xs:=qO xs q.1 q.2.1 q.2.2) ?_;have:=zw r p.1 p.2.1 h3;rw[h1,h2]at this ⊢;exact this
theorem Ju (kvs:DE)(k:List I2)(b:Addr)(v:V):(g0 kvs k b v).length<=kvs.length+1:=by
 unfold g0
 split
 ·rw[aG];lia
 ·rw[aN];exact aO _
theorem Jv {kvs:DE}{k:List I2}{b:Addr}{v:V}{e:List I2×Addr×V}(h:e∈g0 kvs k b v):(e.1=k/\(e.2.1=b\/∃e'∈kvs,e'.1=k/\e'.2.1=e.2.1))\/e∈kvs:=by
 unfold g0 at h
 split at h
 ·obtain⟨x,hx,rfl⟩:=eE.mp h;by_cases c:x.1=k
  ·rw[if_pos c];exact .inl ⟨c,.inr ⟨x,hx,c,rfl⟩⟩
  ·rw[if_neg c];exact .inr hx
 ·rcases eI.mp h with z | z
  ·exact .inr z
  ·rw[cE.mp z];exact .inl ⟨rfl,.inl rfl⟩
section
variable {X:Cx}{pins:List (Addr×Obj)}{σ:St}{H:Hp}{s:aI}
theorem zx (I:Inv X pins σ H s)(P:aS)(w:bZ):∀{xs:List V}{ks:List I2}{its:List aB},Vals xs its->Paired (λv k=>match k with | Sum.inl i=>v=V.int i | Sum.inr l=>∃c,v=.ref c/\SqT X.K H c (l.map V.int)) xs ks->ItemsR P w s.heap ks its
 |_,_,_,.nil,.nil=>trivial
 |_,_,_,.cons r t,.cons (b:=k) h t2=>by
  refine⟨?_,zx I P w t t2⟩;cases k with
  |inl i=>
   have h':_=V.int i:=h;subst h';obtain⟨tk,rfl⟩:=(show ∃t,_=pZ i t from r);show mK i (.int i tk)=true;simp[mK]
  |inr l=>
   obtain⟨c,rfl,hc⟩:=(show ∃c,_=V.ref c/\SqT X.K H c (l.map V.int)from h);cases r;exact⟨c,rfl,I.key P w hc⟩
theorem Inv.deep (I:Inv X pins σ H s){b:Addr}{ks:List I2}(h:KeyAt X.K H b ks):IsDeep X.prog X.w s.heap ks b:=by
 obtain⟨xs,hx,hp⟩:=h;obtain⟨its,r,p,_⟩:=I.tuple hx;obtain⟨o,h1,h2,n,h3⟩:=p;exact⟨o,its.toArray,n,h1,h2,h3,by simpa using zx I X.prog X.w r hp⟩
theorem Inv.dict (I:Inv X pins σ H s){a:Addr}{kvs:DE}(d:DictAt X.prog X.w X.K H a kvs):∃xs,Paired og kvs xs/\s.heap.DictOfH (cv X.prog X.w) a xs:=by
 obtain⟨⟨xs,r,o,es,ep,e1,e2,e3,e4,e5⟩,_⟩:=(show ObjOk X.prog X.w H s.heap a (jd X.prog X.w a kvs)from I.hok a _ d.at_);refine⟨xs,r,o,es,ep,e1,e2,e3,e4,λx hx=>?_,e5⟩;have all:∀{l:DE}{m:List (List I2×Addr×aB)},Paired og l m->(∀e∈l,KeyAt X.K H e.2.1 e.1)->∀x∈m,IsDeep X.prog X.w s.heap x.1 x.2.1:=by
  intro l m q
  induction q with
  |nil=>intro _ x hx;cases hx
  |@cons p q ps qs h t ih=>
   intro hk x hx;rcases cD.mp hx with rfl | hx
   ·have:=I.deep (hk p eG);rw[h.1,h.2.1]at this;exact this
   ·exact ih (λe he=>hk e (cY _ he)) x hx
 exact all r d.keys x hx
theorem xz {P:aS}{w:bZ}{H':Hp}{h':Heap}{a:Addr}{kvs:DE}{xs:List (List I2×Addr×aB)}(r:Paired og kvs xs)(dd:h'.DictOfH (cv P w) a xs):ObjOk P w H' h' a (jd P w a kvs):=by
 obtain⟨o,es,ep,e1,e2,e3,e4,_,e6⟩:=dd;refine⟨⟨xs,r,o,es,ep,e1,e2,e3,e4,e6⟩,⟨o,e1⟩,λh1 h2 hφ k=>?_⟩;obtain⟨xs',r',o',es',ep',q1,q⟩:=hφ;exact⟨xs',r',o',es',ep',k _ q1,q⟩
def rInD (P:aS)(w:bZ)(K:aA):R2:=λx y H Q=>∃b ks a kvs,x=.ref b/\y=.ref a/\KeyAt K H b ks/\DictAt P w K H a kvs/\Q (.bl (atK kvs ks).isSome) H
theorem Mi {P:aS}{w:bZ}{K:aA}(hP:X.prog=P)(hw:X.w=w)(hK:X.K=K)(hu:X.A.units+8 < iJ):OpR X (kZ .In) (rInD P w K):=by
 subst hP hw hK;intro pins s σ H x y v u Q I rx ry h;obtain⟨b,ks,a,kvs,rfl,rfl,kb,d,q⟩:=h;cases rx;cases ry;obtain⟨xs,r,dd⟩:=I.dict d;refine wpAny_in_heap (knd:=cv X.prog X.w) (by show X.A.units+1+2 < iJ;lia) (I.deep kb) d.sys dd ?_;have e:=(Gq r ks).isSome_eq;rw[oS]at e;rw[<-e];exact⟨.bl _,H,I.tok _,rfl,q⟩
def Xf (P:aS)(w:bZ)(K:aA):V->V->V->Hp->(Hp->Prop)->Prop:=λo i v H Q=>∃a kvs b ks,o=.ref a/\i=.ref b/\DictAt P w K H a kvs/\KeyAt K H b ks/\kvs.length < sizeLine/\Q (upd H a (jd P w a (g0 kvs ks b v)))
theorem Mj {P:aS}{w:bZ}{K:aA}(hP:X.prog=P)(hw:X.w=w)(hK:X.K=K)(hu:X.A.units+8 < iJ):Ng X (Xf P w K):=by
 subst hP hw hK;intro pins s σ H o i v ov iv u Q I ro ri rv h;obtain⟨a,kvs,b,ks,rfl,rfl,d,kb,l,q⟩:=h;cases ro;cases ri;obtain⟨xs,r,dd⟩:=I.dict d;have hz:xs.length<=sizeLine:=(by rw[<-Paired.length r];exact d.len);refine wpAny_setItem_heap (knd:=cv X.prog X.w) (hsz:=hz) (by show X.A.units+1+2 < iJ;lia) (I.deep kb) dd λh' dd' sb=>⟨_,?_,q⟩;have he:∃ob,h'.get? a=some ob:=(by obtain⟨ob,_,_,e,_⟩:=dd';exact⟨ob,e⟩);exact I.write (x:=a) (e:=a) (by rw[d.at_];exact oJ) (.inl rfl) (λb q hb z=>(sb.2 b hb).trans z) he (xz (zw r ks b rv) dd')
def Vy (P:aS)(w:bZ)(K:aA):List V->Hp->VK->Prop:=λxs H Q=>∃l vs es,xs=[.ref l]/\H l=some (.lst vs)/\Paired (λv (e:List I2×Addr×V)=>∃p,v=.ref p/\SqT K H p [.ref e.2.1,e.2.2]/\KeyAt K H e.2.1 e.1) vs es/\
 ∀a,H a=none->(a == kK)=false->Q (.ref a) (upd H a (jd P w a (p9 [] es)))
theorem Jw {P:aS}{w:bZ}{K:aA}(hP:X.prog=P)(hw:X.w=w)(hK:X.K=K)(hc:X.calm=true)(hu:X.A.units+16 < iJ):i9 X (.type "dict") (Vy P w K):=by
 subst hP hw hK;intro pins s σ H xs us Q I rv h;obtain⟨l,vs,es,rfl,hl,hp,q⟩:=h;obtain⟨u,rfl,ru⟩:=jg rv;cases(show u=cH l from ru);obtain⟨its,n,r,e,hz⟩:=I.lst hl;have mk:∀{vs:List V}{its:List aB}{es:DE},Vals vs its->Paired (λv (e:List I2×Addr×V)=>∃p,v=.ref p/\SqT X.K H p [.ref e.2.1,e.2.2]/\KeyAt X.K H e.2.1 e.1) vs es->∃ks,Paired (Eu X.prog X.w s.heap) its ks/\Paired og es ks:=by
  intro vs its es r
  induction r generalizing es with
  |nil=>intro h;cases h;exact⟨[],.nil,.nil⟩
  |@cons v iv vs its rv t ih=>
   intro h;cases h with
   |@cons _ e _ es h t2=>
    obtain⟨p,rfl,hp,hk⟩:=h;obtain⟨ks,p1,p2⟩:=ih t2;obtain⟨pi,rp,tp,_⟩:=I.tuple hp;obtain⟨o,o1,o2,m,o3⟩:=tp;cases rv;obtain⟨y1,y2,rfl,ry1,ry2⟩:=ub rp;cases(show y1=cH e.2.1 from ry1);exact⟨(e.1,e.2.1,y2)::ks,.cons ⟨p,o,m,rfl,o1,o2,o3,I.deep hk⟩ p1,.cons ⟨rfl,rfl,ry2⟩ p2⟩
 obtain⟨ks,p1,p2⟩:=mk r hp;have kl:ks.length<=sizeLine:=by
  have h1:its.length=ks.length:=Paired.length p1;have h2:=r.length;lia
 refine Js (A:=X.A) e (by simpa using p1) kl (I.ok.hd hc) hu λh' tk kp dd=>?_;exact⟨.ref s.heap.objs.size,_,I.laid (t':=tk) (o:=jd X.prog X.w s.heap.objs.size (p9 [] es)) kp (aO _) (xz (Fi p2 .nil) dd),rfl,q _ (I.hok.fresh (aO _)) (beq_eq_false_iff_ne.mpr (gH (cK I.big)))⟩
def Vz (P:aS)(w:bZ)(K:aA):List V->Hp->VK->Prop:=λxs H Q=>∃a kvs,xs=[.ref a]/\DictAt P w K H a kvs/\(kvs.map λe=>fh P w e.1).Nodup/\∀a',H a'=none->(a' == kK)=false->Q (.ref a') (upd H a' (jd P w a' kvs))
theorem Jx {P:aS}{w:bZ}{K:aA}(hP:X.prog=P)(hw:X.w=w)(hK:X.K=K):i9 X (.type "dict") (Vz P w K):=by
 subst hP hw hK;intro pins s σ H xs us Q I rv h;obtain⟨a,kvs,rfl,d,hn,q⟩:=h;obtain⟨u,rfl,ru⟩:=jg rv;cases(show u=cH a from ru);obtain⟨ys,r,dd⟩:=I.dict d;have hz:ys.length<=sizeLine:=(by rw[<-Paired.length r];exact d.len);have hs:(kvs.map λe=>fh X.prog X.w e.1)=ys.map λe=>fh X.prog X.w e.1:=by
  clear hn dd hz q d
  induction r with
  |nil=>rfl
  |cons h t ih=>rw[fZ,fZ,ih,h.1]
 rw[hs]at hn;refine Mh d.sys dd hz hn λh' kp dd'=>?_;exact⟨.ref s.heap.objs.size,_,I.laid (t':=s.toks) (o:=jd X.prog X.w s.heap.objs.size kvs) kp (aO _) (xz r dd'),rfl,q _ (I.hok.fresh (aO _)) (beq_eq_false_iff_ne.mpr (gH (cK I.big)))⟩
end
end L2
namespace L2
open PySem PySem.Spec PyProof.Rows PySem.Deep
def Ev (hi:Int)(n:Nat):It:=⟨λi _=>i < n,λi H x H'=>H'=H/\x=.int (hi - i),λi _=>n<=i⟩
theorem Ml {P:aS}{w:bZ}{K:aA}{tg:Expr}(it:Addr)(lo:Int)(n:Nat):t9 P w K tg (Ev lo n) [it] it (λi h=>vL h it (lo+(i:Nat) * (-1)) ((n:Int) - (i:Nat)) (-1)) where
 mem:=by simp
 obj:=λi h st b hb=>by
  have e:b=it:=(by simpa using hb);subst e;exact⟨_,st,λv z=>by
    have z':tK _=rH v:=z;cases z'⟩
 keep:=λi h h' st k=>k it (by simp) _ st
 item:=by
  intro X hP hw hK hc i pins s σ H E I hf st hg;subst hP hw hK;obtain⟨f0,f1,f2,f3,f4,f5⟩:=hf it (by simp);have W:=Walks.range (prog:=X.prog) (w:=X.w) (I.ok.hd hc) it lo (-1) n;refine W.item i s _ _ hg st λv h' tk hv st' kk=>?_;obtain⟨t,rfl⟩:=hv;have I1:Inv X pins σ H { s with heap:=h',toks:=tk }:=I.turned (λb o hb e=>kk b o (by simpa using hb) e) f0 f1 f3 f4 f5;refine⟨_,rfl,yb (s:={ s with heap:=h',toks:=tk }) (n:="range_iterator") st' rfl rfl (by decide) ⟨.int (lo - i),H,I1,⟨t,?_⟩,⟨rfl,rfl⟩,st',λb hb=>(hf b hb).1⟩⟩;rw[show lo+(i:Int) * (-1)=lo - i by lia]
 done:=by
  intro X hP hw hK hc i pins s σ H E I hf st hg;subst hP hw hK;obtain⟨f0,f1,f2,f3,f4,f5⟩:=hf it (by simp);exact wpAny_pyNext_range_end (I.ok.hd hc) st (by have:n<=i:=hg;lia) λh' eb=>⟨rfl,I.turned (t':=s.toks) (λb o hb e=>eb b o hb e) f0 f1 f3 f4 f5⟩
 self:=λ_ _ _ _ _ st h=>wpAny_pyIter_rangeiter st h
section
variable {X:Cx}
def Xg (ta:TA):TI:=λσ H R=>ta σ H λvs H1=>∃n:Nat,vs=[.int (n:Int),.int (-1),.int (-1)]/\n < 1000000/\R (Ev n (n+1)) H1
theorem Tn {tg a b c:Expr}{ta:TA}{p pos:Pos}(hg:Gl X "range")(hm:X.mg "range"=none)(ha:PA X [a,b,c] ta)(hs:cZ [a,b,c] X.env=[(false,eval a X.env),(false,eval b X.env),(false,eval c X.env)]:=by rfl)(hs2:cZ [b,c] X.env=[(false,eval b X.env),(false,eval c X.env)]:=by rfl) :
  PI X tg (.Call (.Name "range" p) [a,b,c] [] pos) (Xg ta):=by
 intro pins s σ H R I h;refine Call_ (jy I hg hm xS (gU (thn (ha pos pins s σ H _ I h) λus s1 ⟨vs,H1,I1,r1,q1⟩=>?_) (by rw[hs,hs2]) (by rw[hs2];rfl)));obtain⟨n,e,q1,q⟩:=q1;subst e;cases r1 with
 |cons r rr=>
  cases rr with
  |cons r' rr=>
   cases rr with
   |cons r'' rr=>
    cases rr;obtain⟨t,rfl⟩:=r;obtain⟨t',rfl⟩:=r';obtain⟨t'',rfl⟩:=r'';refine call_range_3 (by decide) ?_ (.inl (PyProof.noPylong_small (by lia)));have e3:((n:Int) - -1 - 1) / (- -1)=n:=by
     rw[show - (-1:Int)=1 by decide,wT];lia
    have e4:nZ (n:Int) (-1) (-1)=n+1:=by
     unfold nZ;rw[if_neg (by decide),if_pos (by lia),e3]
    have hsm:Builtin.Range.small (n:Int) (-1) (-1)=true:=by
     unfold Builtin.Range.small;simp only[e4,Builtin.Range.rangeFitsLong,iO,sM,decide_eq_true_eq,beq_iff_eq];simp;lia
    refine wpAny_pyIter_range (IsRange.new ..) hsm ?_;have I2:Inv X pins σ H1 { s1 with heap:=s1.heap.push { cls:=.type "range",data:=.fields #[.int (n:Int) t,.int (-1) t',.int (-1) t''] },toks:=s1.toks }:=I1.kept λb o e=>aJ _ e;refine⟨(s1.heap.push { cls:=.type "range",data:=.fields #[.int (n:Int) t,.int (-1) t',.int (-1) t''] }).objs.size,[(s1.heap.push { cls:=.type "range",data:=.fields #[.int (n:Int) t,.int (-1) t',.int (-1) t''] }).objs.size],_,_,H1,rfl,I2.kept (t':=s1.toks) λb o e=>aJ _ e,Ml _ (n:Int) (n+1),?_,λb hb=>?_,q⟩
    ·have e1:(n:Int)+((0:Nat):Int) * (-1)=n:=(by lia);have e2:(((n+1:Nat)):Int) - ((0:Nat):Int)=nZ n (-1) (-1):=by
      rw[e4];lia
     show vL _ _ ((n:Int)+((0:Nat):Int) * (-1)) ((((n+1:Nat)):Int) - ((0:Nat):Int)) (-1);rw[e1,e2];exact cJ _ rfl
    ·have e:b=(s1.heap.push { cls:=.type "range",data:=.fields #[.int (n:Int) t,.int (-1) t',.int (-1) t''] }).objs.size:=(by simpa using hb);subst e;exact I2.fpOk (aO _) (I2.hok.fresh (aO _))
end
theorem Pq {hi:Int}{n:Nat}{g:TG}{tb:TS}{D:db}{σ:St}{H:Hp}(Pv:Nat->St->Hp->Prop)(h0:Pv 0 σ H)
  (hs:∀i σ H,i < n->Pv i σ H->g (.int (hi - i)) σ H λσ2 H2=>tb { D with nx:=Pv (i+1),ct:=Pv (i+1),bk:=D.nx } σ2 H2) (hd:∀σ H,Pv n σ H->D.nx σ H) :
  ∃W:Nat->Nat->St->Hp->Prop,(∃m,W 0 m σ H)/\∀i m σ H,W i m σ H->
   ((Ev hi n).stop i H/\D.nx σ H)\/((Ev hi n).go i H/\∃N:St->Hp->Prop,(∀σ' H',N σ' H'->∃m',m' < m/\W (i+1) m' σ' H')/\∀x H',(Ev hi n).yld i H x H'->g x σ H' λσ2 H2=>tb { D with nx:=N,ct:=N,bk:=D.nx } σ2 H2):=by
 refine⟨λi m σ H=>i+m=n/\Pv i σ H,⟨n,by lia,h0⟩,?_⟩;intro i m σ H h_1;obtain⟨e,p⟩:=h_1;by_cases hi':i < n
 ·refine .inr ⟨hi',Pv (i+1),λσ' H' p'=>⟨m - 1,by lia,by lia,p'⟩,?_⟩;intro x H' h_1;obtain⟨rfl,rfl⟩:=h_1;exact hs i σ _ hi' p
 ·have e':i=n:=(by lia);subst e';exact .inl ⟨aO _,hd σ H p⟩
section
variable {X:Cx}
def Xh (K:aA):List V->Hp->VK->Prop:=λxs H Q=>∃(a:Addr)(bs:List Bool),xs=[.ref a]/\SqL K H a (bs.map V.bl)/\Q (.bl (bs.any id)) H
theorem Mm (hc:X.calm=true):i9 X (.builtin "any") (Xh X.K):=by
 intro pins s σ H xs us Q I r h;obtain⟨a,bs,rfl,hq,q⟩:=h;obtain⟨u,rfl,ru⟩:=jg r;cases ru;obtain⟨its,rv,pl,hz⟩:=I.list hq;have hl:=pl.isList;have lt:a < s.heap.objs.size:=(by obtain⟨o,ho,_⟩:=hl;exact bX ho);have I1:Inv X pins σ H { s with heap:=s.heap.push { cls:=.type "list_iterator",data:=.fields #[.ref a,.int 0 0] } }:=I.kept (t':=s.toks) λb o e=>aJ _ e;have fI:i8 X pins H s.heap.objs.size:=I.fpOk (aO _) (I.hok.fresh (aO _));have len:its.length=bs.length:=(by rw[<-rv.length,aG]);have tr:TruthOf X.prog X.w X.A.in1 (λi v=>its.toArray[i]?=some v) (λi=>bs.getD i true):=λi v s' Q' E' e hQ=>by
  have e':its[i]?=some v:=(by simpa using e);have hi:i < bs.length:=(by rw[<-len];exact(aK.mp e').1);obtain⟨u,f1,ru⟩:=rv.get (i:=i) (x:=.bl bs[i]) (by rw[eK,aL hi];rfl);rw[e']at f1;cases f1;cases(show v=uG bs[i]from ru);refine jJ ?_;have z:bs.getD i true=bs[i]:=(by rw[eV,aL hi];rfl);have hQ':Q' (bs.getD i true) s':=hQ;rw[z]at hQ';exact hQ'
 refine call_any_walk (hX hl ⟨s.heap.objs.size,[s.heap.objs.size,a],[s.heap.objs.size],its.toArray.size,_,_,λi=>bs.getD i true,rfl,yB (show X.A.in1.handled=none from I.ok.hd hc) s.heap.objs.size a (cK lt) its.toArray,⟨⟨_,cJ _ rfl,rfl,rfl⟩,nV hl _⟩,tr,λh' tk kk=>?_⟩);have ea:(fK its.toArray.size).any (λi=>bs.getD i true)=bs.any id:=by
  rw[aY,len,jM,uZ,uZ];constructor
  ·intro h_1;obtain⟨i,hi,y⟩:=h_1;have hi':=eZ.mp hi;rw[eV,aL hi']at y;exact⟨_,nW hi',y⟩
  ·intro h_1;obtain⟨b,hb,y⟩:=h_1;obtain⟨i,hi,rfl⟩:=List.mem_iff_getElem.mp hb;refine⟨i,eZ.mpr hi,?_⟩;rw[eV,aL hi];exact y
 rw[ea];refine⟨.bl _,H,I1.turnedAll (t':=tk) (ch:=[s.heap.objs.size]) (λb hb=>?_) (λb o hb e=>kk b o hb e),rfl,q⟩;cases cE.mp hb;exact⟨fI.1,fI.2.1,fI.2.2.1,fI.2.2.2.1,fI.2.2.2.2.1,fI.2.2.2.2.2⟩
end
theorem KeyAt.tups {K:aA}{H H':Hp}{b:Addr}{ks:List I2}(h:KeyAt K H b ks)(e:Tups H H'):KeyAt K H' b ks:=by
 obtain⟨xs,hx,hp⟩:=h;refine⟨xs,hx.tups e,?_⟩;refine Paired.mapP hp λv k z=>?_;cases k with
 |inl i=>exact z
 |inr l=>obtain⟨c,rfl,hc⟩:=z;exact⟨c,rfl,hc.tups e⟩
theorem DictAt.of {P:aS}{w:bZ}{K:aA}{H H':Hp}{a:Addr}{kvs:DE}(d:DictAt P w K H a kvs)(e:Tups H H')(ha:H' a=some (jd P w a kvs)):DictAt P w K H' a kvs:=
 ⟨ha,λx hx=>(d.keys x hx).tups e,d.len,d.sys⟩
theorem DictAt.mono {P:aS}{w:bZ}{K:aA}{H H':Hp}{a:Addr}{kvs:DE}(d:DictAt P w K H a kvs)(e:Same H H'):DictAt P w K H' a kvs:=d.of (Tups.of e) (e _ _ d.at_)
end L2
namespace S25
open PySem L2 Bits S1 Fly PySem.Deep
theorem j4 {n:Nat}(h:n<=1000000):n < sizeLine:=jU h (by decide)
def fk (n k:Nat)(W:Nat->Nat->Rl):Nat->Nat->Nat->Prop
 |0,r,i=>∃j,j < n/\W r 0 i j
 |t+1,r,i=>fk n k W t r i\/∃c j,1<=c/\c < k+1/\j < n/\W r c i j/\fk n k W t c j
structure LsOk (ls:List (List Int)):Prop where
 nd:ls.Nodup
 few:ls.length<=300
 box:∃m,(m=1\/m=2\/m=3)/\∀l∈ls,l.length=m/\∀v∈l,0<=v/\v < 6
theorem Jy {ws:List (Str×Nat)}(h:fg ws):LsOk (LL ws) where
 nd:=uz _
 few:=bK (Cp h) (by decide)
 box:=by
  refine⟨ws.length,by have:=h.lo;have:=h.hi;lia,λl hl=>?_⟩;have g:=jn (ws.map (·.2));refine⟨by rw[g.wide l hl,aG],λv hv=>?_⟩;obtain⟨i,hi⟩:=List.mem_iff_getElem?.mp hv;obtain⟨c,hc,h0,h1⟩:=g.rng l hl i v hi;obtain⟨x,hx,rfl⟩:=eE.mp (bQ hc);have:=(h.cnt x hx).2;exact⟨h0,by lia⟩
theorem LsOk.at {ls:List (List Int)}(h:LsOk ls){i:Nat}{l:List Int}(e:ls[i]?=some l):ls.idxOf l=i:=by
 have hi:=(aK.mp e).1;have hl:l∈ls:=bQ e;have hj:ls.idxOf l < ls.length:=nX.mpr hl;have e2:ls[ls.idxOf l]?=some l:=(by rw[aL hj,qJ]);exact(List.getElem?_inj hj h.nd).mp (e2.trans e.symm)
abbrev kOf (r:Nat)(l:List Int):List I2:=[.inl (r:Int),.inr l]
theorem wt {r r':Nat}{l l':List Int}(h:kOf r l=kOf r' l'):r=r'/\l=l':=by
 obtain⟨h1,h2⟩:=oF h;obtain⟨h3,_⟩:=oF h2;have:=Sum.inl.inj h1;exact⟨by lia,Sum.inr.inj h3⟩
theorem Ew {kvs:DE}{k:List I2}(h:atK kvs k=none):k ∉ kvs.map (·.1):=by
 intro m;obtain⟨e,he,rfl⟩:=eE.mp m;unfold atK at h;rw[Option.map_eq_none_iff,List.find?_eq_none]at h;exact h e he (by simp)
theorem m7 {kvs:DE}{k:List I2}:(atK kvs k).isSome=true↔k∈kvs.map (·.1):=by
 constructor
 ·intro h;unfold atK at h;rw[oS,List.find?_isSome]at h;obtain⟨e,he,c⟩:=h;exact eE.mpr ⟨e,he,of_decide_eq_true c⟩
 ·intro m;cases h:atK kvs k with
  |none=>exact absurd m (Ew h)
  |some v=>rfl
theorem Fj {kvs:DE}{k:List I2}{b:Addr}{v:V}:∀x,x∈(g0 kvs k b v).map (·.1)↔x∈kvs.map (·.1)\/x=k:=by
 intro x;unfold g0
 split
 ·rename_i c
  have hk:=m7.mp c;rw[jF];have e:((·.1)∘λe:List I2×Addr×V=>if e.1=k then (e.1,e.2.1,v)else e)=(·.1):=by
   funext e
   show(if e.1=k then (e.1,e.2.1,v)else e).1=e.1
   split<;>rfl
  rw[e];constructor
  ·exact .inl
  ·rintro(h | rfl)
   ·exact h
   ·exact hk
 ·rw[aZ,List.mem_append];simp
theorem Mo {kvs:DE}{k:List I2}{b:Addr}{v:V}(h:(kvs.map (·.1)).Nodup):((g0 kvs k b v).map (·.1)).Nodup:=by
 unfold g0
 split
 ·rw[jF];have e:((·.1)∘λe:List I2×Addr×V=>if e.1=k then (e.1,e.2.1,v)else e)=(·.1):=by
   funext e
   show(if e.1=k then (e.1,e.2.1,v)else e).1=e.1
   split<;>rfl
  rw[e];exact h
 ·rename_i c
  rw[aZ];refine Gf h (Ew ?_);cases q:atK kvs k with
  |none=>rfl
  |some v=>rw[q]at c;exact absurd rfl c
theorem xf:∀(es kvs:DE),((kvs++es).map (·.1)).Nodup->p9 kvs es=kvs++es
 | [],kvs,_=>by rw[iM];rfl
 |e::es,kvs,h=>by
  have hn:atK kvs e.1=none:=by
   cases q:atK kvs e.1 with
   |none=>rfl
   |some v=>
    have m:=m7.mp (show(atK kvs e.1).isSome=true by rw[q];rfl);rw[aZ,fZ,uF]at h;exact absurd rfl (h.2.2 e.1 m e.1 eG)
  show p9 (g0 kvs e.1 e.2.1 e.2.2) es=_;have e1:g0 kvs e.1 e.2.1 e.2.2=kvs++[e]:=by
   unfold g0;rw[hn,if_neg (by simp)]
  rw[e1,xf es (kvs++[e]) (by rw[lU];exact h),lU];rfl
structure Lay (K:aA)(B:Hp)(ls:List (List Int))(k:Nat)(kvs:DE)(m:Nat)(Cn:Nat->Nat->Prop):Prop where
 keys:∀e∈kvs,KeyAt K B e.2.1 e.1/\∃r l,e.1=kOf r l/\r < k+1/\l∈ls
 nd:(kvs.map (·.1)).Nodup
 len:kvs.length<=m
 has:∀r i l,r < k+1->ls[i]?=some l->((atK kvs (kOf r l)).isSome=true↔Cn r i)
theorem Lay.mono {K:aA}{B B':Hp}{ls:List (List Int)}{k:Nat}{kvs:DE}{m:Nat}{Cn:Nat->Nat->Prop}(h:Lay K B ls k kvs m Cn)(s:Same B B'):Lay K B' ls k kvs m Cn:=
 ⟨λe he=>⟨(h.keys e he).1.tups (Tups.of s),(h.keys e he).2⟩,h.nd,h.len,h.has⟩
theorem Lay.hash {P:aS}{w:bZ}{K:aA}{B:Hp}{ls:List (List Int)}{k:Nat}{kvs:DE}{m:Nat}{Cn:Nat->Nat->Prop}(h:Lay K B ls k kvs m Cn)(hl:LsOk ls)(hk:k<=5):(kvs.map λe=>fh P w e.1).Nodup:=by
 rcases hl.box with⟨n,hn,hb⟩;have key:∀e∈kvs,∃x∈box n,e.1=kOf x.1 x.2/\fh P w e.1=tf x:=λe he=>by
  obtain⟨_,r,l,e1,hr,hl'⟩:=h.keys e he;exact⟨(r,l),Tk (by lia) (hb l hl').1 (hb l hl').2,e1,by rw[e1];exact Es P w r l⟩
 have nd:=h.nd;clear h
 induction kvs with
 |nil=>exact List.nodup_nil
 |cons e kvs ih=>
  rw[fZ,lB]at nd ⊢;refine⟨λz=>?_,ih (λx hx=>key x (cY _ hx)) nd.2⟩;obtain⟨e',he',eq⟩:=eE.mp z;obtain⟨x,hx,e1,e2⟩:=key e eG;obtain⟨y,hy,e3,e4⟩:=key e' (cY _ he');have:x=y:=Po hn hx hy (by rw[<-e2,<-e4];exact eq.symm);subst this;exact nd.1 (eE.mpr ⟨e',he',by rw[e3,e1]⟩)
def pD (x:Nat×List Int):Da:=.tup [.flat (.int (x.1:Int)),jc x.2]
theorem Ey (x:Nat×List Int):(pD x).fix=true:=by
 unfold pD;rw[Da.fix,ir,Da.fix,ir,gz];rfl
def c8 (ls:List (List Int))(k:Nat):List (Nat×List Int):=(fK k).flatMap λr=>ls.map λl=>(r,l)
theorem Gr {K:aA}{H:Hp}{x:V}{g:Nat×List Int}(h:Hold K H x (pD g)):∃p a,x=.ref p/\SqT K H p [.int (g.1:Int),.ref a]/\SqT K H a (g.2.map V.int)/\KeyAt K H p (kOf g.1 g.2):=by
 obtain⟨p,ys,rfl,hp,hy⟩:=Hold.tupI h;cases hy with
 |cons h1 r1=>cases r1 with
  |cons h2 r2=>
   cases r2;obtain⟨a,zs,rfl,ha,hz⟩:=Hold.tupI h2;have e1:zs=g.2.map V.int:=hz.ints;subst e1;cases h1.flatI;exact⟨p,a,rfl,hp,ha,_,hp,.cons rfl (.cons ⟨a,rfl,ha⟩ .nil)⟩
theorem Gs {K:aA}{H:Hp}{p a:Addr}{r:Nat}{l:List Int}(hp:SqT K H p [.int (r:Int),.ref a])(ha:SqT K H a (l.map V.int)):KeyAt K H p (kOf r l):=⟨_,hp,.cons rfl (.cons ⟨a,rfl,ha⟩ .nil)⟩
theorem m8 {ls:List (List Int)}{k:Nat}{x:Nat×List Int}:x∈c8 ls k↔x.1 < k/\x.2∈ls:=by
 unfold c8;rw[List.mem_flatMap];constructor
 ·intro h_1;obtain⟨r,hr,h⟩:=h_1;obtain⟨l,hl,rfl⟩:=eE.mp h;exact⟨eZ.mp hr,hl⟩
 ·intro h_1;obtain⟨h1,h2⟩:=h_1;exact⟨x.1,eZ.mpr h1,eE.mpr ⟨x.2,h2,rfl⟩⟩
theorem uu (ls:List (List Int))(k:Nat):(c8 ls k).length<=k * ls.length:=by
 unfold c8;have:=n9 (xs:=fK k) (f:=λr=>ls.map λl=>(r,l)) (c:=ls.length) (λx _=>by rw[aG];exact aO _)
 rwa [gK]at this
theorem xg (ls:List (List Int))(k:Nat):c8 ls (k+1)=c8 ls k++ls.map λl=>(k,l):=by
 unfold c8;rw[jO,iR];simp
theorem vw {ls:List (List Int)}(h:ls.Nodup):∀k,((c8 ls k).map λx=>kOf x.1 x.2).Nodup
 |0=>List.nodup_nil
 |k+1=>by
  rw[xg,aZ,uF];refine⟨vw h k,?_,λa ha b hb=>?_⟩
  ·rw[jF];exact List.Pairwise.map _ (λa b hab z=>hab (wt z).2) h
  ·obtain⟨x,hx,rfl⟩:=eE.mp ha;obtain⟨y,hy,rfl⟩:=eE.mp hb;obtain⟨l,_,rfl⟩:=eE.mp hy;have:=(m8.mp hx).1;intro z;have:=(wt z).1;lia
theorem B3 {ns:List Int}{ls:List (List Int)}{k:Nat}{T:Nat->Nat->Prop}(mp:qt ls.length (k+1) ns T){x:List Int×Nat} :
  x∈pf ns ls k ls.length↔∃j,ls[j]?=some x.1/\1<=x.2/\x.2 < k+1/\T x.2 j:=by
 have bit:∀{c j:Nat},c < k+1->j < ls.length->((ns.getD c 0).toNat.testBit j=true↔T c j):=λ{c j} hc hj=>by
  have hl:=mp.1;have e0:ns[c]?=some (ns[c]'(by lia)):=aL (by lia);have eg:ns.getD c 0=ns[c]'(by lia):=(by rw[eV,e0];rfl);rw[eg];exact(mp.2 c _ e0).2 j hj
 unfold pf;rw[List.mem_flatMap];constructor
 ·intro h_1;obtain⟨g,hg,h⟩:=h_1;obtain⟨r,hr,rfl⟩:=eE.mp h;obtain⟨j,hj,el,e2,_⟩:=Bj hg;rw[e2]at hr;obtain⟨h1,h2,h3⟩:=L7 hr;exact⟨j,el,h1,h2,(bit h2 hj).mp h3⟩
 ·intro h_1;obtain⟨j,el,h1,h2,h3⟩:=h_1;have hj:=(aK.mp el).1;have hm:x.2∈cz ns k j:=by
   unfold cz;refine List.mem_filter.mpr ⟨eE.mpr ⟨x.2 - 1,eZ.mpr (by lia),by lia⟩,(bit h2 hj).mpr h3⟩
  refine⟨(x.1,cz ns k j),?_,eE.mpr ⟨x.2,hm,rfl⟩⟩;unfold goL;refine List.mem_filterMap.mpr ⟨j,eZ.mpr hj,?_⟩;rw[if_neg (λz=>by rw[z]at hm;cases hm),el];rfl
end S25
namespace S25
open PySem L2 Bits S1 Fly PySem.Deep
def Qx (n k:Nat)(W:Nat->Nat->Rl)(Cn:Nat->Nat->Prop)(r i:Nat):Prop:=Cn r i\/∃c j,1<=c/\c < k+1/\j < n/\W r c i j/\Cn c j
def Gu (P:aS)(w:bZ)(K:aA)(C:Addr):Sp:=λvs H Q _=>∃(m pa la:Addr)(ls:List (List Int)) (k:Nat) (W:Nat->Nat->Rl) (ps:List V) (kvs:DE) (mx:Nat) (Cn:Nat->Nat->Prop),vs=[.ref m,.ref pa,.ref la]/\MachAt K H C m ls k W/\LsOk ls/\k<=5/\
 H pa=some (.lst ps)/\Holds K H ps ((c8 ls (k+1)).map pD)/\DictAt P w K H la kvs/\Lay K H ls k kvs mx Cn/\mx<=100000/\
 ∀(a:Addr)(kvs':DE) (H':Hp),Same H H'->H a=none->DictAt P w K H' a kvs'->Lay K H' ls k kvs' (mx+(c8 ls (k+1)).length) (Qx ls.length k W Cn)->Q (.ref a) H'
section
variable {P:aS}{w:bZ}{K:aA}{mg:Str->Option aB}{base:Heap}{C:Addr}
theorem hu16 {A:cW}{k:Nat}(hr:Room k A):A.units+16 < iJ:=jU (sU (by decide:16<=64) _) hr.units
theorem Pr:ar ["machine","pairs","layer","ahead","pair"] ["machine","pairs","layer"] (aj yz):=fsN
def Qy:gG:={ kind:=.function,names:=[(".0",.local),("letter",.local),("room",.local),("layer",.free)],isGenerator:=false,isCoroutine:=false,more:=[] }
theorem cAh_ {CX:CXT}{f:Addr}{cdv:aB}{A:cW}{outer:List Env}{s:aI}{H:Hp}{E:XK} :
  cb (bf CX P w K mg base ["machine","pairs","layer","ahead","pair"] "one_note_ahead" (aj yz) f cdv A outer s H E).nox ["letter","room"] ["layer"] [2] Qy [("layer",s.heap.objs.size+1)]:=csN [(".0",.local),("letter",.local),("room",.local),("layer",.cell)]
theorem Ps {f:Addr}{fd:cC}(F:Fun K "one_note_ahead" "one_note_ahead" yz f fd)(M:MC K C)(hG:qr P w K mg base C 3 "goes" ["self","room","letter"] (L6 K C))(md:mg "dict"=none)(ma:mg "any"=none) :
  FnOk P w K mg base CX0 4 f fd ["machine","pairs","layer"] (Gu P w K C):=by
 obtain⟨fG,dG,GG,bG,mm⟩:=hG;refine F.ok Pr (λvs H Q E h=>?_) (λcdv A outer s H vs Q E hr h=>?_)
 ·obtain⟨m,pa,la,ls,k,W,ps,kvs,mx,Cn,rfl,_⟩:=h;rfl
 obtain⟨m,pa,la,ls,k,W,ps,kvs,mx,Cn,rfl,mach,lok,k5,hpa,hps,dl,lay,hmx,q⟩:=h;refine⟨_,ah (ax (i:=3) Pr.nd rfl (bV rfl) (ku (Jx (P:=P) (w:=w) (K:=K) rfl rfl rfl) rfl md (by kernel_rfl) (ac (pv 2) af))) (ah (de eB rfl (ck (pv 1)) (ay (i:=4) Pr.nd rfl (bV rfl)) (ai (cj (jh (bp (Mm rfl) rfl ma (by kernel_rfl) (ac (cy (ns:=["letter","room"]) (ys:=["layer"]) (sc:=Qy) cAh_ rfl (ck (jf (pv 0) M.cl mm GG hr bG .nil az (ac (aq cf (pv 4) ag (λ_ _=>rfl)) (ac (aq cf (pv 4) ag (λ_ _=>rfl)) af)))) (λC s H fp=>pg2 rfl) (λC s H fp=>cw) (λC s H fp=>fo (Mi (P:=P) (w:=w) (K:=K) rfl rfl rfl (hu8 hr)) (bq (ac (pv 1) (ac (pv 0) af))) (pv 2) (by with_unfolding_all rfl))) af))) (ai (r8 j6 (Cw (pv 3) (pv 4) (Mj (P:=P) (w:=w) (K:=K) rfl rfl rfl (hu8 hr))))) bo))) (ai (au (pv 3)))),?_⟩
 dsimp only[bf,Cx.nox];refine⟨_,rfl,la,kvs,rfl,dl,lay.hash lok k5,λa ha sa=>?_⟩;have t0:=ad ha (jd P w a kvs);have pl:ps.length=(c8 ls (k+1)).length:=(by rw[hps.length,aG]);have pb:(c8 ls (k+1)).length<=6 * 300:=by
  refine bK (uu ls (k+1)) (kQ (by lia) lok.few)
 refine⟨_,rfl,pa,rfl,⟨_,SqL.of (t0 _ _ hpa)⟩,gq (K:=K) (a:=pa) (xs:=ps) (λi σ G=>∃(kv:DE)(v4:Option V),σ=[some (.ref m),some (.ref pa),some (.ref la),some (.ref a),v4]/\Same H G/\G a=some (jd P w a kv)/\Lay K H ls k kv (mx+i) (λr j=>Cn r j\/∃l,ls[j]?=some l/\(r,l)∈(c8 ls (k+1)).take i/\Qx ls.length k W Cn r j)) ⟨kvs,none,rfl,t0,ae,⟨lay.keys,lay.nd,lay.len,λr i l hr' el=>(lay.has r i l hr' el).trans ⟨.inl,λz=>z.elim id (λh0_=>by obtain⟨_,_,y,_⟩:=h0_;exact by simp at y)⟩⟩⟩ (λi σ G _ h0_=>by obtain⟨_,_,_,sG,_⟩:=h0_;exact SqL.of (sG _ _ hpa)) ?_ ?_⟩
 ·intro i x σ G hx h_1;obtain⟨kv,v4,rfl,sG,ga,ly⟩:=h_1;generalize hE1_:db.mk _ _ _ _=E1_;revert hE1_ E1_;refine id ?_;intro E1_ hE1_;obtain⟨g,eg,hg⟩:=hps.getm hx;have hi:i < (c8 ls (k+1)).length:=(aK.mp eg).1;obtain⟨hg1,hg2⟩:=m8.mp (bQ eg);obtain⟨p,b,rfl,hp,hb,kp⟩:=Gr hg;obtain⟨j0,ej0⟩:=List.mem_iff_getElem?.mp hg2;have eix:=lok.at ej0;obtain⟨dx,r1,xw,hm,_⟩:=id mach;have hn3:=lok.few;refine⟨_,rfl,m,dx,_,rfl,sG _ _ hm,rfl,_,rfl,p,_,_,_,rfl,rfl,hp.same sG,bh (j:=0) rfl,_,rfl,p,_,_,_,rfl,rfl,hp.same sG,bh (j:=1) rfl,m,b,ls,k,W,g.1,g.2,rfl,mach.mono sG,hg1,hb.same sG,hg2,lok.few,by lia,λgp ns xs G1 s1 h1 mp ggp hgx=>?_⟩;rw[eix]at mp;have sG1:=Same.trans sG s1;have gl:xs.length=(pf ns ls k ls.length).length:=by
   rw[hgx.length,aG];rfl
  have glb:(pf ns ls k ls.length).length<=300 * 10:=by
   have h1:=n9 (xs:=goL ns ls k ls.length) (f:=λx:List Int×List Nat=>x.2.map λr=>(x.1,r)) (c:=10) (λx hx=>by
     obtain⟨j,_,_,e,_⟩:=Bj hx;rw[aG,e];have:=vo ns k j;lia)
   have h2:=Ep ns ls k ls.length;exact bK h1 (sI _ (by lia))
  refine⟨gp,rfl,⟨_,SqL.of ggp⟩,λD hD=>?_⟩;refine dm (K:=K) (a:=gp) (xs:=xs) (λj ys G2=>Same G1 G2/\G2 D=some (.lst ys)/\ys=((pf ns ls k ls.length).take j).map λx=>V.bl ((atK kvs (kOf x.2 x.1)).isSome)) ⟨ad hD _,ae,rfl⟩ (λj ys G2 z=>z.2.1) (λj ys G2 _ z=>SqL.of (z.1 _ _ ggp)) ?_ ?_
  ·intro j y ys G2 hy h_1;obtain⟨s2,gD,rfl⟩:=h_1;obtain⟨x,ex,hx2⟩:=Holds.getm (ls:=pf ns ls k ls.length) (f:=vn) hgx hy;obtain⟨pp,aa,rfl,hpp,haa⟩:=L8 hx2;have hj:j < (pf ns ls k ls.length).length:=(aK.mp ex).1;refine⟨j4 (by rw[aG,cQ];lia),?_⟩;refine⟨pp,_,rfl,hpp.same s2,rfl,_,_,rfl,_,_,rfl,rfl,⟨[some _,some _],rfl,rfl⟩,?_⟩;refine⟨_,rfl,_,rfl,sz2,λp3 hp3=>?_⟩;have t3:=ad hp3 (.tup [.int (x.2:Int),.ref aa]);have s13:=Same.trans sG1 (Same.trans s2 t3);refine⟨_,rfl,p3,kOf x.2 x.1,la,kvs,rfl,rfl,Gs (SqT.of ae) (haa.same (Same.trans s2 t3)),dl.mono s13,t3 _ _ gD,Same.put (Same.trans s2 t3) hD _,ae,?_⟩;rw[dJ,ex,aZ];rfl
  ·intro ys G2 h_1;obtain⟨s2,gD,rfl⟩:=h_1;rw[gl,dZ]at gD;have gD':G2 D=some (.lst (((pf ns ls k ls.length).map λx=>(atK kvs (kOf x.2 x.1)).isSome).map V.bl)):=(by rw[gD,jF];rfl);refine⟨D,_,rfl,SqL.of gD',?_⟩;have sG2:=Same.trans sG1 s2;have ga2:=(Same.trans s1 s2) _ _ ga;have anyE:(((pf ns ls k ls.length).map λx=>(atK kvs (kOf x.2 x.1)).isSome).any id=true)↔∃c j,1<=c/\c < k+1/\j < ls.length/\W g.1 c j0 j/\Cn c j:=by
    rw[List.any_map,uZ];constructor
    ·intro h_1;obtain⟨x,hx,h⟩:=h_1;obtain⟨j,el,h1,h2,h3⟩:=(B3 mp).mp hx;exact⟨x.2,j,h1,h2,(aK.mp el).1,h3,(lay.has x.2 j x.1 h2 el).mp h⟩
    ·intro h_1;obtain⟨c,j,h1,h2,h3,h4,h5⟩:=h_1;have el:ls[j]?=some ls[j]:=aL h3;exact⟨(ls[j],c),(B3 mp).mpr ⟨j,el,h1,h2,h4⟩,(lay.has c j _ h2 el).mpr h5⟩
   have tk:(c8 ls (k+1)).take (i+1)=(c8 ls (k+1)).take i++[g]:=(by rw[dJ,eg];rfl);refine⟨_,rfl,?_⟩;refine c9 (λc=>?_) (λc=>?_)
   ·have c':=anyE.mp c;have kvl:=ly.len;have dA:DictAt P w K G2 a kv:=⟨ga2,λe he=>(ly.keys e he).1.tups (Tups.of sG2),iE (j4 (by lia)),sa⟩;refine⟨_,rfl,_,rfl,a,kv,p,kOf g.1 g.2,rfl,rfl,dA,kp.tups (Tups.of sG2),j4 (by lia),?_⟩;subst hE1_;refine⟨_,_,rfl,Same.put sG2 ha _,ae,⟨λe he=>?_,Mo ly.nd,?_,λr j l hr' el=>?_⟩⟩
    ·rcases Jv he with⟨e1,e2 | ⟨e',he',e1',e2⟩⟩ | he
     ·rw[e1,e2];exact⟨kp,g.1,g.2,rfl,hg1,hg2⟩
     ·have:=ly.keys e' he';rw[e1',e2]at this;rw[e1];exact this
     ·exact ly.keys e he
    ·have:=Ju kv (kOf g.1 g.2) p (.bl true);lia
    ·rw[m7,Fj,<-m7,ly.has r j l hr' el,tk];constructor
     ·rintro((h | ⟨l',e1,e2,e3⟩) | h)
      ·exact .inl h
      ·exact .inr ⟨l',e1,jD _ e2,e3⟩
      ·obtain⟨e1,e2⟩:=wt h;have ej:j=j0:=(by rw[<-eix,<-e2];exact(lok.at el).symm);refine .inr ⟨l,el,eJ _ (by rw[e1,e2];exact cE.mpr rfl),.inr ?_⟩;rw[e1,ej];exact c'
     ·rintro(h | ⟨l',e1,e2,e3⟩)
      ·exact .inl (.inl h)
      ·rcases eI.mp e2 with z | z
       ·exact .inl (.inr ⟨l',e1,z,e3⟩)
       ·have:=cE.mp z;rw[<-this,el]at *;cases e1;exact .inr rfl
   ·subst hE1_;refine⟨_,_,rfl,sG2,ga2,⟨ly.keys,ly.nd,by have:=ly.len;lia,λr j l hr' el=>?_⟩⟩;rw[ly.has r j l hr' el,tk];constructor
    ·rintro(h | ⟨l',e1,e2,e3⟩)
     ·exact .inl h
     ·exact .inr ⟨l',e1,jD _ e2,e3⟩
    ·rintro(h | ⟨l',e1,e2,e3⟩)
     ·exact .inl h
     ·rcases eI.mp e2 with z | z
      ·exact .inr ⟨l',e1,z,e3⟩
      ·have hz:=cE.mp z;rcases e3 with h | h
       ·exact .inl h
       ·exfalso;refine c (anyE.mpr ?_);have e4:r=g.1:=(by rw[<-hz]);have e5:l'=g.2:=(by rw[<-hz]);rw[e5]at e1;have ej:j=j0:=(by rw[<-eix];exact(lok.at e1).symm);rw[e4,ej]at h;exact h
 ·intro σ G h_1;obtain⟨kv,v4,rfl,sG,ga,ly⟩:=h_1;rw[pl,dZ]at ly;have kvl:=ly.len;refine⟨_,rfl,q a kv G sG ha ⟨ga,λe he=>(ly.keys e he).1.tups (Tups.of sG),iE (j4 (by lia)),sa⟩ ?_⟩;refine(Lay.mono ?_ sG);refine⟨ly.keys,ly.nd,ly.len,λr j l hr' el=>(ly.has r j l hr' el).trans ⟨?_,?_⟩⟩
  ·rintro(h | ⟨_,_,_,h⟩)
   ·exact .inl h
   ·exact h
  ·rintro(h | h)
   ·exact .inl h
   ·exact .inr ⟨l,el,m8.mpr ⟨hr',bQ el⟩,.inr h⟩
end
end S25
namespace S25
open PySem L2 Bits S1 Fly PySem.Deep
def LayAt (P:aS)(w:bZ)(K:aA)(H:Hp)(ls:List (List Int))(k:Nat)(Cn:Nat->Nat->Prop)(x:V):Prop:=∃a kvs mx,x=.ref a/\DictAt P w K H a kvs/\Lay K H ls k kvs mx Cn/\mx<=100000
theorem LayAt.mono {P:aS}{w:bZ}{K:aA}{H H':Hp}{ls:List (List Int)}{k:Nat}{Cn:Nat->Nat->Prop}{x:V}(h:LayAt P w K H ls k Cn x)(s:Same H H'):LayAt P w K H' ls k Cn x:=by
 obtain⟨a,kvs,mx,rfl,d,l,m⟩:=h;exact⟨a,kvs,mx,rfl,d.mono s,l.mono s,m⟩
theorem LayAt.put {P:aS}{w:bZ}{K:aA}{H:Hp}{ls:List (List Int)}{k:Nat}{Cn:Nat->Nat->Prop}{x:V}(h:LayAt P w K H ls k Cn x){u:Addr}{xs ys:List V}(hu:H u=some (.lst xs)):LayAt P w K (upd H u (.lst ys)) ls k Cn x:=by
 obtain⟨a,kvs,mx,rfl,d,l,m⟩:=h;have tp:=Tups.put hu (.lst ys);have ha:a≠u:=iw d.at_ hu (by intro z;cases z);exact⟨a,kvs,mx,rfl,d.of tp (by rw[al ha];exact d.at_),⟨λe he=>⟨(l.keys e he).1.tups tp,(l.keys e he).2⟩,l.nd,l.len,l.has⟩,m⟩
def Qz (P:aS)(w:bZ)(K:aA)(C:Addr):Sp:=λvs H Q _=>∃(m:Addr)(ls:List (List Int)) (k c:Nat) (W:Nat->Nat->Rl),vs=[.ref m,.int (c:Int)]/\MachAt K H C m ls k W/\LsOk ls/\k<=5/\c<=10/\
 ∀(p:Addr)(xs:List V) (H':Hp),Same H H'->H p=none->H' p=some (.lst xs)->LstP (λt=>LayAt P w K H' ls k (fk ls.length k W t)) c xs->Q (.ref p) H'
theorem Ez {mk:Int}{ls:List (List Int)}{p:Nat->Prop}(h:MaskP ls.length mk p):(pick mk ls ls.length).isEmpty=false↔∃j,j < ls.length/\p j:=by
 constructor
 ·intro z;cases e:pick mk ls ls.length with
  |nil=>rw[e]at z;cases z
  |cons x xs=>
   obtain⟨i,hi,hb,_⟩:=Ec.mp (show x∈pick mk ls ls.length by rw[e];exact eG);exact⟨i,hi,(h.2 i hi).mp hb⟩
 ·intro h_1;obtain⟨j,hj,hp⟩:=h_1;have hm:ls[j]∈pick mk ls ls.length:=Ec.mpr ⟨j,hj,(h.2 j hj).mpr hp,aL hj⟩;cases e:pick mk ls ls.length with
  |nil=>rw[e]at hm;cases hm
  |cons x xs=>rfl
section
variable {P:aS}{w:bZ}{K:aA}{mg:Str->Option aB}{base:Heap}{C:Addr}
theorem uw:ar ["machine","count","pairs","room","layer","layers","left"] ["machine","count"] (aj Dy):=fsN
def Mp:gG:={ kind:=.function,names:=[(".0",.local),("letter",.local),("room",.free)],isGenerator:=false,isCoroutine:=false,more:=[] }
theorem Xi {CX:CXT}{f:Addr}{cdv:aB}{A:cW}{outer:List Env}{s:aI}{H:Hp}{E:XK} :
  cb (bf CX P w K mg base ["machine","count","pairs","room","layer","layers","left"] "that_can_end" (aj Dy) f cdv A outer s H E).nox ["letter"] ["room"] [3] Mp [("room",s.heap.objs.size+1+1)]:=csN [(".0",.local),("letter",.local),("room",.cell)]
def Mq:gG:={ kind:=.function,names:=[(".0",.local),("pair",.local),("machine",.free)],isGenerator:=false,isCoroutine:=false,more:=[] }
theorem Xj {CX:CXT}{f:Addr}{cdv:aB}{A:cW}{outer:List Env}{s:aI}{H:Hp}{E:XK} :
  cb (bf CX P w K mg base ["machine","count","pairs","room","layer","layers","left"] "that_can_end" (aj Dy) f cdv A outer s H E).nox ["pair"] ["machine"] [0] Mq [("machine",s.heap.objs.size+1)]:=csN [(".0",.local),("pair",.local),("machine",.cell)]
theorem V0 {f:Addr}{fd:cC}(F:Fun K "that_can_end" "that_can_end" Dy f fd)(M:MC K C)(hR:qr P w K mg base C 1 "rooms" ["self"] (Go K C))(hE:qr P w K mg base C 3 "ends" ["self","room","letter"] (zo K C))
  (hA:Has P w K mg base 4 "one_note_ahead" ["machine","pairs","layer"] (Gu P w K C)) (mr:mg "range"=none) (md:mg "dict"=none):FnOk P w K mg base CX0 5 f fd ["machine","count"] (Qz P w K C):=by
 obtain⟨fR,dR,GR,bR,mR⟩:=hR;obtain⟨fE,dE,GE,bE,mE⟩:=hE;obtain⟨fA,dA,GA,bA,kA,mA⟩:=hA;refine F.ok uw (λvs H Q E h=>?_) (λcdv A outer s H vs Q E hr h=>?_)
 ·obtain⟨m,ls,k,c,W,rfl,_⟩:=h;rfl
 obtain⟨m,ls,k,c,W,rfl,mach,lok,k5,c10,q⟩:=h;refine⟨_,ah (ax (i:=2) uw.nd rfl (bV rfl) (av af)) (ah (de eB rfl (ip rfl mr (ac (Np (pv 0) M.cl mR GR (hr.mono (by decide)) bR .nil az) af)) (ay (i:=3) uw.nd rfl (lJ rfl)) (ai (bx (gi cX jV jW oq (pv 2) (ac (cy (ns:=["letter"]) (ys:=["room"]) (sc:=Mp) Xi rfl (ck (qd (pv 0) rfl)) (λC s H fp=>ay (i:=0) (by show(["letter","room"]:List Str).Nodup;decide +kernel) rfl (bV rfl)) (λC s H fp=>cw) (λC s H fp=>bq (ac (pv 1) (ac (pv 0) af)))) af))))) (ah (ax (i:=4) uw.nd rfl (bV rfl) (ku (Jw (P:=P) (w:=w) (K:=K) rfl rfl rfl rfl (hu16 hr)) rfl md (by kernel_rfl) (ac (cy (ns:=["pair"]) (ys:=["machine"]) (sc:=Mq) Xj rfl (ck (pv 2)) (λC s H fp=>ay (i:=0) (by show(["pair","machine"]:List Str).Nodup;decide +kernel) rfl (bV rfl)) (λ_ s H fp=>nh (vi (K:=K) rfl (jf (pv 1) M.cl mE GE (hr.mono (by decide)) bE .nil az (ac (aq (r:=Ak K) cf (pv 0) ag (λ_ _=>rfl)) (ac (aq (r:=Ak K) cf (pv 0) ag (λ_ _=>rfl)) af))) (λ_=>rfl))) (λC s H fp=>bq (ac (pv 0) (ac j6 af)))) af))) (ah (ax (i:=5) uw.nd rfl (bV rfl) (av af)) (ah (de eB rfl (ip rfl mr (ac (pv 1) af)) (ay (i:=6) uw.nd rfl (bV rfl)) (ah (bx (gi cX fV fX dy (pv 5) (ac (pv 4) af))) (ai (ax (i:=4) uw.nd rfl (bV rfl) (ao GA hr rfl mA kA bA .nil az (ac (pv 0) (ac (pv 2) (ac (pv 4) af)))))))) (ai (au (pv 5))))))),?_⟩;dsimp only[bf,Cx.nox];obtain⟨dx,r1,xw,hm,⟨xs,hr1,hd1⟩,ww⟩:=id mach;have xl:xs.length=ls.length:=(by rw[hd1.length,aG]);have n3:=lok.few;refine⟨sz0,λu hu=>?_⟩;have tu:=ad hu (.lst []);refine⟨_,rfl,m,dx,_,rfl,tu _ _ hm,rfl,m,ls,k,W,rfl,mach.mono tu,_,rfl,by lia,by lia,kq (n:=(((k+1:Nat):Int)).toNat) (λi σ G=>∃(zs:List V)(v3:Option V),σ=[some (.ref m),some (.int (c:Int)),some (.ref u),v3,none,none,none]/\Same H G/\G u=some (.lst zs)/\Holds K G zs ((c8 ls i).map pD)) ⟨[],none,rfl,tu,ae,.nil⟩ ?_ ?_⟩
 ·intro i σ G hi h_1;obtain⟨zs,v3,rfl,sG,gu,hz⟩:=h_1;generalize hE1_:db.mk _ _ _ _=E1_;revert hE1_ E1_;refine id ?_;intro E1_ hE1_;have hi':i < k+1:=(by lia);have zl:zs.length<=6 * 300:=by
   rw[hz.length,aG];exact bK (uu ls i) (kQ (by lia) n3)
  refine⟨_,rfl,.inl ⟨rfl,_,SqL.of gu⟩,_,rfl,m,C,dx,_,_,rfl,sG _ _ hm,M.cl,M.nl,rfl,r1,rfl,⟨_,SqL.of (sG _ _ hr1)⟩,λD hD=>?_⟩;refine dm (K:=K) (a:=r1) (xs:=xs) (λj ys G2=>Same G G2/\G2 D=some (.lst ys)/\Holds K G2 ys (((ls.take j).map λl=>(i,l)).map pD)) ⟨ad hD _,ae,.nil⟩ (λj ys G2 z=>z.2.1) (λj ys G2 _ z=>SqL.of ((Same.trans sG z.1) _ _ hr1)) ?_ ?_
  ·intro j x ys G2 hx h_1;obtain⟨s2,gD,hy⟩:=h_1;obtain⟨l,el,hl⟩:=hd1.getm hx;obtain⟨a,ws,rfl,ha,hws⟩:=Hold.tupI hl;have ew:ws=l.map V.int:=hws.ints;subst ew;have hj:j < ls.length:=(aK.mp el).1;have yl:ys.length<=300:=(by rw[hy.length,aG,aG,cQ];lia);refine⟨bg (by lia),⟨[some _],rfl,rfl⟩,?_⟩;refine⟨_,rfl,_,rfl,sz2,λp3 hp3=>?_⟩;have e0:(0:Int)+(i:Int)=(i:Int):=(by lia);rw[e0];have t3:=ad hp3 (.tup [.int (i:Int),.ref a]);have gD3:=t3 _ _ gD;refine⟨gD3,Same.put (Same.trans s2 t3) hD _,ae,?_⟩;have tk:ls.take (j+1)=ls.take j++[l]:=(by rw[dJ,el];rfl);rw[tk,aZ,aZ];have tps:=(Tups.of t3).trans (Tups.put gD3 (.lst (ys++[.ref p3])));refine(hy.stay tps (by rw[jF];exact bw (λ_=>Ey _) _)).append (.one (.tup (xs:=[.int (i:Int),.ref a]) (SqT.of ?_) (.cons (.flat rfl) (.cons (.tup ((ha.same (Same.trans sG s2)).tups tps) (fz _)) .nil))));rw[al (iw ae gD3 (by intro z;cases z)),ae]
  ·intro ys G2 h_1;obtain⟨s2,gD,hy⟩:=h_1;rw[xl,dZ]at hy;have yl:ys.length<=300:=(by rw[hy.length,aG,aG];exact n3);have gu2:=s2 _ _ gu;refine⟨u,D,zs,ys,rfl,rfl,gu2,gD,iE (j4 (by lia)),?_⟩;subst hE1_;refine⟨_,_,rfl,Same.put (Same.trans sG s2) hu _,ae,?_⟩;rw[xg,aZ];have tps:=Tups.put gu2 (.lst (zs++ys));exact(hz.stay ((Tups.of s2).trans tps) (bw Ey _)).append (hy.stay tps (by rw[jF];exact bw (λ_=>Ey _) _))
 ·intro σ G h_1;obtain⟨zs,v3,rfl,sG,gu,hz⟩:=h_1;rw[show(((k+1:Nat):Int)).toNat=k+1 by lia]at hz;have zl:zs.length=(c8 ls (k+1)).length:=(by rw[hz.length,aG]);have zb:(c8 ls (k+1)).length<=6 * 300:=bK (uu ls (k+1)) (kQ (by lia) n3);refine⟨_,rfl,u,rfl,⟨_,SqL.of gu⟩,λD hD=>?_⟩;refine dm (K:=K) (a:=u) (xs:=zs) (λj ys G2=>Same G G2/\G2 D=some (.lst ys)/\∃es:DE,Paired (λv (e:List I2×Addr×V)=>∃p,v=.ref p/\SqT K G2 p [.ref e.2.1,e.2.2]/\KeyAt K G2 e.2.1 e.1) ys es/\(∀e∈es,KeyAt K G e.2.1 e.1/\∃r l,e.1=kOf r l/\r < k+1/\l∈ls)/\(es.map (·.1)).Sublist (((c8 ls (k+1)).take j).map λx=>kOf x.1 x.2)/\∀x∈(c8 ls (k+1)).take j,(kOf x.1 x.2∈es.map (·.1)↔fk ls.length k W 0 x.1 (ls.idxOf x.2)))
   ⟨ad hD _,ae,[],.nil,(λe he=>by cases he),List.Sublist.refl _,λx hx=>by simp at hx⟩ (λj ys G2 z=>z.2.1) (λj ys G2 _ z=>SqL.of (z.1 _ _ gu)) ?_ ?_
  ·intro j x ys G2 hx h_1;obtain⟨s2,gD,es,pe,ke,sb,ce⟩:=h_1;obtain⟨g,eg,hg⟩:=hz.getm hx;have hj:j < (c8 ls (k+1)).length:=(aK.mp eg).1;obtain⟨hg1,hg2⟩:=m8.mp (bQ eg);obtain⟨p,b,rfl,hp,hb,kp⟩:=Gr hg;have esl:es.length<=j:=by
    have:=sb.length_le;rw[aG,aG,cQ]at this;lia
   have yl:ys.length=es.length:=Paired.length pe;have tk:(c8 ls (k+1)).take (j+1)=(c8 ls (k+1)).take j++[g]:=(by rw[dJ,eg];rfl);have new:kOf g.1 g.2 ∉ es.map (·.1):=λz=>by
    have z2:=sb.subset z;have nd:=vw lok.nd (k+1);have e2:((c8 ls (k+1)).take (j+1)).map (λx=>kOf x.1 x.2)=((c8 ls (k+1)).take j).map (λx=>kOf x.1 x.2)++[kOf g.1 g.2]:=(by rw[tk,aZ];rfl);have nd2:(((c8 ls (k+1)).take (j+1)).map (λx=>kOf x.1 x.2)).Nodup:=nd.sublist ((List.take_sublist _ _).map _);rw[e2,uF]at nd2;exact nd2.2.2 _ z2 _ (cE.mpr rfl) rfl
   refine⟨j4 (by lia),⟨[some _],rfl,rfl⟩,?_⟩;have sA:=Same.trans sG s2;refine⟨_,rfl,m,dx,_,rfl,sA _ _ hm,rfl,_,rfl,p,_,_,_,rfl,rfl,hp.same s2,bh (j:=0) rfl,_,rfl,p,_,_,_,rfl,rfl,hp.same s2,bh (j:=1) rfl,m,b,ls,k,W,g.1,g.2,rfl,mach.mono sA,hg1,hb.same s2,hg2,n3,by lia,λpl mk G3 s3 h3 mp la=>?_⟩;obtain⟨lvs,gl,hlv⟩:=la;have lvl:lvs.isEmpty=(pick mk ls ls.length).isEmpty:=by
    have:=hlv.length;rw[aG]at this;cases lvs with
    |nil=>cases hq:pick mk ls ls.length with
     |nil=>rfl
     |cons y ys=>rw[hq]at this;cases this
    |cons y ys=>cases hq:pick mk ls ls.length with
     |nil=>rw[hq]at this;cases this
     |cons y ys=>rfl
   have gD3:=s3 _ _ gD;have s23:=Same.trans s2 s3;refine⟨_,.inl ⟨_,SqL.of gl,rfl⟩,?_⟩;rw[lvl];refine c9 (λcc=>?_) (λcc=>?_)
   ·have ce0:fk ls.length k W 0 g.1 (ls.idxOf g.2):=(Ez mp).mp (by simpa using cc);refine⟨_,rfl,sz2,λp4 hp4=>?_⟩;have t4:=ad hp4 (.tup [.ref p,.bl true]);have gD4:=t4 _ _ gD3;have s34:=Same.trans s3 t4;refine⟨gD4,Same.put (Same.trans s23 t4) hD _,ae,es++[(kOf g.1 g.2,p,.bl true)],?_,?_,?_,?_⟩
    ·have tps:=(Tups.of s34).trans (Tups.put gD4 (.lst (ys++[.ref p4])));refine Paired.snoc (Paired.mapP pe λv e h0_=>by obtain⟨p',e1,e2,e3⟩:=h0_;exact⟨p',e1,e2.tups tps,e3.tups tps⟩) ⟨p4,rfl,SqT.of ?_,kp.tups ((Tups.of s2).trans tps)⟩;rw[al (iw ae gD4 (by intro z;cases z)),ae]
    ·intro e he;rcases eI.mp he with z | z
     ·exact ke e z
     ·rw[cE.mp z];exact⟨kp,g.1,g.2,rfl,hg1,hg2⟩
    ·rw[tk,aZ,aZ];exact sb.append (List.Sublist.refl _)
    ·intro x hx;rw[aZ];rw[tk]at hx;rcases eI.mp hx with z | z
     ·rw[List.mem_append];constructor
      ·rintro(h | h)
       ·exact(ce x z).mp h
       ·have h':=cE.mp h;obtain⟨e1,e2⟩:=wt h';rw[e1,e2];exact ce0
      ·intro h;exact .inl ((ce x z).mpr h)
     ·rw[cE.mp z];exact⟨λ_=>ce0,λ_=>eJ _ (cE.mpr rfl)⟩
   ·have ce0:¬fk ls.length k W 0 g.1 (ls.idxOf g.2):=λz=>by
     have:=(Ez mp).mpr z;rw[this]at cc;exact cc rfl
    refine⟨s23,gD3,es,?_,ke,?_,?_⟩
    ·exact Paired.mapP pe λv e h0_=>by obtain⟨p',e1,e2,e3⟩:=h0_;exact⟨p',e1,e2.same s3,e3.tups (Tups.of s3)⟩
    ·rw[tk,aZ];exact sb.trans (List.sublist_append_left _ _)
    ·intro x hx;rw[tk]at hx;rcases eI.mp hx with z | z
     ·exact ce x z
     ·rw[cE.mp z];exact⟨λh=>absurd h new,λh=>absurd h ce0⟩
  ·intro ys G2 h_1;obtain⟨s2,gD,es,pe,ke,sb,ce⟩:=h_1;rw[zl,dZ]at sb ce;refine⟨D,ys,es,rfl,gD,pe,λa ha sa=>?_⟩;have nde:(es.map (·.1)).Nodup:=(vw lok.nd (k+1)).sublist sb;have est:p9 [] es=es:=xf es [] nde;rw[est];have esl:es.length<=6 * 300:=by
    have:=sb.length_le;rw[aG,aG]at this;lia
   have ta:=ad ha (jd P w a es);have sGa:=Same.trans s2 ta;have sHa:=Same.trans sG sGa;refine⟨sz0,λv hv=>?_⟩;have tv:=ad hv (.lst []);have hvH:H v=none:=Same.free sHa hv;refine⟨_,rfl,(c:Int),rfl,by lia,by lia,kq (n:=((c:Int)).toNat) (λt σ G3=>∃(la:Addr)(kvs:DE) (lv:List V) (v6:Option V),σ=[some (.ref m),some (.int (c:Int)),some (.ref u),v3,some (.ref la),some (.ref v),v6]/\Same (upd G2 a (jd P w a es)) G3/\G3 v=some (.lst lv)/\DictAt P w K G3 la kvs/\Lay K G3 ls k kvs (1800 * (t+1)) (fk ls.length k W t)/\LstP (λt=>LayAt P w K G3 ls k (fk ls.length k W t)) t lv) ⟨a,es,[],none,rfl,tv,ae,?_,?_,.nil⟩ ?_ ?_⟩
   ·exact(⟨ae,λe he=>(ke e he).1.tups (Tups.of sGa),iE (j4 (by lia)),sa⟩:DictAt P w K (upd G2 a (jd P w a es)) a es).mono tv
   ·refine Lay.mono ⟨λe he=>⟨(ke e he).1.tups (Tups.of sGa),(ke e he).2⟩,nde,esl,λr i l hr' el=>?_⟩ tv;rw[m7];have:=ce (r,l) (m8.mpr ⟨hr',bQ el⟩);rw[lok.at el]at this;exact this
   ·intro t σ G3 ht h_1;obtain⟨la,kvs,lv,v6,rfl,s3,gv,dl,ly,ll⟩:=h_1;generalize hE2_:db.mk _ _ _ _=E2_;revert hE2_ E2_;refine id ?_;intro E2_ hE2_;have ht':t < 10:=(by lia);have ltl:=ll.1;have sH3:=Same.trans sHa s3;refine⟨_,rfl,.inl ⟨rfl,_,SqL.of gv⟩,_,rfl,v,_,_,rfl,rfl,gv,bg (by lia),?_⟩;have tp:=Tups.put gv (.lst (lv++[.ref la]));have lane:la≠v:=iw dl.at_ gv (by intro z;cases z);have dl4:DictAt P w K (upd G3 v (.lst (lv++[.ref la]))) la kvs:=dl.of tp (by rw[al lane];exact dl.at_);have ly4:Lay K (upd G3 v (.lst (lv++[.ref la]))) ls k kvs (1800 * (t+1)) (fk ls.length k W t):=⟨λe he=>⟨(ly.keys e he).1.tups tp,(ly.keys e he).2⟩,ly.nd,ly.len,ly.has⟩;have s4:Same (upd G2 a (jd P w a es)) (upd G3 v (.lst (lv++[.ref la]))):=Same.put s3 hv _;have sH4:=Same.trans sHa s4;have sG4:=Same.trans sGa s4;refine⟨_,rfl,_,rfl,_,rfl,m,u,la,ls,k,W,zs,kvs,1800 * (t+1),_,rfl,mach.mono sH4,lok,k5,sG4 _ _ gu,hz.mono sG4,dl4,ly4,by lia,λa5 kvs5 G5 s5 h5 d5 l5=>?_⟩;subst hE2_;refine⟨a5,kvs5,_,_,rfl,Same.trans s4 s5,s5 _ _ ae,d5,⟨l5.keys,l5.nd,by have:=l5.len;lia,l5.has⟩,?_⟩;refine(ll.imp λt' y _ z=>(z.put gv).mono s5).snoc ⟨la,kvs,_,rfl,dl4.mono s5,ly4.mono s5,by lia⟩
   ·intro σ G3 h_1;obtain⟨la,kvs,lv,v6,rfl,s3,gv,dl,ly,ll⟩:=h_1;rw[eY]at ll;exact⟨_,rfl,q v lv G3 (Same.trans sHa s3) hvH gv ll⟩
end
end S25
namespace S25
open PySem L2 Bits S1 Fly PySem.Deep
abbrev Bg:=List (List Int)×List Nat
def trD (t:List (List Int)):Da:=.tup (t.map jc)
def bgD (b:Bg):Da:=.tup [trD b.1,.tup (b.2.map λ(r:Nat)=>.flat (.int (r:Int)))]
theorem qa (t:List (List Int)):(trD t).fix=true:=by
 unfold trD;rw[Da.fix];exact bw gz _
theorem Gv (b:Bg):(bgD b).fix=true:=by
 unfold bgD;rw[Da.fix,ir,qa,ir,Da.fix,bw (λ_=>by rw[Da.fix])];rfl
structure Jz (ls:List (List Int))(k:Nat)(b:Bg):Prop where
 ne:b.1≠[]
 mem:∀l∈b.1,l∈ls
 rm:∀r∈b.2,r < k+1
 few:b.2.length<=400
 short:b.1.length<=100
open Classical in
noncomputable def E1 (p:Nat->Prop)(ls:List (List Int))(n:Nat):List (List Int):=(fK n).filterMap λj=>if p j then ls[j]? else none
open Classical in
noncomputable def j5 (T:Nat->Nat->Prop)(k j:Nat):List Nat:=((fK k).map (·+1)).filter λc=>decide (T c j)
noncomputable def goP (ls:List (List Int))(k:Nat)(T:Nat->Nat->Prop):List (List Int×List Nat):=(fK ls.length).filterMap λj=>if j5 T k j=[]then none else (ls[j]?).map λl=>(l,j5 T k j)
noncomputable def pq (ls:List (List Int))(W:Nat->Nat->Rl)(b:Bg):List (List Int):=E1 (mw W b.2 (ls.idxOf (b.1.getLastD [])) 0) ls ls.length
noncomputable def dv (ls:List (List Int))(W:Nat->Nat->Rl)(bs:List Bg):List (List (List Int)):=bs.flatMap λb=>(pq ls W b).map λe=>b.1++[e]
open Classical in
noncomputable def ux (ls:List (List Int))(Cn:Nat->Nat->Prop)(b:Bg)(x:List Int×List Nat):Option Bg:=if x.2.filter (λr=>decide (Cn r (ls.idxOf x.1)))=[]then none else some (b.1++[x.1],x.2.filter (λr=>decide (Cn r (ls.idxOf x.1))))
noncomputable def onP (ls:List (List Int))(k:Nat)(W:Nat->Nat->Rl)(Cn:Nat->Nat->Prop)(b:Bg):List Bg:=(goP ls k (mw W b.2 (ls.idxOf (b.1.getLastD [])))).filterMap (ux ls Cn b)
noncomputable def g7 (ls:List (List Int))(k:Nat)(W:Nat->Nat->Rl)(Cn:Nat->Nat->Prop)(bs:List Bg):List Bg:=bs.flatMap (onP ls k W Cn)
open Classical in
theorem E2 {n:Nat}{mk:Int}{p:Nat->Prop}(h:MaskP n mk p)(ls:List (List Int)):∀k,k<=n->pick mk ls k=E1 p ls k
 |0,_=>rfl
 |k+1,hk=>by
  have ih:=E2 h ls k (by lia);unfold Bits.pick E1 at *;rw[jO,jQ,jQ,ih];congr 1;have:=h.2 k (by lia);rw[gR,gR];by_cases c:p k
  ·rw[if_pos c,if_pos (this.mpr c)];rfl
  ·rw[if_neg c,if_neg (λz=>c (this.mp z))];rfl
open Classical in
theorem Mr {n k:Nat}{ns:List Int}{T:Nat->Nat->Prop}(mp:qt n (k+1) ns T){j:Nat}(hj:j < n):cz ns k j=j5 T k j:=by
 unfold cz j5;refine List.filter_congr λc hc=>?_;obtain⟨i,hi,rfl⟩:=eE.mp hc;have hi':=eZ.mp hi;have hl:=mp.1;have e0:ns[i+1]?=some (ns[i+1]'(by lia)):=aL (by lia);have eg:ns.getD (i+1) 0=ns[i+1]'(by lia):=(by rw[eV,e0];rfl);rw[eg,jM];exact((mp.2 _ _ e0).2 j hj).trans ⟨λz=>decide_eq_true z,λz=>of_decide_eq_true z⟩
theorem qu {α β:Type}{f g:α->Option β}:∀{xs:List α},(∀x∈xs,f x=g x)->xs.filterMap f=xs.filterMap g
 | [],_=>rfl
 |x::xs,h=>by rw[gR,gR,h x eG,qu λy hy=>h y (cY _ hy)]
theorem V1 {k:Nat}{ls:List (List Int)}{ns:List Int}{T:Nat->Nat->Prop}(mp:qt ls.length (k+1) ns T):goL ns ls k ls.length=goP ls k T:=by
 unfold goL goP;refine qu λj hj=>?_;rw[Mr mp (eZ.mp hj)]
theorem To {α:Type}{xs:List α}{y:α}(h:xs.getLast?=some y):atI xs (-1)=some y:=by
 have hne:xs≠[]:=λe=>(by rw[e]at h;cases h);have hp:0 < xs.length:=List.length_pos_iff.mpr hne;unfold atI ixN;rw[if_neg (by decide),if_pos (by lia)];show xs[(-1+(xs.length:Int)).toNat]?=some y;rw[show(-1+(xs.length:Int)).toNat=xs.length - 1 by lia,<-pY];exact h
theorem Gw (p:Nat->Prop)(ls:List (List Int))(n:Nat):(E1 p ls n).length<=n:=by
 unfold E1;refine bK (jY _ _) ?_;rw[gK];exact aO _
theorem Ms (ls:List (List Int))(k:Nat)(T:Nat->Nat->Prop):(goP ls k T).length<=ls.length:=by
 unfold goP;refine bK (jY _ _) ?_;rw[gK];exact aO _
theorem Gx {ls:List (List Int)}{k:Nat}{T:Nat->Nat->Prop}{x:List Int×List Nat}(h:x∈goP ls k T):∃j,ls[j]?=some x.1/\x.2=j5 T k j/\x.2≠[]:=by
 unfold goP at h;obtain⟨j,hj,e⟩:=qB.mp h
 split at e
 ·cases e
 ·rename_i hne
  obtain⟨l,el,rfl⟩:=gJ.mp e;exact⟨j,el,rfl,hne⟩
open Classical in
theorem zy {T:Nat->Nat->Prop}{k j r:Nat}:r∈j5 T k j↔1<=r/\r < k+1/\T r j:=by
 unfold j5;rw[List.mem_filter,List.mem_map];constructor
 ·intro h_1;obtain⟨⟨i,hi,rfl⟩,h⟩:=h_1;have:=eZ.mp hi;exact⟨by lia,by lia,of_decide_eq_true h⟩
 ·intro h_1;obtain⟨h1,h2,h3⟩:=h_1;exact⟨⟨r - 1,eZ.mpr (by lia),by lia⟩,decide_eq_true h3⟩
theorem B4 (T:Nat->Nat->Prop)(k j:Nat):(j5 T k j).length<=k:=by
 unfold j5;refine bK (jR _ _) ?_;rw[aG,gK];exact aO _
theorem Gy {K:aA}{H:Hp}{x:V}{b:Bg}(h:Hold K H x (bgD b)):∃p a t,x=.ref p/\SqT K H p [.ref a,.ref t]/\Hold K H (.ref a) (trD b.1)/\SqT K H t (d8 b.2):=by
 obtain⟨p,ys,rfl,hp,hy⟩:=Hold.tupI h;cases hy with
 |cons h1 r1=>cases r1 with
  |cons h2 r2=>
   cases r2;obtain⟨a,zs,rfl,ha,hz⟩:=Hold.tupI h1;obtain⟨t,us,rfl,ht,hu⟩:=Hold.tupI h2;have e2:=xx hu;subst e2;exact⟨p,a,t,rfl,hp,.tup ha hz,ht⟩
theorem Gz {K:aA}{H:Hp}{a:Addr}{t:List (List Int)}(h:Hold K H (.ref a) (trD t))(ne:t≠[]):∃xs c,SqT K H a xs/\Holds K H xs (t.map jc)/\atI xs (-1)=some (.ref c)/\SqT K H c ((t.getLastD []).map V.int):=by
 obtain⟨a',xs,e,ha,hx⟩:=Hold.tupI h;cases e;have el:t.getLast?=some (t.getLastD []):=by
  cases t with
  |nil=>exact absurd rfl ne
  |cons y ys=>rw[List.getLastD_eq_getLast?,List.getLast?_eq_some_getLast (by simp)];rfl
 have hl:xs.length=t.length:=(by rw[hx.length,aG]);have hp:0 < t.length:=List.length_pos_iff.mpr ne;have ex:xs[xs.length - 1]?=some (xs[xs.length - 1]'(by lia)):=aL (by lia);obtain⟨l,e2,hold⟩:=hx.getm ex;have e3:l=t.getLastD []:=by
  rw[pY,<-hl,e2]at el;exact eQ el
 subst e3;obtain⟨c,zs,ec,hc,hz⟩:=Hold.tupI hold;have e1:zs=(t.getLastD []).map V.int:=hz.ints;subst e1;refine⟨xs,c,ha,hx,To ?_,hc⟩;rw[pY,ex,ec]
end S25
namespace S25
open PySem L2 Bits S1 Fly PySem.Deep
theorem B5 {α:Type}{xs:List α}{d:α}(h:xs≠[]):xs.getLastD d∈xs:=by
 rw[List.getLastD_eq_getLast?,List.getLast?_eq_some_getLast h];exact List.getLast_mem h
def Q0 (K:aA)(H:Hp)(C m ba:Addr)(ls:List (List Int))(k:Nat)(W:Nat->Nat->Rl)(bs:List Bg):Prop:=
 MachAt K H C m ls k W/\LsOk ls/\k<=5/\(∃bvs,H ba=some (.lst bvs)/\Holds K H bvs (bs.map bgD))/\(∀b∈bs,Jz ls k b)/\bs.length<=400
def G8 (K:aA)(C:Addr):Sp:=λvs H Q _=>∃(m ba:Addr)(ls:List (List Int)) (k:Nat) (W:Nat->Nat->Rl) (bs:List Bg),vs=[.ref m,.ref ba]/\Q0 K H C m ba ls k W bs/\
 ∀(p:Addr)(xs:List V) (H':Hp),Same H H'->H p=none->H' p=some (.lst xs)->Holds K H' xs ((dv ls W bs).map trD)->Q (.ref p) H'
def Mt (P:aS)(w:bZ)(K:aA)(C:Addr):Sp:=λvs H Q _=>∃(m ba:Addr)(ls:List (List Int)) (k:Nat) (W:Nat->Nat->Rl) (bs:List Bg) (x:V) (Cn:Nat->Nat->Prop),vs=[.ref m,.ref ba,x]/\Q0 K H C m ba ls k W bs/\LayAt P w K H ls k Cn x/\
 ∀(p:Addr)(xs:List V) (H':Hp),Same H H'->H p=none->H' p=some (.lst xs)->Holds K H' xs ((g7 ls k W Cn bs).map bgD)->Q (.ref p) H'
theorem Aa {ls:List (List Int)}{W:Nat->Nat->Rl}(bs:List Bg):(dv ls W bs).length<=bs.length * ls.length:=by
 unfold dv;refine n9 λb _=>?_;rw[aG];exact Gw _ _ _
theorem Tp (ls:List (List Int))(k:Nat)(W:Nat->Nat->Rl)(Cn:Nat->Nat->Prop)(b:Bg):(onP ls k W Cn b).length<=ls.length:=by
 unfold onP;exact bK (jY _ _) (Ms _ _ _)
theorem vy {ls:List (List Int)}{k:Nat}{W:Nat->Nat->Rl}{Cn:Nat->Nat->Prop}(bs:List Bg):(g7 ls k W Cn bs).length<=bs.length * ls.length:=by
 unfold g7;exact n9 λb _=>Tp ls k W Cn b
theorem Fk {ls:List (List Int)}{W:Nat->Nat->Rl}(bs:List Bg)(b:Bg):dv ls W (bs++[b])=dv ls W bs++(pq ls W b).map λe=>b.1++[e]:=by
 unfold dv;rw[iR];simp
theorem J0 {ls:List (List Int)}{k:Nat}{W:Nat->Nat->Rl}{Cn:Nat->Nat->Prop}(bs:List Bg)(b:Bg):g7 ls k W Cn (bs++[b])=g7 ls k W Cn bs++onP ls k W Cn b:=by
 unfold g7;rw[iR];simp
section
variable {P:aS}{w:bZ}{K:aA}{mg:Str->Option aB}{base:Heap}{C:Addr}
theorem Cr:ar ["machine","beginnings","told","begun","rooms"] ["machine","beginnings"] (aj yy):=fsN
def Mu:gG:={ kind:=.function,names:=[(".0",.local),("end",.local),("begun",.free)],isGenerator:=false,isCoroutine:=false,more:=[] }
theorem Xk {CX:CXT}{f:Addr}{cdv:aB}{A:cW}{outer:List Env}{s:aI}{H:Hp}{E:XK} :
  cb (bf CX P w K mg base ["machine","beginnings","told","begun","rooms"] "ended" (aj yy) f cdv A outer s H E).nox ["end"] ["begun"] [3] Mu [("begun",s.heap.objs.size+1)]:=csN [(".0",.local),("end",.local),("begun",.cell)]
theorem Pt {f:Addr}{fd:cC}(F:Fun K "ended" "ended" yy f fd)(M:MC K C)(hE:qr P w K mg base C 2 "ends_from" ["self","rooms","letter"] (Bh K C)):FnOk P w K mg base CX0 3 f fd ["machine","beginnings"] (G8 K C):=by
 obtain⟨fE,dE,GE,bE,mE⟩:=hE;refine F.ok Cr (λvs H Q E h=>?_) (λcdv A outer s H vs Q E hr h=>?_)
 ·obtain⟨m,ba,ls,k,W,bs,rfl,_⟩:=h;rfl
 obtain⟨m,ba,ls,k,W,bs,rfl,⟨mach,lok,k5,⟨bvs,hba,hbv⟩,bok,b400⟩,q⟩:=h;refine⟨_,ah (ax (i:=2) Cr.nd rfl (bV rfl) (av af)) (ah (de eB rfl (ck (pv 1)) (jz rfl (cn (ay (i:=3) Cr.nd rfl (lJ rfl)) (cn (ay (i:=4) Cr.nd rfl (bV rfl)) im))) (ai (bx (gi cX jV jW oq (pv 2) (ac (cy (ns:=["end"]) (ys:=["begun"]) (sc:=Mu) Xk rfl (ck (jf (pv 0) M.cl mE GE hr bE .nil az (ac (pv 4) (ac (aq cf (pv 3) (j7 je ag) (λ_ _=>rfl)) af)))) (λC s H fp=>ay (i:=0) (by show(["end","begun"]:List Str).Nodup;decide +kernel) rfl (bV rfl)) (λC s H fp=>cw) (λC s H fp=>bc (r:=λx y H Q=>mf K x y H Q\/jj K x y H Q) ni (pv 1) (bq (ac (pv 0) af)))) af))))) (ai (au (pv 2)))),?_⟩;dsimp only[bf,Cx.nox];have n3:=lok.few;have bl:bvs.length=bs.length:=(by rw[hbv.length,aG]);refine⟨sz0,λu hu=>?_⟩;refine⟨_,rfl,ba,rfl,⟨_,SqL.of (ad hu _ _ _ hba)⟩,gq (K:=K) (a:=ba) (xs:=bvs) (λi σ G=>∃(zs:List V)(v3 v4:Option V),σ=[some (.ref m),some (.ref ba),some (.ref u),v3,v4]/\Same H G/\G u=some (.lst zs)/\Holds K G zs ((dv ls W (bs.take i)).map trD)) ⟨[],none,none,rfl,ad hu _,ae,.nil⟩ (λi σ G _ h0_=>by obtain⟨_,_,_,_,sG,_⟩:=h0_;exact SqL.of (sG _ _ hba)) ?_ ?_⟩
 ·intro i x σ G hx h_1;obtain⟨zs,v3,v4,rfl,sG,gu,hz⟩:=h_1;generalize hE1_:db.mk _ _ _ _=E1_;revert hE1_ E1_;refine id ?_;intro E1_ hE1_;obtain⟨b,eb,hb⟩:=hbv.getm hx;have hi:i < bs.length:=(aK.mp eb).1;have bk:=bok b (bQ eb);obtain⟨p,a,t,rfl,hp,ha,ht⟩:=Gy (hb.mono sG);obtain⟨ws,c,haw,hws,hlast,hc⟩:=Gz ha bk.ne;have wl:ws.length=b.1.length:=(by rw[hws.length,aG]);have wne:ws≠[]:=λe=>bk.ne (by rw[e]at wl;exact gM.mp wl.symm);have lm:b.1.getLastD []∈ls:=bk.mem _ (B5 bk.ne);have zl:zs.length<=400 * 300:=by
   rw[hz.length,aG];refine bK (Aa _) (kQ ?_ n3);rw[cQ];lia
  refine⟨p,_,rfl,hp,rfl,_,_,rfl,_,_,rfl,rfl,?_⟩;obtain⟨dx,r1,xw,hm,_⟩:=id mach;refine⟨_,rfl,.inl ⟨rfl,_,SqL.of gu⟩,_,rfl,m,dx,_,rfl,sG _ _ hm,rfl,_,rfl,_,rfl,_,rfl,a,_,_,_,rfl,rfl,haw,hlast,m,t,c,ls,k,W,b.2,b.1.getLastD [],rfl,⟨mach.mono sG,ht,bk.rm,bk.few,hc,lm,n3,by lia⟩,λp1 mk G1 s1 h1 mp la=>?_⟩;obtain⟨lvs,gl,hlv⟩:=la;rw[E2 mp ls _ (aO _)]at hlv;have lvl:lvs.length=(pq ls W b).length:=(by rw[hlv.length,aG];rfl);have el3:(pq ls W b).length<=300:=bK (Gw _ _ _) n3;refine⟨p1,rfl,⟨_,SqL.of gl⟩,λD hD=>?_⟩;refine dm (K:=K) (a:=p1) (xs:=lvs) (λj ys G2=>Same G1 G2/\G2 D=some (.lst ys)/\Holds K G2 ys ((((pq ls W b).take j).map λe=>b.1++[e]).map trD)) ⟨ad hD _,ae,.nil⟩ (λj ys G2 z=>z.2.1) (λj ys G2 _ z=>SqL.of (z.1 _ _ gl)) ?_ ?_
  ·intro j y ys G2 hy h_1;obtain⟨s2,gD,hys⟩:=h_1;obtain⟨e,ee,he⟩:=Holds.getm (ls:=pq ls W b) (f:=jc) hlv hy;have hj:j < (pq ls W b).length:=(aK.mp ee).1;obtain⟨ea,es,rfl,hea,hes⟩:=Hold.tupI he;have e1:es=e.map V.int:=hes.ints;subst e1;have yl:ys.length<=300:=(by rw[hys.length,aG,aG,cQ];lia);refine⟨bg (by lia),⟨[some _],rfl,rfl⟩,?_⟩;refine⟨_,rfl,_,rfl,sz1,λt3 ht3=>?_⟩;have u3:=ad ht3 (.tup [.ref ea]);have sA:=Same.trans s1 (Same.trans s2 u3);have bs1:=bk.short;refine .inl ⟨a,t3,ws,[.ref ea],rfl,rfl,haw.same sA,SqT.of ae,wne,small (by show ws.length+1<=_;lia),(λe=>by cases e),λ_ p4 hp4=>?_⟩;have u4:=ad hp4 (.tup (ws++[.ref ea]));have u34:=Same.trans u3 u4;have gD4:=u34 _ _ gD;refine⟨gD4,Same.put (Same.trans s2 u34) hD _,ae,?_⟩;have tk:(pq ls W b).take (j+1)=(pq ls W b).take j++[e]:=(by rw[dJ,ee];rfl);rw[tk,aZ,aZ];have tps:=(Tups.of u34).trans (Tups.put gD4 (.lst (ys++[.ref p4])));refine(hys.stay tps (by rw[jF];exact bw (λ_=>qa _) _)).append (.one (.tup (xs:=ws++[.ref ea]) (SqT.of ?_) ?_))
   ·rw[al (iw ae gD4 (by intro z;cases z)),ae]
   ·rw[aZ];exact(hws.stay ((Tups.of (Same.trans s1 s2)).trans tps) (bw gz _)).append (.one (.tup ((hea.same s2).tups tps) (fz _)))
  ·intro ys G2 h_1;obtain⟨s2,gD,hys⟩:=h_1;rw[lvl,dZ]at hys;have yl:ys.length<=300:=(by rw[hys.length,aG,aG];exact el3);have sA:=Same.trans s1 s2;have gu2:=sA _ _ gu;refine⟨u,D,zs,ys,rfl,rfl,gu2,gD,iE (j4 (by lia)),?_⟩;subst hE1_;refine⟨_,_,_,rfl,Same.put (Same.trans sG sA) hu _,ae,?_⟩;have tk:bs.take (i+1)=bs.take i++[b]:=(by rw[dJ,eb];rfl);rw[tk,Fk,aZ];have tps:=Tups.put gu2 (.lst (zs++ys));exact(hz.stay ((Tups.of sA).trans tps) (bw qa _)).append (hys.stay tps (by rw[jF];exact bw (λ_=>qa _) _))
 ·intro σ G h_1;obtain⟨zs,v3,v4,rfl,sG,gu,hz⟩:=h_1;rw[bl,dZ]at hz;exact⟨_,rfl,q u zs G sG hu gu hz⟩
end
end S25
namespace S25
open PySem L2 Bits S1 Fly PySem.Deep
open Classical in
noncomputable def ic (ls:List (List Int))(Cn:Nat->Nat->Prop)(l:List Int)(rs:List Nat):List Nat:=rs.filter λr=>decide (Cn r (ls.idxOf l))
theorem Mv {ls:List (List Int)}{Cn:Nat->Nat->Prop}{l:List Int}{rs:List Nat}{r:Nat}(h:Cn r (ls.idxOf l)):ic ls Cn l (rs++[r])=ic ls Cn l rs++[r]:=by
 unfold ic;rw[nB];congr 1;rw[pH,if_pos (by simpa using h)];rfl
theorem Pu {ls:List (List Int)}{Cn:Nat->Nat->Prop}{l:List Int}{rs:List Nat}{r:Nat}(h:¬Cn r (ls.idxOf l)):ic ls Cn l (rs++[r])=ic ls Cn l rs:=by
 unfold ic;rw[nB,pH,if_neg (by simpa using h)];simp
theorem E3 (ls:List (List Int))(Cn:Nat->Nat->Prop)(l:List Int)(rs:List Nat):(ic ls Cn l rs).length<=rs.length:=jR _ _
theorem E4 (ls:List (List Int))(Cn:Nat->Nat->Prop)(b:Bg)(x:List Int×List Nat):ux ls Cn b x=if ic ls Cn x.1 x.2=[]then none else some (b.1++[x.1],ic ls Cn x.1 x.2):=rfl
theorem Ha {ls:List (List Int)}{Cn:Nat->Nat->Prop}{b:Bg}(xs:List (List Int×List Nat))(x:List Int×List Nat):(xs++[x]).filterMap (ux ls Cn b)=xs.filterMap (ux ls Cn b)++if ic ls Cn x.1 x.2=[]then []else [(b.1++[x.1],ic ls Cn x.1 x.2)]:=by
 rw[jQ];congr 1;rw[gR,E4];by_cases h:ic ls Cn x.1 x.2=[]
 ·rw[if_pos h,if_pos h];rfl
 ·rw[if_neg h,if_neg h];rfl
section
variable {P:aS}{w:bZ}{K:aA}{mg:Str->Option aB}{base:Heap}{C:Addr}
theorem uy:ar ["machine","beginnings","ending","longer","begun","rooms","letter","later","kept"] ["machine","beginnings","ending"] (aj Ch):=fsN
def Mw:gG:={ kind:=.function,names:=[(".0",.local),("room",.local),("ending",.free),("letter",.free)],isGenerator:=false,isCoroutine:=false,more:=[] }
theorem Xl {CX:CXT}{f:Addr}{cdv:aB}{A:cW}{outer:List Env}{s:aI}{H:Hp}{E:XK} :
  cb (bf CX P w K mg base ["machine","beginnings","ending","longer","begun","rooms","letter","later","kept"] "gone_on" (aj Ch) f cdv A outer s H E).nox ["room"] ["ending","letter"] [2,6] Mw [("letter",s.heap.objs.size+1+1),("ending",s.heap.objs.size+1)]:=csN [(".0",.local),("room",.local),("ending",.cell),("letter",.cell)]
theorem Tq {f:Addr}{fd:cC}(F:Fun K "gone_on" "gone_on" Ch f fd)(M:MC K C)(hG:qr P w K mg base C 2 "goes_from" ["self","rooms","letter"] (Bi K C))(mt:mg "tuple"=none):FnOk P w K mg base CX0 3 f fd ["machine","beginnings","ending"] (Mt P w K C):=by
 obtain⟨fG,dG,GG,bG,mG⟩:=hG;refine F.ok uy (λvs H Q E h=>?_) (λcdv A outer s H vs Q E hr h=>?_)
 ·obtain⟨m,ba,ls,k,W,bs,x,Cn,rfl,_⟩:=h;rfl
 obtain⟨m,ba,ls,k,W,bs,x,Cn,rfl,⟨mach,lok,k5,⟨bvs,hba,hbv⟩,bok,b400⟩,⟨la,kvs,mx,rfl,dl,lay,hmx⟩,q⟩:=h;refine⟨_,ah (ax (i:=3) uy.nd rfl (bV rfl) (av af)) (ah (de eB rfl (ck (pv 1)) (jz rfl (cn (ay (i:=4) uy.nd rfl (bV rfl)) (cn (ay (i:=5) uy.nd rfl (bV rfl)) im))) (ai (de eB rfl (ck (jf (pv 0) M.cl mG GG hr bG .nil az (ac (pv 5) (ac (aq cf (pv 4) (j7 je ag) (λ_ _=>rfl)) af)))) (jz rfl (cn (ay (i:=6) uy.nd rfl (lJ rfl)) (cn (ay (i:=7) uy.nd rfl (bV rfl)) im))) (ah (ax (i:=8) uy.nd rfl (bV rfl) (ku oy rfl mt (by kernel_rfl) (ac (cy (ns:=["room"]) (ys:=["ending","letter"]) (sc:=Mw) Xl rfl (on (pv 7)) (λC s H fp=>ay (i:=0) (by show(["room","ending","letter"]:List Str).Nodup;decide +kernel) rfl (bV rfl)) (λC s H fp=>nh (bi (Mi (P:=P) (w:=w) (K:=K) rfl rfl rfl (hu8 hr)) (bq (ac (pv 0) (ac (pv 2) af))) (pv 1) (by with_unfolding_all rfl))) (λC s H fp=>pv 0)) af))) (ai (cj (j9 (pv 8) (λ_=>rfl)) (ai (bx (gi cX fV fX dy (pv 3) (ac (bq (ac (bc (r:=λx y H Q=>mf K x y H Q\/jj K x y H Q) ni (pv 4) (bq (ac (pv 6) af))) (ac (pv 8) af))) af)))) bo)))))) (ai (au (pv 3)))),?_⟩
 dsimp only[bf,Cx.nox];have n3:=lok.few;have bl:bvs.length=bs.length:=(by rw[hbv.length,aG]);refine⟨sz0,λu hu=>?_⟩;refine⟨_,rfl,ba,rfl,⟨_,SqL.of (ad hu _ _ _ hba)⟩,gq (K:=K) (a:=ba) (xs:=bvs) (λi σ G=>∃(zs:List V)(v4 v5 v6 v7 v8:Option V),σ=[some (.ref m),some (.ref ba),some (.ref la),some (.ref u),v4,v5,v6,v7,v8]/\Same H G/\G u=some (.lst zs)/\Holds K G zs ((g7 ls k W Cn (bs.take i)).map bgD)) ⟨[],none,none,none,none,none,rfl,ad hu _,ae,.nil⟩ (λi σ G _ h0_=>by obtain⟨_,_,_,_,_,_,_,sG,_⟩:=h0_;exact SqL.of (sG _ _ hba)) ?_ ?_⟩
 ·intro i x σ G hx h_1;obtain⟨zs,v4,v5,v6,v7,v8,rfl,sG,gu,hz⟩:=h_1;generalize hE1_:db.mk _ _ _ _=E1_;revert hE1_ E1_;refine id ?_;intro E1_ hE1_;obtain⟨b,eb,hb⟩:=hbv.getm hx;have hi:i < bs.length:=(aK.mp eb).1;have bk:=bok b (bQ eb);obtain⟨p,a,t,rfl,hp,ha,ht⟩:=Gy (hb.mono sG);obtain⟨ws,c,haw,hws,hlast,hc⟩:=Gz ha bk.ne;have wl:ws.length=b.1.length:=(by rw[hws.length,aG]);have wne:ws≠[]:=λe=>bk.ne (by rw[e]at wl;exact gM.mp wl.symm);have lm:b.1.getLastD []∈ls:=bk.mem _ (B5 bk.ne);have bs1:=bk.short;have zl:zs.length<=400 * 300:=by
   rw[hz.length,aG];refine bK (vy _) (kQ ?_ n3);rw[cQ];lia
  refine⟨p,_,rfl,hp,rfl,_,_,rfl,_,_,rfl,rfl,?_⟩;obtain⟨dx,r1,xw,hm,_⟩:=id mach;refine⟨_,rfl,m,dx,_,rfl,sG _ _ hm,rfl,_,rfl,_,rfl,_,rfl,a,_,_,_,rfl,rfl,haw,hlast,m,t,c,ls,k,W,b.2,b.1.getLastD [],rfl,⟨mach.mono sG,ht,bk.rm,bk.few,hc,lm,n3,by lia⟩,λp1 ns xs G1 s1 h1 mp gl hgo=>?_⟩;rw[V1 mp]at hgo;generalize hgo':goP ls k (mw W b.2 (ls.idxOf (b.1.getLastD [])))=go at hgo;have gol:go.length<=300:=(by rw[<-hgo'];exact bK (Ms _ _ _) n3);have xl:xs.length=go.length:=(by rw[hgo.length,aG]);have p1u:p1≠u:=λe=>(by subst e;rw[gu]at h1;cases h1);have tk:bs.take (i+1)=bs.take i++[b]:=(by rw[dJ,eb];rfl);have eon:onP ls k W Cn b=go.filterMap (ux ls Cn b):=(by rw[<-hgo'];rfl);refine⟨p1,rfl,⟨_,SqL.of gl⟩,gq (K:=K) (a:=p1) (xs:=xs) (λj σ G2=>∃(zs:List V)(v6 v7 v8:Option V),σ=[some (.ref m),some (.ref ba),some (.ref la),some (.ref u),some (.ref a),some (.ref t),v6,v7,v8]/\Same H G2/\Tups G1 G2/\G2 p1=some (.lst xs)/\G2 u=some (.lst zs)/\Holds K G2 zs ((g7 ls k W Cn (bs.take i)++(go.take j).filterMap (ux ls Cn b)).map bgD)) ⟨zs,_,_,_,rfl,Same.trans sG s1,Tups.of (λ_ _ z=>z),gl,s1 _ _ gu,by rw[List.take_zero,List.filterMap_nil,iM];exact hz.mono s1⟩ (λj σ G2 _ h0_=>by obtain⟨_,_,_,_,_,_,_,z,_⟩:=h0_;exact SqL.of z) ?_ ?_⟩
  ·intro j y σ G2 hy h_1;obtain⟨zs,v6,v7,v8,rfl,sG2,tG2,gl2,gu2,hz2⟩:=h_1;generalize hE2_:db.mk _ _ _ _=E2_;revert hE2_ E2_;refine id ?_;intro E2_ hE2_;obtain⟨g,eg,hg⟩:=Holds.getm (ls:=go) (f:=goD) hgo hy;have hj:j < go.length:=(aK.mp eg).1;obtain⟨pp,ga,gt,rfl,hpp,hga,hgt⟩:=Er (hg.stay tG2 (Bf g));obtain⟨j0,ej0,eg2,_⟩:∃j0,ls[j0]?=some g.1/\g.2=j5 (mw W b.2 (ls.idxOf (b.1.getLastD []))) k j0/\g.2≠[]:=Gx (by rw[hgo'];exact bQ eg);have g2l:g.2.length<=10:=(by rw[eg2];have:=B4 (mw W b.2 (ls.idxOf (b.1.getLastD []))) k j0;lia);have gm:g.1∈ls:=bQ ej0;have zl2:zs.length<=400 * 300+300:=by
    rw[hz2.length,aG,aN];have h2:=jY (ux ls Cn b) (go.take j);rw[cQ]at h2;have h3:(g7 ls k W Cn (bs.take i)).length<=400 * 300:=by
     refine bK (vy _) (kQ ?_ n3);rw[cQ];lia
    lia
   refine⟨pp,_,rfl,hpp,rfl,_,_,rfl,_,_,rfl,rfl,?_⟩;refine⟨_,rfl,gt,rfl,⟨_,hgt⟩,λD hD=>?_⟩;refine qf (K:=K) (a:=gt) (xs:=d8 g.2) (λe ys G3=>Same G2 G3/\G3 D=some (.lst ys)/\ys=d8 (ic ls Cn g.1 (g.2.take e))) ⟨ad hD _,ae,rfl⟩ (λe ys G3 z=>z.2.1) (λe ys G3 _ z=>hgt.same z.1) ?_ ?_
   ·intro e y ys G3 hy3 h_1;obtain⟨s3,gD,rfl⟩:=h_1;unfold d8 at hy3;rw[eK]at hy3;obtain⟨rm,er,rfl⟩:=gJ.mp hy3;have hrm:rm∈g.2:=bQ er;rw[eg2]at hrm;obtain⟨q1,q2,_⟩:=zy.mp hrm;have kl:=E3 ls Cn g.1 (g.2.take e);rw[cQ]at kl;refine⟨bg (by unfold d8;rw[aG];lia),⟨[some _],rfl,rfl⟩,?_⟩;refine⟨_,rfl,_,rfl,sz2,λp3 hp3=>?_⟩;have t3:=ad hp3 (.tup [.int (rm:Int),.ref ga]);have s13:=Same.trans sG2 (Same.trans s3 t3);refine⟨_,rfl,p3,kOf rm g.1,la,kvs,rfl,rfl,Gs (SqT.of ae) (hga.same (Same.trans s3 t3)),dl.mono s13,_,rfl,?_⟩;have tke:g.2.take (e+1)=g.2.take e++[rm]:=(by rw[dJ,er];rfl);have hC:=lay.has rm j0 g.1 q2 ej0;have eix:=lok.at ej0;refine c9 (λcc=>?_) (λcc=>?_)
    ·have c':Cn rm (ls.idxOf g.1):=(by rw[eix];exact hC.mp cc);refine⟨_,rfl,t3 _ _ gD,Same.put (Same.trans s3 t3) hD _,ae,?_⟩;rw[tke,Mv c'];unfold d8;rw[aZ];rfl
    ·have c':¬Cn rm (ls.idxOf g.1):=(by rw[eix];exact λz=>cc (hC.mpr z));refine⟨Same.trans s3 t3,t3 _ _ gD,?_⟩;rw[tke,Pu c']
   ·intro ys G3 h_1;obtain⟨s3,gD,rfl⟩:=h_1;have e5:g.2.take (d8 g.2).length=g.2:=(by unfold d8;rw[aG,dZ]);rw[e5]at gD;refine⟨D,_,rfl,.inl ⟨SqL.of gD,λt4 ht4=>?_⟩⟩;have u4:=ad ht4 (.tup (d8 (ic ls Cn g.1 g.2)));have s34:=Same.trans s3 u4;have gu4:=s34 _ _ gu2;have tkg:go.take (j+1)=go.take j++[g]:=(by rw[dJ,eg];rfl);refine⟨_,rfl,_,.inr (.inl ⟨_,SqT.of ae,rfl⟩),?_⟩;refine c9 (λcc=>?_) (λcc=>?_)
    ·have cne:ic ls Cn g.1 g.2≠[]:=λe=>(by rw[e]at cc;cases cc);refine⟨_,rfl,.inl ⟨rfl,_,SqL.of gu4⟩,_,rfl,_,rfl,sz1,λt5 ht5=>?_⟩;have u5:=ad ht5 (.tup [.ref ga]);have haw4:SqT K _ a ws:=((haw.same s1).tups tG2).same (Same.trans s34 u5);refine .inl ⟨a,t5,ws,[.ref ga],rfl,rfl,haw4,SqT.of ae,wne,small (by show ws.length+1<=_;lia),(λe=>by cases e),λ_ p6 hp6=>?_⟩;have u6:=ad hp6 (.tup (ws++[.ref ga]));refine⟨_,rfl,sz2,λp7 hp7=>?_⟩;have u7:=ad hp7 (.tup [.ref p6,.ref t4]);have u57:=Same.trans u5 (Same.trans u6 u7);have s37:=Same.trans s34 u57;have gu7:=s37 _ _ gu2;refine⟨u,_,_,rfl,rfl,gu7,j4 (by lia),?_⟩;have tps:=(Tups.of s37).trans (Tups.put gu7 (.lst (zs++[.ref p7])));have tp4:=(Tups.of u57).trans (Tups.put gu7 (.lst (zs++[.ref p7])));have tp6:=(Tups.of u7).trans (Tups.put gu7 (.lst (zs++[.ref p7])));subst hE2_;refine⟨_,_,_,_,rfl,Same.put (Same.trans sG2 s37) hu _,tG2.trans tps,by rw[al p1u];exact s37 _ _ gl2,ae,?_⟩;rw[tkg,Ha,if_neg cne,<-lU,aZ];refine(hz2.stay tps (bw Gv _)).append (.one (.tup (xs:=[.ref p6,.ref t4]) (SqT.of ?_) (.cons (.tup (xs:=ws++[.ref ga]) ((SqT.of ae).tups tp6) ?_) (.cons (.tup ((SqT.of ae).tups tp4) (rz _)) .nil))))
     ·rw[al (iw ae gu7 (by intro z;cases z)),ae]
     ·rw[aZ];exact(hws.stay (((Tups.of s1).trans tG2).trans tps) (bw gz _)).append (.one (.tup (hga.tups tps) (fz _)))
    ·have ce:ic ls Cn g.1 g.2=[]:=by
      cases e:ic ls Cn g.1 g.2 with
      |nil=>rfl
      |cons y z=>rw[e]at cc;exact absurd rfl cc
     subst hE2_;refine⟨_,_,_,_,rfl,Same.trans sG2 s34,tG2.trans (Tups.of s34),s34 _ _ gl2,gu4,?_⟩;rw[tkg,Ha,if_pos ce,iM];exact hz2.mono s34
  ·intro σ G2 h_1;obtain⟨zs,v6,v7,v8,rfl,sG2,tG2,gl2,gu2,hz2⟩:=h_1;rw[xl,dZ,<-eon,<-J0,<-tk]at hz2;subst hE1_;exact⟨zs,_,_,_,_,_,rfl,sG2,gu2,hz2⟩
 ·intro σ G h_1;obtain⟨zs,v4,v5,v6,v7,v8,rfl,sG,gu,hz⟩:=h_1;rw[bl,dZ]at hz;exact⟨_,rfl,q u zs G sG hu gu hz⟩
end
end S25
namespace S25
open PySem L2 Bits S1 Fly PySem.Deep PyProof.Rows
noncomputable def m9 (ls:List (List Int))(k:Nat)(W:Nat->Nat->Rl):Nat->List (List (List Int))->List Bg->Option (List (List (List Int)))
 |0,told,bs=>if 400 < (told++dv ls W bs).length then none else some (told++dv ls W bs)
 |t+1,told,bs=>if 400 < (told++dv ls W bs).length+(g7 ls k W (fk ls.length k W t) bs).length then none else m9 ls k W t (told++dv ls W bs) (g7 ls k W (fk ls.length k W t) bs)
abbrev J1:List (Str×V):=[("number",.int 401),("most",.int 400)]
def Mx (K:aA)(C cG:Addr):Sp:=λvs H Q E=>∃(m lt:Addr)(ls:List (List Int)) (k c:Nat) (W:Nat->Nat->Rl) (l:List Int),vs=[.ref m,.ref lt,.int (c:Int)]/\MachAt K H C m ls k W/\LsOk ls/\k<=5/\c<=10/\SqT K H lt (l.map V.int)/\l∈ls/\
 (∀tr,m9 ls k W c [] [([l],[0])]=some tr->∀(p:Addr)(xs:List V) (H':Hp),Same H H'->H' p=some (.lst xs)->Holds K H' xs (tr.map trD)->Q (.ref p) H')/\
 (m9 ls k W c [] [([l],[0])]=none->∀dx H',Same H H'->H' dx=some (.xd J1)->E (.ref cG) (some dx) H')
theorem Pw {ls:List (List Int)}{k:Nat}{W:Nat->Nat->Rl}{Cn:Nat->Nat->Prop}{bs:List Bg}{i:Nat}(hk:k<=5)(hi:i<=50)(hb:∀b∈bs,Jz ls k b/\b.1.length<=i+1):∀b∈g7 ls k W Cn bs,Jz ls k b/\b.1.length<=i+1+1:=by
 intro b h;unfold g7 at h;obtain⟨b0,hb0,h⟩:=List.mem_flatMap.mp h;obtain⟨k0,l0⟩:=hb b0 hb0;unfold onP at h;obtain⟨x,hx,e⟩:=qB.mp h;rw[E4]at e
 split at e
 ·cases e
 ·cases e;obtain⟨j,ej,e2,_⟩:=Gx hx;have kl:=E3 ls Cn x.1 x.2;have xl:x.2.length<=k:=(by rw[e2];exact B4 _ _ _);refine⟨⟨by simp,λl hl=>?_,λr hr=>?_,by show(ic ls Cn x.1 x.2).length<=400;lia,by show(b0.1++[x.1]).length<=100;rw[aN];show _+1<=100;lia⟩,by show(b0.1++[x.1]).length<=_;rw[aN];show _+1<=_;lia⟩
  ·rcases eI.mp hl with z | z
   ·exact k0.mem l z
   ·rw[cE.mp z];exact bQ ej
  ·have hr':r∈x.2:=(vC.mp (show r∈ic ls Cn x.1 x.2 from hr)).1;rw[e2]at hr';exact(zy.mp hr').2.1
theorem B6 {H:Hp}{e dx:Addr}{o1 o2 o3 o4:HO}(he:H e=none)(hd:upd H e o1 dx=none)(ne:dx≠e):Same H (del (upd (upd (upd (upd H e o1) dx o2) e o3) dx o4) e)/\del (upd (upd (upd (upd H e o1) dx o2) e o3) dx o4) e dx=some o4:=by
 have hd0:H dx=none:=(by rw[al ne]at hd;exact hd);refine⟨λb o z=>?_,?_⟩
 ·have h1:b≠e:=am z he;have h2:b≠dx:=am z hd0;rw[jk h1,al h2,al h1,al h2,al h1];exact z
 ·rw[jk ne,ae]
section
variable {P:aS}{w:bZ}{K:aA}{mg:Str->Option aB}{base:Heap}{C cG:Addr}
theorem wu:ar ["machine","letter","count","ending","told","beginnings","left"] ["machine","letter","count"] (aj Iq):=fsN
theorem Tr {f fI:Addr}{fd fdI:cC}{tk:Tok}(F:Fun K "runs_from" "runs_from" Iq f fd)(hCn:Has P w K mg base 5 "that_can_end" ["machine","count"] (Qz P w K C))(hEn:Has P w K mg base 3 "ended" ["machine","beginnings"] (G8 K C))(hGo:Has P w K mg base 3 "gone_on" ["machine","beginnings","ending"] (Mt P w K C))
  (cx:ik K cG) (n1:NoAttr K cG "number") (n2:NoAttr K cG "most") (hi:aW K (.ref cG) "__init__"=some (some (.ref fI))) (lf:∃oI,K.lookup fI=some oI/\oI.cls=.type "function")
  (GI:FnOk P w K mg base CX0 1 fI fdI ["self","number","most"] (Fw K cG)) (bI:Binds K fdI ["self","number","most"] []) (mC:mg "TooGreat"=some (.ref cG)) (mM:mg "MOST_TRAILS"=some (.int 400 tk)) (mr:mg "range"=none) (ml:mg "len"=none) :
  FnOk P w K mg base (CXx P w) 6 f fd ["machine","letter","count"] (Mx K C cG):=by
 obtain⟨fC,dC,GC,bC,kC,mCn⟩:=hCn;obtain⟨fE,dE,GE,bE,kE,mE⟩:=hEn;obtain⟨fG,dG,GG,bG,kG,mG⟩:=hGo;refine F.okX wu (λvs H Q E h=>?_) (λcdv A outer s H vs Q E hr h=>?_)
 ·obtain⟨m,lt,ls,k,c,W,l,rfl,_⟩:=h;rfl
 obtain⟨m,lt,ls,k,c,W,l,rfl,mach,lok,k5,c10,hlt,hl,q1,q2⟩:=h;refine⟨_,ah (ax (i:=3) wu.nd rfl (bV rfl) (ao GC hr rfl mCn kC bC .nil az (ac (pv 0) (ac (pv 2) af)))) (ah (ax (i:=4) wu.nd rfl (bV rfl) (av af)) (ah (ax (i:=5) wu.nd rfl (bV rfl) (av (ac (bq (ac (bq (ac (pv 1) af)) (ac (bq (bj ag af)) af))) af))) (ah (de uC rfl (Tn rfl mr (ac (pv 2) (ac (j7 je ag) (ac (j7 je ag) af)))) (ay (i:=6) wu.nd rfl (bV rfl)) (ah (bx (gi cX jV jW oq (pv 4) (ac (ao GE (hr.mono (by decide)) rfl mE kE bE .nil az (ac (pv 0) (ac (pv 5) af))) af))) (ah (ax (i:=5) wu.nd rfl (bV rfl) (tq (j9 (pv 6) (λ_=>rfl)) (ao GG (hr.mono (by decide)) rfl mG kG bG .nil az (ac (pv 0) (ac (pv 5) (ac (aq aw (pv 3) (bc Cz (pv 6) ag) (λ_ _=>rfl)) af)))) (av af))) (ai (cj (bi ye (bc iy (bp br rfl ml eX (ac (pv 4) af)) (bp br rfl ml eX (ac (pv 5) af))) (ie (v:=.int 400) rfl mM ⟨_,rfl⟩) (bn _)) (ai (qj cx (qi cx hi lf GI (hr.mono (by decide)) rfl mC bI (ac (bc iy (ie (v:=.int 400) rfl mM ⟨_,rfl⟩) ag) (ac (ie (v:=.int 400) rfl mM ⟨_,rfl⟩) af))))) bo))))) (ai (au (pv 4)))))),?_⟩;dsimp only[bf,Cx.nox];refine⟨_,rfl,_,rfl,m,ls,k,c,W,rfl,mach,lok,k5,c10,λea lvs H1 s1 h1 ge lay=>?_⟩;refine⟨sz0,λu hu=>?_⟩;have tu:=ad hu (.lst []);refine⟨_,rfl,sz1,λt1 ht1=>?_⟩;have tt1:=ad ht1 (.tup [.ref lt]);refine⟨sz1,λt2 ht2=>?_⟩;have tt2:=ad ht2 (.tup [.int 0]);refine⟨sz2,λt3 ht3=>?_⟩;have tt3:=ad ht3 (.tup [.ref t1,.ref t2]);refine⟨sz1,λb0 hb0=>?_⟩;have tb:=ad hb0 (.lst [.ref t3]);have sB:=Same.trans tu (Same.trans tt1 (Same.trans tt2 (Same.trans tt3 tb)));have n3:=lok.few;have hd0:Holds K (upd (upd (upd (upd (upd H1 u (.lst [])) t1 (.tup [.ref lt])) t2 (.tup [.int 0])) t3 (.tup [.ref t1,.ref t2])) b0 (.lst [.ref t3])) [.ref t3] (([([l],[0])]:List Bg).map bgD):=by
  refine .one (.tup (xs:=[.ref t1,.ref t2]) (SqT.of (tb _ _ ae)) (.cons (.tup (xs:=[.ref lt]) (SqT.of ((Same.trans tt2 (Same.trans tt3 tb)) _ _ ae)) (.one (.tup (hlt.same (Same.trans s1 sB)) (fz _)))) (.cons (.tup (xs:=[.int 0]) (SqT.of ((Same.trans tt3 tb) _ _ ae)) (.cons (.flat rfl) .nil)) .nil)))
 have gu0:(upd (upd (upd (upd (upd H1 u (.lst [])) t1 (.tup [.ref lt])) t2 (.tup [.int 0])) t3 (.tup [.ref t1,.ref t2])) b0 (.lst [.ref t3])) u=some (.lst []):=(Same.trans tt1 (Same.trans tt2 (Same.trans tt3 tb))) _ _ ae;have gb0:(upd (upd (upd (upd (upd H1 u (.lst [])) t1 (.tup [.ref lt])) t2 (.tup [.int 0])) t3 (.tup [.ref t1,.ref t2])) b0 (.lst [.ref t3])) b0=some (.lst [.ref t3]):=ae;have b0u:b0≠u:=λe=>(by subst e;rw[(Same.trans tt1 (Same.trans tt2 tt3)) _ _ (show upd H1 b0 (.lst []) b0=some (.lst [])from ae)]at hb0;cases hb0);generalize upd (upd (upd (upd (upd H1 u (.lst [])) t1 (.tup [.ref lt])) t2 (.tup [.int 0])) t3 (.tup [.ref t1,.ref t2])) b0 (.lst [.ref t3])=G0 at sB hd0 gu0 gb0 ⊢;refine⟨_,rfl,_,rfl,_,rfl,c,rfl,by lia,Pq (hi:=(c:Int)) (n:=c+1) (λi σ G=>∃(bb:Addr)(tl:List (List (List Int))) (bs:List Bg) (zs bz:List V) (v6:Option V),σ=[some (.ref m),some (.ref lt),some (.int (c:Int)),some (.ref ea),some (.ref u),some (.ref bb),v6]/\Same H1 G/\bb≠u/\G u=some (.lst zs)/\Holds K G zs (tl.map trD)/\G bb=some (.lst bz)/\Holds K G bz (bs.map bgD)/\tl.length+bs.length<=401/\(∀b∈bs,Jz ls k b/\b.1.length<=i+1)/\bs.length<=400/\((i<=c/\m9 ls k W c [] [([l],[0])]=m9 ls k W (c - i) tl bs)\/(i=c+1/\m9 ls k W c [] [([l],[0])]=some tl))) ⟨b0,[],[([l],[0])],[],[.ref t3],none,rfl,sB,b0u,gu0,.nil,gb0,hd0,by simp,?_,by simp,.inl ⟨jZ _,rfl⟩⟩ ?_ ?_⟩
 ·intro b hb;rw[cE.mp hb];refine⟨⟨by simp,λl' hl'=>?_,λr hr'=>?_,by simp,by simp⟩,by simp⟩
  ·rw[cE.mp hl'];exact hl
  ·rw[cE.mp hr'];exact xC _
 ·intro i σ G hi h_1;obtain⟨bb,tl,bs,zs,bz,v6,rfl,sG,bbu,gu,hz,gb,hbz,tb401,bok,b400,hrun⟩:=h_1;generalize hE1_:db.mk _ _ _ _=E1_;revert hE1_ E1_;refine id ?_;intro E1_ hE1_;have hrun':m9 ls k W c [] [([l],[0])]=m9 ls k W (c - i) tl bs:=by
   rcases hrun with⟨_,e⟩ | ⟨e,_⟩
   ·exact e
   ·lia
  have sH:=Same.trans s1 sG;have zl:zs.length=tl.length:=(by rw[hz.length,aG]);have el:=Aa (ls:=ls) (W:=W) bs;have el2:(dv ls W bs).length<=400 * 300:=bK el (kQ b400 n3);refine⟨_,rfl,.inl ⟨rfl,_,SqL.of gu⟩,?_⟩;refine⟨_,rfl,_,rfl,m,bb,ls,k,W,bs,rfl,⟨mach.mono sH,lok,k5,⟨bz,gb,hbz⟩,λb hb=>(bok b hb).1,b400⟩,λp2 xs2 G2 s2 h2 g2 hx2=>?_⟩;have xl2:xs2.length=(dv ls W bs).length:=(by rw[hx2.length,aG]);have gu2:=s2 _ _ gu;refine⟨u,p2,zs,xs2,rfl,rfl,gu2,g2,iE (j4 (by lia)),?_⟩;have tps:=Tups.put gu2 (.lst (zs++xs2));have s3:Same H1 (upd G2 u (.lst (zs++xs2))):=Same.put (Same.trans sG s2) hu _;have sH3:=Same.trans s1 s3;have gu3:(upd G2 u (.lst (zs++xs2))) u=some (.lst (zs++xs2)):=ae;have hz3:Holds K (upd G2 u (.lst (zs++xs2))) (zs++xs2) ((tl++dv ls W bs).map trD):=by
   rw[aZ];exact(hz.stay ((Tups.of s2).trans tps) (bw qa _)).append (hx2.stay tps (bw qa _))
  have gb3:(upd G2 u (.lst (zs++xs2))) bb=some (.lst bz):=(by rw[al bbu];exact s2 _ _ gb);have hbz3:Holds K (upd G2 u (.lst (zs++xs2))) bz (bs.map bgD):=hbz.stay ((Tups.of s2).trans tps) (bw Gv _);generalize upd G2 u (.lst (zs++xs2))=G3 at s3 sH3 gu3 hz3 gb3 hbz3 ⊢;have zl3:(zs++xs2).length=(tl++dv ls W bs).length:=(by rw[aN,aN,zl,xl2]);refine⟨_,rfl,_,rfl,?_⟩;refine c9 (λcc=>?_) (λcc=>?_)
  ·have hci:i < c:=by
    have:¬((c:Int) - (i:Int))=0:=(by simpa using cc);lia
   obtain⟨t,et⟩:∃t,c - i=t+1:=⟨c - i - 1,by lia⟩;obtain⟨y,ey,ly⟩:=lay.at (c:=t) (by lia);have gl:=vy (ls:=ls) (k:=k) (W:=W) (Cn:=fk ls.length k W t) bs;have gl2:(g7 ls k W (fk ls.length k W t) bs).length<=400 * 300:=bK gl (kQ b400 n3);refine⟨_,rfl,_,rfl,_,rfl,_,rfl,_,_,rfl,rfl,ea,_,_,_,rfl,rfl,SqL.of (s3 _ _ ge),(by rw[show(c:Int) - (i:Int) - 1=((t:Nat):Int)by lia];exact bh ey),m,bb,ls,k,W,bs,y,_,rfl,⟨mach.mono sH3,lok,k5,⟨bz,gb3,hbz3⟩,λb hb=>(bok b hb).1,b400⟩,ly.mono s3,λb5 bz5 G5 s5 h5 g5 hx5=>?_⟩;have bl5:bz5.length=(g7 ls k W (fk ls.length k W t) bs).length:=(by rw[hx5.length,aG]);have gu5:=s5 _ _ gu3;have b5u:b5≠u:=λe=>(by subst e;rw[gu3]at h5;cases h5);have s15:=Same.trans s3 s5;have eR:m9 ls k W (c - i) tl bs=if 400 < (tl++dv ls W bs).length+(g7 ls k W (fk ls.length k W t) bs).length then none else m9 ls k W t (tl++dv ls W bs) (g7 ls k W (fk ls.length k W t) bs):=by rw[et];rfl
   refine⟨_,rfl,u,_,rfl,.inl (SqL.of gu5),_,rfl,b5,_,rfl,.inl (SqL.of g5),_,_,rfl,rfl,_,_,rfl,rfl,_,rfl,?_⟩;refine c9 (λc2=>?_) (λc2=>?_)
   ·have c2':400 < (tl++dv ls W bs).length+(g7 ls k W (fk ls.length k W t) bs).length:=by
     have:=of_decide_eq_true c2;rw[zl3,bl5]at this;lia
    refine⟨_,_,rfl,rfl,(by show 2<=100;decide),λe he=>⟨e,.int 401,.int 400,rfl,cx,n1,n2,(by show(401:Int).natAbs.log2 < 1000;decide),(by show(400:Int).natAbs.log2 < 1000;decide),ae,λdx hd ne=>⟨rfl,e,some dx,rfl,?_,Same.free (Same.trans s1 s15) he,?_⟩⟩⟩
    ·rw[al (gH ne),ae]
    ·obtain⟨z1,z2⟩:=B6 (o2:=.xd [("number",.int 401)]) (o3:=fb e cG (some dx)) (o4:=.xd J1) he hd ne;refine q2 ?_ dx _ (Same.trans (Same.trans s1 s15) z1) z2;rw[hrun',eR,if_pos c2']
   ·have c2':¬400 < (tl++dv ls W bs).length+(g7 ls k W (fk ls.length k W t) bs).length:=λz=>by
     refine c2 (decide_eq_true ?_);rw[zl3,bl5];lia
    subst hE1_;refine⟨b5,_,_,_,_,_,rfl,s15,b5u,gu5,hz3.mono s5,g5,hx5,by lia,Pw k5 (by lia) bok,by lia,.inl ⟨by lia,?_⟩⟩;rw[hrun',eR,if_neg c2',show c - (i+1)=t by lia]
  ·have hci:i=c:=by
    have:((c:Int) - (i:Int))=0:=(by simpa using cc);lia
   subst hci;refine⟨sz0,λb5 hb5=>?_⟩;have t5:=ad hb5 (.lst []);have gu5:=t5 _ _ gu3;have b5u:b5≠u:=λe=>(by subst e;rw[gu3]at hb5;cases hb5);have s15:=Same.trans s3 t5;have eR:m9 ls k W (i - i) tl bs=if 400 < (tl++dv ls W bs).length then none else some (tl++dv ls W bs):=by rw[xB];rfl
   refine⟨_,rfl,u,_,rfl,.inl (SqL.of gu5),_,rfl,b5,_,rfl,.inl (SqL.of ae),_,_,rfl,rfl,_,_,rfl,rfl,_,rfl,?_⟩;refine c9 (λc2=>?_) (λc2=>?_)
   ·have c2':400 < (tl++dv ls W bs).length:=by
     have:=of_decide_eq_true c2;rw[zl3]at this;simp only[lS]at this;lia
    refine⟨_,_,rfl,rfl,(by show 2<=100;decide),λe he=>⟨e,.int 401,.int 400,rfl,cx,n1,n2,(by show(401:Int).natAbs.log2 < 1000;decide),(by show(400:Int).natAbs.log2 < 1000;decide),ae,λdx hd ne=>⟨rfl,e,some dx,rfl,?_,Same.free (Same.trans s1 s15) he,?_⟩⟩⟩
    ·rw[al (gH ne),ae]
    ·obtain⟨z1,z2⟩:=B6 (o2:=.xd [("number",.int 401)]) (o3:=fb e cG (some dx)) (o4:=.xd J1) he hd ne;refine q2 ?_ dx _ (Same.trans (Same.trans s1 s15) z1) z2;rw[hrun',eR,if_pos c2']
   ·have c2':¬400 < (tl++dv ls W bs).length:=λz=>by
     refine c2 (decide_eq_true ?_);rw[zl3];simp only[lS];lia
    subst hE1_;refine⟨b5,_,[],_,[],_,rfl,s15,b5u,gu5,hz3.mono t5,ae,.nil,by simp;simp at c2';lia,(λb hb=>by cases hb),by simp,.inr ⟨rfl,?_⟩⟩;rw[hrun',eR,if_neg c2']
 ·intro σ G h_1;obtain⟨bb,tl,bs,zs,bz,v6,rfl,sG,bbu,gu,hz,gb,hbz,tb401,bok,b400,hrun⟩:=h_1;have e:m9 ls k W c [] [([l],[0])]=some tl:=by
   rcases hrun with⟨e,_⟩ | ⟨_,e⟩
   ·lia
   ·exact e
  exact⟨_,rfl,q1 tl e u zs G (Same.trans s1 sG) gu hz⟩
end
end S25
namespace S25
open PySem L2 Bits S1 Fly PySem.Deep PyProof.Rows
def Q1 (K:aA)(cP:Addr):Sp:=λvs H Q E=>∃(x:V)(s:Say),vs=[x]/\Hold K H x s.da/\s.size<=500/\(s.nts=0->∀H',Same H H'->Q .non H')/\(s.nts≠0->∀dx y H',Same H H'->H' dx=some (.xd [("saying",y)])->Hold K H' y s.da->E (.ref cP) (some dx) H')
structure Ask (K:aA)(H:Hp)(sp lt:Addr)(x:V)(ws:List (Str×Nat))(s:Say)(l:List Int):Prop where
 sp:Hold K H (.ref sp) (gj ws)
 ok:fg ws
 say:Hold K H x s.da
 size:s.size<=500
 nts:s.nts<=5
 lt:SqT K H lt (l.map V.int)
 mem:l∈LL ws
theorem Ask.mono {K:aA}{H G:Hp}{sp lt:Addr}{x:V}{ws:List (Str×Nat)}{s:Say}{l:List Int}(h:Ask K H sp lt x ws s l)(e:Same H G):Ask K G sp lt x ws s l:=⟨h.sp.mono e,h.ok,h.say.mono e,h.size,h.nts,h.lt.same e,h.mem⟩
def E5 (K:aA)(cF cV cT cG:Addr):Sp:=λvs H Q E=>∃(sp lt:Addr)(x:V) (ws:List (Str×Nat)) (s:Say) (l:List Int) (c:Nat),vs=[.ref sp,x,.ref lt,.int (c:Int)]/\Ask K H sp lt x ws s l/\c<=10/\
 (∀f,s.due ws=some f->FOut K H E cF cV cT f)/\
 (s.due ws=none->∀tr,m9 (LL ws) s.rm (s.W ws) c [] [([l],[0])]=some tr->∀(p:Addr)(xs:List V) (H':Hp),Same H H'->H' p=some (.lst xs)->Holds K H' xs (tr.map trD)->Q (.ref p) H')/\
 (s.due ws=none->m9 (LL ws) s.rm (s.W ws) c [] [([l],[0])]=none->∀dx H',Same H H'->H' dx=some (.xd J1)->E (.ref cG) (some dx) H')
def My (K:aA)(cF cV cT cP:Addr):Sp:=λvs H Q E=>∃(sp lt:Addr)(x:V) (ws:List (Str×Nat)) (s:Say) (l:List Int),vs=[.ref sp,x,.ref lt]/\Ask K H sp lt x ws s l/\
 (∀f,s.due ws=some f->FOut K H E cF cV cT f)/\
 (s.due ws=none->s.nts≠0->∀dx y H',Same H H'->H' dx=some (.xd [("saying",y)])->Hold K H' y s.da->E (.ref cP) (some dx) H')/\
 (s.due ws=none->s.nts=0->∀(p:Addr)(mk:Int) (H':Hp),Same H H'->MaskP (LL ws).length mk (s.W ws 0 0 ((LL ws).idxOf l))->j8 K H' p (pick mk (LL ws) (LL ws).length)->Q (.ref p) H')
def Mz (K:aA)(cF cV cT:Addr):Sp:=λvs H Q E=>∃(sp lt:Addr)(x:V) (ws:List (Str×Nat)) (s:Say) (l:List Int),vs=[.ref sp,x,.ref lt]/\Ask K H sp lt x ws s l/\
 (∀f,s.due ws=some f->FOut K H E cF cV cT f)/\
 (s.due ws=none->s.isT=false->FOut K H E cF cV cT (.test s))/\
 (s.due ws=none->s.isT=true->∀(mk:Int)(H':Hp),Same H H'->MaskP (LL ws).length mk (s.W ws 0 0 ((LL ws).idxOf l))->Q (.bl (decide (pick mk (LL ws) (LL ws).length≠[]))) H')
theorem x5 {H:Hp}{m dx:Addr}{o1 o2:HO}(hm:H m=none)(hd:H dx=none):Same H (bv (upd (upd H dx o1) m o2) m):=λb o e=>by
 have h1:b≠m:=am e hm;have h2:b≠dx:=am e hd;unfold bv;rw[if_neg h1,al h1,al h2];exact e
section
variable {P:aS}{w:bZ}{K:aA}{mg:Str->Option aB}{base:Heap}{C cF cV cT cP cG:Addr}
theorem Xm:ar ["saying"] ["saying"] (aj Ar):=fsN
theorem M0 {f fN fI:Addr}{fd fdN fdI:cC}(F:Fun K "must_plain" "must_plain" Ar f fd)(c:ik K cP)(n:NoAttr K cP "saying")(hi:aW K (.ref cP) "__init__"=some (some (.ref fI)))(lf:∃oI,K.lookup fI=some oI/\oI.cls=.type "function")
  (GI:FnOk P w K mg base CX0 1 fI fdI ["self","saying"] (mo K cP "saying" λ_=>True)) (bI:Binds K fdI ["self","saying"] []) (mC:mg "NoPlain"=some (.ref cP))
  (GN:FnOk P w K mg base CX0 3 fN fdN ["saying"] (Qd K)) (bN:Binds K fdN ["saying"] []) (kN:aU K (.ref fN)=true) (mN:mg "notes_in"=some (.ref fN)):FnOk P w K mg base (CXx P w) 4 f fd ["saying"] (Q1 K cP):=by
 refine F.okX Xm (λvs H Q E h=>?_) (λcdv A outer s H vs Q E hr h=>?_)
 ·obtain⟨x,sy,rfl,_⟩:=h;rfl
 obtain⟨x,sy,rfl,hx,h500,q1,q2⟩:=h;refine⟨_,ai (cj (j9 (ao GN hr rfl mN kN bN .nil az (ac (pv 0) af)) (λ_=>rfl)) (ai (qj c (qi c hi lf GI (hr.mono (by decide)) rfl mC bI (ac (pv 0) af)))) bo),?_⟩;dsimp only[bf,Cx.nox];refine⟨_,rfl,x,sy,rfl,hx,h500,λG1 s1=>⟨((sy.nts:Int) != 0),rfl,?_⟩⟩;refine c9 (λc0=>?_) (λc0=>?_)
 ·have nz:sy.nts≠0:=λz=>(by rw[z]at c0;exact absurd c0 (by decide));refine⟨_,rfl,(by show 1<=100;decide),λe he=>⟨e,x,rfl,c,n,trivial,ae,λdx hd ne=>⟨rfl,e,some dx,rfl,ae,Same.free s1 he,?_⟩⟩⟩;obtain⟨z1,z2,_⟩:=qv (o2:=.xd [("saying",x)]) (o3:=fb e cP (some dx)) he hd ne;exact q2 nz dx x _ (Same.trans s1 z1) z2 (Hold.mono (Same.trans s1 z1) hx)
 ·have nz:sy.nts=0:=by
   have z:((sy.nts:Int) != 0)=false:=(by simpa using c0);have z':(sy.nts:Int)=0:=(by simpa using z);lia
  exact q1 nz G1 s1
structure MkM (P:aS)(w:bZ)(K:aA)(mg:Str->Option aB)(base:Heap)(C cF cV cT fI:Addr)(dI:cC):Prop where
 c:Mk K C fI
 ok:FnOk P w K mg base (CXx P w) 8 fI dI ["self","speech","saying"] (Vw K C cF cV cT)
 b:Binds K dI ["self","speech","saying"] []
 m:mg "Machine"=some (.ref C)
theorem scTr:ar ["speech","saying","letter","count"] ["speech","saying","letter","count"] (aj Ax):=fsN
theorem M2 {f fI fR:Addr}{fd dI dR:cC}(F:Fun K "trails" "trails" Ax f fd)(M:MkM P w K mg base C cF cV cT fI dI)
  (GR:FnOk P w K mg base (CXx P w) 6 fR dR ["machine","letter","count"] (Mx K C cG)) (bR:Binds K dR ["machine","letter","count"] []) (kR:aU K (.ref fR)=true) (mR:mg "runs_from"=some (.ref fR)) :
  FnOk P w K mg base (CXx P w) 10 f fd ["speech","saying","letter","count"] (E5 K cF cV cT cG):=by
 refine F.okX scTr (λvs H Q E h=>?_) (λcdv A outer s H vs Q E hr h=>?_)
 ·obtain⟨sp,lt,x,ws,sy,l,c,rfl,_⟩:=h;rfl
 obtain⟨sp,lt,x,ws,sy,l,c,rfl,ak,c10,q0,q1,q2⟩:=h;refine⟨_,ai (au (ao GR (hr.mono (by decide)) rfl mR kR bR .nil jq (ac (Ah M.c M.ok hr rfl M.m M.b .nil jq (ac (pv 0) (ac (pv 1) af))) (ac (pv 2) (ac (pv 3) af))))),?_⟩;have rl:=Cq sy;have n5:=ak.nts;refine⟨_,rfl,_,rfl,λm dx hm hd ne=>?_⟩;have sN:Same H (upd (upd H dx (.own m)) m (.ins C dx [])):=λb o e=>(by rw[al (am e hm),al (am e hd)];exact e);refine⟨m,dx,sp,ws,x,sy,rfl,ae,ak.sp.mono sN,ak.ok,ak.say.mono sN,ak.size,by lia,λdu G1 s1 ma=>⟨rfl,?_⟩,λf z=>(q0 f z).later sN⟩;have s01:=Same.trans (x5 hm hd) s1;exact⟨_,rfl,_,rfl,m,lt,LL ws,sy.rm,c,sy.W ws,l,rfl,ma,Jy ak.ok,by lia,c10,ak.lt.same s01,ak.mem,λtr e p xs G2 s2=>q1 du tr e p xs G2 (Same.trans s01 s2),λe dx2 G2 s2=>q2 du e dx2 G2 (Same.trans s01 s2)⟩
theorem scDo:ar ["speech","saying","letter"] ["speech","saying","letter"] (aj Ir):=fsN
theorem Ts {f fI fS fP:Addr}{fd dI dS dP:cC}(F:Fun K "done" "done" Ir f fd)(M:MkM P w K mg base C cF cV cT fI dI)(MM:MC K C)
  (GS:FnOk P w K mg base (CXx P w) 6 fS dS ["speech","saying"] (Ix K cF cV cT)) (bS:Binds K dS ["speech","saying"] []) (kS:aU K (.ref fS)=true) (mS:mg "must_saying"=some (.ref fS))
  (GP:FnOk P w K mg base (CXx P w) 4 fP dP ["saying"] (Q1 K cP)) (bP:Binds K dP ["saying"] []) (kP:aU K (.ref fP)=true) (mP:mg "must_plain"=some (.ref fP))
  (hE:qr P w K mg base C 3 "ends" ["self","room","letter"] (zo K C)) :
  FnOk P w K mg base (CXx P w) 10 f fd ["speech","saying","letter"] (My K cF cV cT cP):=by
 obtain⟨fE,dE,GE,bE,mE⟩:=hE;refine F.okX scDo (λvs H Q E h=>?_) (λcdv A outer s H vs Q E hr h=>?_)
 ·obtain⟨sp,lt,x,ws,sy,l,rfl,_⟩:=h;rfl
 obtain⟨sp,lt,x,ws,sy,l,rfl,ak,q0,q1,q2⟩:=h;refine⟨_,ah (bx (ao GS (hr.mono (by decide)) rfl mS kS bS .nil jq (ac (pv 0) (ac (pv 1) af)))) (ah (bx (ao GP (hr.mono (by decide)) rfl mP kP bP .nil jq (ac (pv 1) af))) (ai (au (jf (Ah M.c M.ok hr rfl M.m M.b .nil jq (ac (pv 0) (ac (pv 1) af))) MM.cl mE GE (hr.mono (by decide)) bE .nil az (ac ag (ac (pv 2) af)))))),?_⟩;have rl:=Cq sy;have n5:=ak.nts;have n3:=(Jy ak.ok).few;refine⟨_,rfl,_,rfl,sp,x,ws,sy,rfl,ak.sp,ak.say,ak.size,λdu G1 s1=>?_,q0⟩;have a1:=ak.mono s1;refine⟨_,rfl,x,sy,rfl,a1.say,ak.size,λnz G2 s2=>?_,λnz dx y G2 s2=>q1 du nz dx y G2 (Same.trans s1 s2)⟩;have s12:=Same.trans s1 s2;have a2:=ak.mono s12;refine⟨_,rfl,_,rfl,λm dx hm hd ne=>?_⟩;have sN:Same G2 (upd (upd G2 dx (.own m)) m (.ins C dx [])):=λb o e=>(by rw[al (am e hm),al (am e hd)];exact e);refine⟨m,dx,sp,ws,x,sy,rfl,ae,a2.sp.mono sN,ak.ok,a2.say.mono sN,ak.size,by lia,λ_ G3 s3 ma=>⟨rfl,?_⟩,λf z=>by rw[du]at z;cases z⟩;have s23:=Same.trans (x5 hm hd) s3;have s13:=Same.trans s12 s23;obtain⟨dx1,r1,xw,gm,_⟩:=id ma;refine⟨m,dx1,_,rfl,gm,rfl,_,rfl,m,lt,LL ws,sy.rm,sy.W ws,0,l,rfl,ma,xC _,ak.lt.same s13,ak.mem,n3,by lia,λp mk G4 s4 _ mp la=>?_⟩;exact q2 du nz p mk G4 (Same.trans s13 s4) mp la
theorem scSo:ar ["speech","test","letter"] ["speech","test","letter"] (aj Iu):=fsN
theorem Tt {f fI fS fT:Addr}{fd dI dS dT:cC}(F:Fun K "is_so" "is_so" Iu f fd)(M:MkM P w K mg base C cF cV cT fI dI)(MM:MC K C)
  (GS:FnOk P w K mg base (CXx P w) 6 fS dS ["speech","saying"] (Ix K cF cV cT)) (bS:Binds K dS ["speech","saying"] []) (kS:aU K (.ref fS)=true) (mS:mg "must_saying"=some (.ref fS))
  (GT:FnOk P w K mg base (CXx P w) 4 fT dT ["saying"] (Oi K cT)) (bT:Binds K dT ["saying"] []) (kT:aU K (.ref fT)=true) (mT:mg "must_test"=some (.ref fT))
  (hE:qr P w K mg base C 3 "ends" ["self","room","letter"] (zo K C)) :
  FnOk P w K mg base (CXx P w) 10 f fd ["speech","test","letter"] (Mz K cF cV cT):=by
 obtain⟨fE,dE,GE,bE,mE⟩:=hE;refine F.okX scSo (λvs H Q E h=>?_) (λcdv A outer s H vs Q E hr h=>?_)
 ·obtain⟨sp,lt,x,ws,sy,l,rfl,_⟩:=h;rfl
 obtain⟨sp,lt,x,ws,sy,l,rfl,ak,q0,q1,q2⟩:=h;refine⟨_,ah (bx (ao GS (hr.mono (by decide)) rfl mS kS bS .nil jq (ac (pv 0) (ac (pv 1) af)))) (ah (bx (ao GT (hr.mono (by decide)) rfl mT kT bT .nil jq (ac (pv 1) af))) (ai (au (fo (A3 hr.units) (jf (Ah M.c M.ok hr rfl M.m M.b .nil jq (ac (pv 0) (ac (pv 1) af))) MM.cl mE GE (hr.mono (by decide)) bE .nil az (ac ag (ac (pv 2) af))) (av af) (bn _))))),?_⟩;dsimp only[bf,Cx.nox];have rl:=Cq sy;have n5:=ak.nts;have n3:=(Jy ak.ok).few;refine⟨_,rfl,_,rfl,sp,x,ws,sy,rfl,ak.sp,ak.say,ak.size,λdu G1 s1=>?_,q0⟩;have a1:=ak.mono s1;refine⟨_,rfl,x,sy,rfl,a1.say,ak.size,λnz G2 s2=>?_,λnz dx y G2 s2=>q1 du nz dx y G2 (Same.trans s1 s2)⟩;have s12:=Same.trans s1 s2;have a2:=ak.mono s12;refine⟨_,rfl,_,rfl,λm dx hm hd ne=>?_⟩;have sN:Same G2 (upd (upd G2 dx (.own m)) m (.ins C dx [])):=λb o e=>(by rw[al (am e hm),al (am e hd)];exact e);refine⟨m,dx,sp,ws,x,sy,rfl,ae,a2.sp.mono sN,ak.ok,a2.say.mono sN,ak.size,by lia,λ_ G3 s3 ma=>⟨rfl,?_⟩,λf z=>by rw[du]at z;cases z⟩;have s23:=Same.trans (x5 hm hd) s3;have s13:=Same.trans s12 s23;obtain⟨dx1,r1,xw,gm,_⟩:=id ma;refine⟨m,dx1,_,rfl,gm,rfl,_,rfl,m,lt,LL ws,sy.rm,sy.W ws,0,l,rfl,ma,xC _,ak.lt.same s13,ak.mem,n3,by lia,λp mk G4 s4 _ mp la=>?_⟩;obtain⟨xs,gp,hxs⟩:=la;have s14:=Same.trans s13 s4;have xl:xs.length=(pick mk (LL ws) (LL ws).length).length:=(by rw[hxs.length,aG]);refine⟨sz0,λl0 hl0=>?_⟩;have t0:=ad hl0 (.lst []);refine⟨p,l0,xs,[],rfl,rfl,SqL.of (t0 _ _ gp),SqL.of ae,?_⟩;have qq:=q2 du nz mk _ (Same.trans s14 t0) mp;cases xs with
 |nil=>
  have e:pick mk (LL ws) (LL ws).length=[]:=gM.mp xl.symm;rw[e]at qq;exact .inr ⟨[],.nil,.nil,by decide,qq⟩
 |cons y r=>
  have e:pick mk (LL ws) (LL ws).length≠[]:=λz=>(by rw[z]at xl;cases xl);rw[decide_eq_true e]at qq;exact .inl ⟨by simp,qq⟩
end
end S25
namespace S25
open PySem L2
structure Wds (ws:List (Str×Nat)):Prop where
 nd:(ws.map (·.1)).Nodup
 len:∀w∈ws,∀v∈ws,w.1.length=v.1.length
def Tail (fi:Int)(tl:Str)(ws:List (Str×Nat)):Prop:=∀(i:Nat)(w:Str×Nat),ws[i]?=some w->∃c,atI abc.cps.toList ((fi+9 * (0+(i:Int))) % 26)=some c/\w.1=⟨#[c]⟩++tl
theorem Px {fi:Int}{tl:Str}:Tail fi tl []:=λi w h=>by cases h
theorem M4 {fi:Int}{tl:Str}{ws:List (Str×Nat)}{i k c:Nat}(h:Tail fi tl ws)(wl:ws.length=i)(e:atI abc.cps.toList ((fi+9 * (0+(i:Int))) % 26)=some c):Tail fi tl (ws++[(⟨#[c]⟩++tl,k)]):=λj w hj=>by
 rcases Nat.lt_or_ge j ws.length with z | z
 ·rw[eP z]at hj;exact h j w hj
 ·have hj':j=ws.length:=by
   have:=(aK.mp hj).1;rw[aN]at this;simp at this;lia
  subst hj';rw[gB (aO _),xB]at hj;cases hj;rw[wl];exact⟨c,e,rfl⟩
theorem Tu {v u:Int}{c:Nat}(v0:0<=v)(v1:v < 26)(u0:0<=u)(u1:u < 26)(h:atI abc.cps.toList v=some c)(g:atI abc.cps.toList u=some c):v=u:=by
 have key:∀n:Nat,n < 26->abc.cps.toList[n]?=some (97+n):=(by decide +kernel);have hv:=key v.toNat (by lia);have hu:=key u.toNat (by lia);have a1:atI abc.cps.toList ((v.toNat:Nat):Int)=some (97+v.toNat):=bh hv;have a2:atI abc.cps.toList ((u.toNat:Nat):Int)=some (97+u.toNat):=bh hu;rw[show((v.toNat:Nat):Int)=v by lia,h]at a1;rw[show((u.toNat:Nat):Int)=u by lia,g]at a2;have e1:=eQ a1;have e2:=eQ a2;lia
theorem Py {c d:Nat}{x:Str}(h:(⟨#[c]⟩++x:Str)=⟨#[d]⟩++x):c=d:=by
 have e:∀c:Nat,((⟨#[c]⟩:Str)++x).cps.toList=c::x.cps.toList:=λc=>by
  show(#[c]++x.cps).toList=_;simp
 have z:=congrArg (λs:Str=>s.cps.toList) h;simp only[e]at z;exact(oF z).1
theorem Tail.ok {fi:Int}{tl:Str}{ws:List (Str×Nat)}(h:Tail fi tl ws)(l3:ws.length<=3)(f0:0<=fi)(f1:fi < 26):Wds ws where
 nd:=by
  unfold List.Nodup;rw[List.pairwise_iff_getElem];intro i j hi hj hij;rw[aG]at hi hj;rw[List.getElem_map,List.getElem_map];obtain⟨c,ec,wc⟩:=h i _ (aL (show i < ws.length by lia));obtain⟨d,ed,wd⟩:=h j _ (aL hj);intro z;rw[wc,wd]at z;have:=Py z;subst this;have m1:=ft (fi+9 * (0+(i:Int))) (m:=26) (by decide);have m2:=ft (fi+9 * (0+(j:Int))) (m:=26) (by decide);have:=Tu m1.1 m1.2 m2.1 m2.2 ec ed;lia
 len:=λw hw v hv=>by
  obtain⟨i,hi⟩:=List.getElem?_of_mem hw;obtain⟨j,hj⟩:=List.getElem?_of_mem hv;obtain⟨c,_,e⟩:=h i w hi;obtain⟨d,_,g⟩:=h j v hj;rw[e,g,oE,oE];rfl
def B7 (K:aA):Sp:=λvs H Q _=>∃(n l:Int),vs=[.int n,.int l]/\1<=l/\l<=3/\
 ∀(sp:Addr)(ws:List (Str×Nat)) (H':Hp),Same H H'->Hold K H' (.ref sp) (gj ws)->fg ws->Wds ws->l<=(ws.length:Int)->Q (.ref sp) H'
theorem dw:∀{ws:List (Str×Nat)}{w:Str×Nat},(ws.map (·.1)).Nodup->w∈ws->∃i,look ws w.1=some (i,w.2)
 |v::r,w,nd,h=>by
  rw[fZ,lB]at nd;rcases cD.mp h with e | e
  ·subst e;exact⟨0,if_pos rfl⟩
  ·obtain⟨i,hi⟩:=dw nd.2 e;have ne:v.1≠w.1:=λz=>nd.1 (by rw[z];exact List.mem_map_of_mem e);refine⟨i+1,?_⟩;rw[look,if_neg ne,hi];rfl
theorem B8:∀{ws:List (Str×Nat)}{x:Str},(∀w∈ws,w.1≠x)->look ws x=none
 | [],_,_=>rfl
 |v::r,x,h=>by
  rw[look,if_neg (h v eG),B8 λw hw=>h w (cY _ hw)];rfl
theorem E6 {ws:List (Str×Nat)}(h:Wds ws){w:Str×Nat}(hw:w∈ws){v:Int}(v0:0<=v)(v1:v < (w.2:Int)):dt ws w.1 v=none:=by
 obtain⟨i,hi⟩:=dw h.nd hw;unfold dt;rw[hi];exact if_pos ⟨v0,v1⟩
theorem M5 {ws:List (Str×Nat)}(h:Wds ws){w:Str×Nat}(hw:w∈ws){v:Int}(n:¬(0<=v/\v < (w.2:Int))):dt ws w.1 v=some (.value v):=by
 obtain⟨i,hi⟩:=dw h.nd hw;unfold dt;rw[hi];exact if_neg n
theorem M6 {ws:List (Str×Nat)}(h:Wds ws){w:Str×Nat}(hw:w∈ws)(v:Int):dt ws (w.1++"x") v=some (.field (w.1++"x")):=by
 have z:look ws (w.1++"x")=none:=B8 λu hu e=>by
  have l1:=h.len u hu w hw;rw[e,oE]at l1;have:("x":Str).length=1:=(by decide +kernel);lia
 unfold dt;rw[z]
section
variable {P:aS}{w:bZ}{K:aA}{mg:Str->Option aB}{base:Heap}
theorem J2 {f fP fT:Addr}{fd fdP fdT:cC}(F:Fun K "_law_speech" "_law_speech" As f fd)
  (GP:FnOk P w K mg base CX0 1 fP fdP ["_law_cell_here"] Ay) (bP:Binds K fdP ["_law_cell_here"] []) (kP:aU K (.ref fP)=true) (mP:mg "_law_purse"=some (.ref fP))
  (GT:FnOk P w K mg base CX0 1 fT fdT ["_law_purse_here","_law_many"] y8) (bT:Binds K fdT ["_law_purse_here","_law_many"] []) (kT:aU K (.ref fT)=true) (mT:mg "_law_take"=some (.ref fT))
  (mr:mg "range"=none) (mx:mg "max"=none) (mn:mg "min"=none) (mt:mg "tuple"=none):FnOk P w K mg base CX0 2 f fd ["_law_cell_here","_law_least"] (B7 K):=by
 refine F.ok qo (λvs H Q E h=>?_) (λcdv A outer s H vs Q E hr h=>?_)
 ·obtain⟨n,l,rfl,_⟩:=h;rfl
 obtain⟨n,l,rfl,l1,l3,q⟩:=h;refine⟨_,ah (ax (i:=2) qo.nd rfl (bV rfl) (ao GP hr rfl mP kP bP .nil az (ac (pv 0) af))) (ah (ax (i:=3) qo.nd rfl (bV rfl) (ao GT hr rfl mT kT bT .nil az (ac (pv 2) (ac ag af)))) (ah (ax (i:=4) qo.nd rfl (bV rfl) be) (ah (ax (i:=5) qo.nd rfl (bV rfl) (aq aw (av (ac ag (ac ag (ac ag (ac ag (ac ag (ac ag (ac ag (ac ag af))))))))) (ao GT hr rfl mT kT bT .nil az (ac (pv 2) (ac ag af))) (λ_ _=>rfl))) (ah (ax (i:=6) qo.nd rfl (bV rfl) (bp (Bl rfl) rfl mx (by kernel_rfl) (ac (pv 1) (ac (bc iy ag (ao GT hr rfl mT kT bT .nil az (ac (pv 2) (ac ag af)))) af)))) (ah (ax (i:=7) qo.nd rfl (bV rfl) (cq Uq be dh (c7 (ao GT hr rfl mT kT bT .nil az (ac (pv 2) (ac ag af)))))) (ah (ax (i:=8) qo.nd rfl (bV rfl) (av af)) (ah (de eB rfl (ip rfl mr (ac (pv 6) af)) (ay (i:=9) qo.nd rfl (bV rfl)) (ah (ax (i:=10) qo.nd rfl (bV rfl) (bp (Kk rfl) rfl mn (by kernel_rfl) (ac (aq aw (av (ac ag (ac ag (ac ag (ac ag (ac ag (ac ag af))))))) (ao GT hr rfl mT kT bT .nil az (ac (pv 2) (ac ag af))) (λ_ _=>rfl)) (ac (pv 5) af)))) (ah (ax (i:=5) qo.nd rfl (bV rfl) (bc si (pv 5) (pv 10))) (ai (bx (gi cX fV fX dy (pv 8) (ac (bq (ac (bc ua (aq Um (pv 4) (bc iz (bc iy (pv 3) (bc sh ag (pv 9))) ag) (λ_ _=>rfl)) (pv 7)) (ac (pv 10) af))) af))))))) (ai (au (ku oy rfl mt (by kernel_rfl) (ac (pv 8) af))))))))))),?_⟩;dsimp only[bf,Cx.nox];refine⟨_,rfl,n,rfl,λr a0 b0 hr0 a0' b0'=>?_⟩;refine⟨_,rfl,r,a0,b0,26,rfl,ae,a0',b0',by decide,by decide,λfi a1 b1 G1 fi0 fi1 a1' b1' g1 k1=>?_⟩;have s1:Same H G1:=Same.keep (ad hr0 _) hr0 k1;refine⟨sz8,λp2 hp2=>?_⟩;have rp2:r≠p2:=am g1 hp2;refine⟨_,rfl,r,a1,b1,8,rfl,(by rw[al rp2];exact g1),a1',b1',by decide,by decide,λv2 a2 b2 G2 v20 v21 a2' b2' g2 k2=>?_⟩;obtain⟨lf,lfm,lfe⟩:=Dz (ns:=[8,8,6,8,12,8,4,24]) v20 v21;have s2:Same H G2:=Same.keep (Same.trans s1 (ad hp2 _)) hr0 k2;refine⟨p2,_,_,_,rfl,rfl,SqL.of (k2 _ _ rp2.symm ae),lfe,?_⟩;have lf1:1<=lf:=by
  simp only[cD,eU,or_false]at lfm;lia
 refine⟨_,rfl,_,rfl,r,a2,b2,3,rfl,g2,a2',b2',by decide,by decide,λv3 a3 b3 G3 v30 v31 a3' b3' g3 k3=>?_⟩;have s3:Same H G3:=Same.keep s2 hr0 k3;refine⟨_,_,rfl,rfl,_,_,rfl,?_⟩;have hM:∃M:Int,(if 1+v3 > l then 1+v3 else l)=M/\1<=M/\M<=3:=⟨_,rfl,by split<;>lia,by split<;>lia⟩
 obtain⟨M,eM,M1,M3⟩:=hM;rw[eM];refine⟨_,rfl,r,a3,b3,8,rfl,g3,a3',b3',by decide,by decide,λv4 a4 b4 G4 v40 v41 a4' b4' g4 k4=>?_⟩;have s4:Same H G4:=Same.keep s3 hr0 k4;refine⟨_,rfl,_,rfl,(by decide +kernel),?_⟩;obtain⟨tl,etl,tlc,tl7⟩:∃tl:Str,vI ("abcdefg":Str) none (some v4)=tl/\(∀c∈tl.cps.toList,97<=c/\c<=122)/\tl.length<=7:=⟨_,rfl,Oa v40 v41,bK (PySem.Txt.slice_le ("abcdefg":Str) none (some v4)) (by decide +kernel)⟩;rw[etl];refine⟨sz0,λu hu=>?_⟩;have ru:r≠u:=am g4 hu;have hu0:H u=none:=Same.free s4 hu;refine⟨_,rfl,M,rfl,by lia,by lia,kq (n:=M.toNat) (λi σ G=>∃(lf a b:Int)(ws:List (Str×Nat)) (xs:List V) (v9 v10:Option V),σ=[some (.int n),some (.int l),some (.ref r),some (.int fi),some (.str abc),some (.int lf),some (.int M),some (.str tl),some (.ref u),v9,v10]/\Same H G/\G r=some (.lst [.int a,.int b])/\0<=a/\0<=b/\1<=lf/\G u=some (.lst xs)/\Holds K G xs (ws.map Qb)/\ws.length=i/\(∀w∈ws,1<=w.2/\w.2<=6)/\(∀w∈ws,vf w.1)/\Tail fi tl ws) ?_ ?_ ?_⟩
 ·exact⟨lf,a4,b4,[],[],none,none,rfl,Same.put s4 hu0 _,(by rw[al ru];exact g4),a4',b4',lf1,ae,.nil,rfl,(λw hw=>nomatch hw),(λw hw=>nomatch hw),Px⟩
 ·intro i σ G hi h_1;obtain⟨lf,a,b,ws,xs,v9,v10,rfl,sG,gr,ha,hb,hlf,gu,hd,wl,wc,ww,tw⟩:=h_1;generalize hE1_:db.mk _ _ _ _=E1_;revert hE1_ E1_;refine id ?_;intro E1_ hE1_;refine⟨sz6,λp hp=>?_⟩;have rp:r≠p:=am gr hp;have up:u≠p:=am gu hp;refine⟨_,rfl,r,a,b,6,rfl,(by rw[al rp];exact gr),ha,hb,by decide,by decide,λv a' b' G' v0 v1 ha' hb' g' k'=>?_⟩;obtain⟨c,cm,ce⟩:=Dz (ns:=[2,3,4,1,6,5]) v0 v1;have sG':Same H G':=Same.keep (Same.trans sG (ad hp _)) hr0 k';refine⟨p,_,_,_,rfl,rfl,SqL.of (k' _ _ rp.symm ae),ce,_,rfl,_,_,rfl,?_⟩;have hc:∃k:Nat,(if lf < c then lf else c)=(k:Int)/\1<=k/\k<=6/\(k:Int)<=lf:=by
   simp only[cD,eU,or_false]at cm;refine⟨(if lf < c then lf else c).toNat,?_,?_,?_,?_⟩<;>split<;>lia
  obtain⟨k,ek,k1',k6',klf⟩:=hc;rw[ek];refine⟨_,rfl,_,rfl,_,_,rfl,rfl,⟨by lia,by lia⟩,?_⟩;have ur:u≠r:=ru.symm;have gu':G' u=some (.lst xs):=k' _ _ ur (by rw[al up];exact gu);have r26:=ft (fi+9 * (0+(i:Int))) (m:=26) (by decide);obtain⟨ch,ech,chr⟩:=Uv r26.1 r26.2;refine⟨_,rfl,.inl ⟨rfl,_,SqL.of gu'⟩,_,rfl,_,rfl,_,rfl,_,_,rfl,rfl,.inl ⟨by decide,by decide⟩,_,_,rfl,rfl,_,_,rfl,rfl,(by show(0:Int) < 26;decide),_,_,ch,rfl,rfl,(by decide +kernel),ech,_,rfl,_,_,rfl,rfl,?_,_,rfl,sz2,λt ht=>?_⟩
  ·exact small (by show 1+tl.length<=1000;lia)
  have ut:u≠t:=am gu' ht;have ht0:H t=none:=Same.free sG' ht;refine⟨u,xs,.ref t,rfl,rfl,(by rw[al ut];exact gu'),?_,?_⟩
  ·have z:=hd.length;rw[aG]at z;exact bg (by lia)
  have rt:r≠t:=am g' ht;have tG:Tups G G':=(Tups.of (ad hp _)).trans (Tups.but (u:=r) (by rw[al rp];exact gr) k');have tN:Tups G (upd (upd G' t (.tup [.str (⟨#[ch]⟩++tl),.int (k:Int)])) u (.lst (xs++[.ref t]))):=(tG.trans (Tups.of (ad ht _))).trans (Tups.put (by rw[al ut];exact gu') _);subst hE1_;refine⟨lf / (k:Int),a',b',ws++[(⟨#[ch]⟩++tl,k)],xs++[.ref t],_,_,rfl,Same.put (Same.put sG' ht0 _) hu0 _,(by rw[al ur.symm,al rt];exact g'),ha',hb',?_,ae,?_,(by rw[aN,wl];rfl),λx hx=>?_,λx hx=>?_,M4 tw wl ech⟩
  ·exact(Int.le_ediv_iff_mul_le (by lia)).mpr (by lia)
  ·rw[aZ];refine Holds.append (Holds.stay tN (bw (λ_=>rfl) ws) hd) (.one (.tup (SqT.of ?_) (.cons (.flat rfl) (.cons (.flat rfl) .nil))));rw[al ut.symm,ae]
  ·rcases eI.mp hx with z | z
   ·exact wc x z
   ·rw[cE.mp z];exact⟨k1',k6'⟩
  ·rcases eI.mp hx with z | z
   ·exact ww x z
   ·rw[cE.mp z];exact K8 chr tl7 tlc
 ·intro σ G h_1;obtain⟨lf,a,b,ws,xs,v9,v10,rfl,sG,gr,ha,hb,hlf,gu,hd,wl,wc,ww,tw⟩:=h_1;refine⟨_,rfl,u,xs,rfl,.inl ⟨SqL.of gu,λt ht=>?_⟩⟩;exact q t ws _ (Same.put sG (Same.free sG ht) _) (.tup (SqT.of ae) (Holds.mono (ad ht _) hd)) ⟨by lia,by lia,wc,ww⟩ (tw.ok (by lia) fi0 fi1) (by lia)
end
end S25
namespace L2
open PySem PyProof.Rows
section
variable {X:Cx}{pos:Pos}
theorem B9 (ns:List Int):∀n,uT (λi=>ns.getD i 0) n=(ns.take n).sum
 |0=>by simp[uT]
 |n+1=>by
  show uT (λi=>ns.getD i 0) n+ns.getD n 0=_;rw[B9 ns n,dJ,sJ,eV];cases ns[n]?<;>simp
def Xn (K:aA):List V->Hp->VK->Prop:=λxs H Q=>∃(a:Addr)(ns:List Int),xs=[.ref a]/\SqL K H a (ns.map V.int)/\ns.length<=1000/\(∀n∈ns,-1000000<=n/\n<=1000000)/\Q (.int ns.sum) H
theorem M7 (hc:X.calm=true):i9 X (.builtin "sum") (Xn X.K):=by
 intro pins s σ H xs us Q I r h;obtain⟨a,ns,rfl,hq,h1000,hr,q⟩:=h;obtain⟨u,rfl,ru⟩:=jg r;cases ru;obtain⟨its,rv,pl,hz⟩:=I.list hq;have hl:=pl.isList;have lt:a < s.heap.objs.size:=(by obtain⟨o,ho,_⟩:=hl;exact bX ho);have I1:Inv X pins σ H { s with heap:=s.heap.push { cls:=.type "list_iterator",data:=.fields #[.ref a,.int 0 0] } }:=I.kept (t':=s.toks) λb o e=>aJ _ e;have fI:i8 X pins H s.heap.objs.size:=I.fpOk (aO _) (I.hok.fresh (aO _));have len:its.length=ns.length:=(by rw[<-rv.length,aG]);have vals:∀(i:Nat)(v:aB),its.toArray[i]?=some v->∃t,v=.int (ns.getD i 0) t:=λi v e=>by
  have e':its[i]?=some v:=(by simpa using e);have hi:i < ns.length:=(by rw[<-len];exact(aK.mp e').1);obtain⟨u,f1,ru⟩:=rv.get (i:=i) (x:=.int ns[i]) (by rw[eK,aL hi];rfl);rw[e']at f1;cases f1;obtain⟨t,rfl⟩:=ru;exact⟨t,by rw[eV,aL hi];rfl⟩
 have bnd:∀j,j < ns.length->-1000000<=ns.getD j 0/\ns.getD j 0<=1000000:=λj hj=>by
  rw[eV,aL hj];exact hr _ (nW hj)
 refine call_sum_walk (hX hl ⟨s.heap.objs.size,[s.heap.objs.size,a],[s.heap.objs.size],its.toArray.size,_,_,λi=>ns.getD i 0,rfl,yB (show X.A.in1.handled=none from I.ok.hd hc) s.heap.objs.size a (cK lt) its.toArray,⟨⟨_,cJ _ rfl,rfl,rfl⟩,nV hl _⟩,λb hb=>?_,vals,λj hj=>?_,λh' tk t' kk=>?_⟩)
 ·show b < (s.heap.push _).objs.size;rw[gP];simp only[cD,eU,or_false]at hb;rcases hb with z | z
  ·rw[z];exact pB _
  ·rw[z];exact uB lt
 ·rw[aY,len]at hj;have b1:=bnd j hj;have b2:=Bu (val:=λi=>ns.getD i 0) (n:=ns.length) bnd (j+1) (by lia);show InLong (ns.getD j 0)/\InLong (uT (λi=>ns.getD i 0) (j+1));exact⟨⟨by lia,by lia⟩,⟨by lia,by lia⟩⟩
 ·refine⟨.int _,H,I1.turnedAll (t':=tk) (ch:=[s.heap.objs.size]) (λb hb=>?_) (λb o hb e=>kk b o hb e),⟨t',rfl⟩,by rw[aY,len,B9,dZ];exact q⟩;cases cE.mp hb;exact⟨fI.1,fI.2.1,fI.2.2.1,fI.2.2.2.1,fI.2.2.2.2.1,fI.2.2.2.2.2⟩
end
end L2
namespace S25
open PySem L2
def ntot (is:List dq):Nat:=(is.map λi=>i.1.nts).sum
theorem x6 (a b:List dq):ntot (a++b)=ntot a+ntot b:=by simp[ntot]
theorem E7:∀is:List dq,(is.map λi=>(i.1.nts:Int)).sum=((ntot is:Nat):Int)
 | []=>rfl
 |i::r=>by
  rw[fZ,List.sum_cons,E7 r];simp[ntot]
structure Gd (ws:List (Str×Nat))(is:List dq)(m:Nat):Prop where
 due:∀i∈is,i.1.due ws=none
 nts:ntot is<=m
theorem Gd.it {ws:List (Str×Nat)}{is:List dq}{i:dq}{m:Nat}(h:Gd ws (is++[i]) m):i.1.due ws=none:=h.due i (by simp)
theorem Gd.nt1 {ws:List (Str×Nat)}{i:dq}{m:Nat}(h:Gd ws ([]++[i]) m):i.1.nts<=m:=by
 have:=h.nts;simp[ntot]at this;exact this
theorem Gd.snoc {ws:List (Str×Nat)}{is:List dq}{s:Say}{d:Int}{m:Nat}(h:Gd ws is m)(e:s.due ws=none)(n:ntot is+s.nts<=m):Gd ws (is++[(s,d)]) m where
 due:=λi hi=>by
  rcases eI.mp hi with z | z
  ·exact h.due i z
  ·rw[cE.mp z];exact e
 nts:=by rw[x6];simpa[ntot]using n
theorem Gd.last {ws:List (Str×Nat)}{is:List dq}{i:dq}{s:Say}{d:Int}{m:Nat}(h:Gd ws (is++[i]) m)(e:s.due ws=none)(n:s.nts<=i.1.nts):Gd ws (is++[(s,d)]) m where
 due:=λj hj=>by
  rcases eI.mp hj with z | z
  ·exact h.due j (jD _ z)
  ·rw[cE.mp z];exact e
 nts:=by
  have:=h.nts;rw[x6]at this ⊢;simp[ntot]at this ⊢;lia
theorem Gd.join {ws:List (Str×Nat)}{is:List dq}{i j:dq}{s:Say}{d:Int}{m:Nat}(h:Gd ws (is++[i,j]) m)(n:s.nts=i.1.nts+j.1.nts)(e:s.due ws=(i.1.due ws).or (j.1.due ws)):Gd ws (is++[(s,d)]) m where
 due:=λk hk=>by
  rcases eI.mp hk with z | z
  ·exact h.due k (jD _ z)
  ·rw[cE.mp z];show s.due ws=none;rw[e,h.due i (by simp),h.due j (by simp)];rfl
 nts:=by
  have:=h.nts;rw[x6]at this ⊢;simp[ntot]at this ⊢;lia
def Hb (K:aA):Sp:=λvs H Q _=>∃(st a b:Int)(p sp:Addr) (ws:List (Str×Nat)),vs=[.int st,.ref p,.ref sp]/\0<=st/\st<=3/\H p=some (.lst [.int a,.int b])/\0<=a/\0<=b/\Hold K H (.ref sp) (gj ws)/\fg ws/\Wds ws/\
 ∀(x:V)(s:Say) (G:Hp),Keep p H G->Hold K G x s.da->s.isT=!decide (V.int st=V.int 1)->s.nts=0->s.size=1->s.due ws=none->Q x G
def vz (K:aA):Sp:=λvs H Q _=>∃(r:Addr)(wd:Str) (xs:List V) (is0:List dq) (i1 i2:dq),vs=[.ref r,.str wd]/\(wd="either"\/wd="then")/\H r=some (.lst xs)/\Holds K H xs ((is0++[i1,i2]).map gn)/\is0.length<=500/\
 ∀(r':Addr)(xs':List V) (s:Say) (d:Int) (H':Hp),Same H H'->H' r'=some (.lst xs')->Holds K H' xs' ((is0++[(s,d)]).map gn)->s.size=i1.1.size+i2.1.size+1->s.nts=i1.1.nts+i2.1.nts->(∀ws,s.due ws=(i1.1.due ws).or (i2.1.due ws))->Q (.ref r') H'
def E8 (K:aA):Sp:=λvs H Q _=>∃(r sp:Addr)(cell:Int) (most:Nat) (xs:List V) (is0:List dq) (it:dq) (ws:List (Str×Nat)),vs=[.ref r,.int cell,.ref sp,.int (most:Int)]/\H r=some (.lst xs)/\Holds K H xs ((is0++[it]).map gn)/\dz (is0++[it])<=300/\
 Hold K H (.ref sp) (gj ws)/\fg ws/\Wds ws/\Gd ws (is0++[it]) most/\
 ∀(r':Addr)(xs':List V) (js:List dq) (j:dq) (H':Hp),Same H H'->H' r'=some (.lst xs')->Holds K H' xs' ((js++[j]).map gn)->dz (js++[j])<=dz (is0++[it])+1->Gd ws (js++[j]) most->Q (.ref r') H'
def Ca (K:aA):Sp:=λvs H Q _=>∃(c sp:Addr)(m:Nat) (xs:List V) (ws:List (Str×Nat)),vs=[.ref c,.ref sp,.int (m:Int)]/\SqL K H c xs/\(∀x∈xs,∃n,x=V.int n)/\xs.length<=26/\Hold K H (.ref sp) (gj ws)/\fg ws/\Wds ws/\
 ∀(y:V)(s:Say) (H':Hp),Same H H'->Hold K H' y s.da->s.size<=54->s.due ws=none->s.nts<=m->Q y H'
section
variable {P:aS}{w:bZ}{K:aA}{mg:Str->Option aB}{base:Heap}
theorem Pz {f fT:Addr}{fd fdT:cC}(F:Fun K "_law_lone" "_law_lone" Ih f fd)(GT:FnOk P w K mg base CX0 1 fT fdT ["_law_purse_here","_law_many"] y8)(bT:Binds K fdT ["_law_purse_here","_law_many"] [])
  (kT:aU K (.ref fT)=true) (mT:mg "_law_take"=some (.ref fT)) (ml:mg "len"=none):FnOk P w K mg base CX0 2 f fd ["_law_sort","_law_purse_here","_law_speech_here"] (Hb K):=by
 refine F.ok Oh (λvs H Q E h=>?_) (λcdv A outer s H vs Q E hr h=>?_)
 ·obtain⟨st,a,b,p,sp,ws,rfl,_⟩:=h;rfl
 obtain⟨st,a,b,p,sp,ws,rfl,st0,st3,hp,ha,hb,hs,sk,wd,q⟩:=h;refine⟨_,ah (r8 (aq cf (pv 2) (ao GT hr rfl mT kT bT .nil az (ac (pv 1) (ac (bp br rfl ml eX (ac (pv 2) af)) af))) (λ_ _=>rfl)) (jz rfl (cn (ay (i:=3) Oh.nd rfl (bV rfl)) (cn (ay (i:=4) Oh.nd rfl (bV rfl)) im)))) (ai (au (aq aw (av (ac (bq (ac be (ac (pv 3) (ac (ao GT hr rfl mT kT bT .nil az (ac (pv 1) (ac (pv 4) af))) af)))) (ac (bq (ac be (ac (pv 3) (ac (ao GT hr rfl mT kT bT .nil az (ac (pv 1) (ac (pv 4) af))) af)))) (ac (bq (ac be af)) (ac (bq (ac be af)) af))))) (pv 0) (λ_ _=>rfl)))),?_⟩;dsimp only[bf,Cx.nox];obtain⟨a',vs,ea,hsp,hd⟩:=Hold.tupI hs;cases ea;have lv:vs.length=ws.length:=(by rw[hd.length,aG]);have s1:=sk.lo;have s3:=sk.hi;refine⟨_,rfl,_,rfl,_,rfl,sp,_,rfl,.inr hsp,p,a,b,_,rfl,hp,ha,hb,by lia,by lia,λv a1 b1 G1 v0 v1 ha1 hb1 g1 k1=>?_⟩;have hv:v.toNat < vs.length:=(by lia);have ev:atI vs v=some vs[v.toNat]:=by
  have z:atI vs ((v.toNat:Nat):Int)=some vs[v.toNat]:=bh (aL hv)
  rwa [show((v.toNat:Nat):Int)=v by lia]at z
 obtain⟨w',ew,hw⟩:=hd.getm (aL hv);obtain⟨c,ys,ec,hc,hys⟩:=Hold.tupI hw;have h6:=sk.cnt w' (bQ ew);have t1:Tups H G1:=Tups.but hp k1;refine⟨sp,_,_,_,rfl,rfl,hsp.tups t1,ev,?_⟩;rw[ec];cases hys with
 |cons h1 r1=>
  cases r1 with
  |cons h2 r2=>
   cases r2;cases h1.flatI;cases h2.flatI;refine⟨c,_,rfl,hc.tups t1,rfl,_,_,rfl,_,_,rfl,rfl,?_⟩;refine⟨_,rfl,_,rfl,_,rfl,p,a1,b1,_,rfl,g1,ha1,hb1,by lia,by lia,λv2 a2 b2 G2 v20 v21 ha2 hb2 g2 k2=>⟨sz3,λt1 ht1=>?_⟩⟩;have pt1:p≠t1:=am g2 ht1;refine⟨_,rfl,_,rfl,_,rfl,p,a2,b2,_,rfl,(by rw[al pt1];exact g2),ha2,hb2,by lia,by lia,λv3 a3 b3 G3 v30 v31 ha3 hb3 g3 k3=>⟨sz3,λt2 ht2=>?_⟩⟩;refine⟨sz1,λt3 ht3=>⟨sz1,λt4 ht4=>⟨sz4,λl hl=>?_⟩⟩⟩;have e1:G3 t1=some (.tup [.str "is",.str w'.1,.int v2]):=k3 _ _ pt1.symm ae;have kp:Keep p H (upd (upd (upd (upd G3 t2 (.tup [.str "put",.str w'.1,.int v3])) t3 (.tup [.str "all"])) t4 (.tup [.str "none"])) l (.lst [.ref t1,.ref t2,.ref t3,.ref t4])):=
    ((((((Keep.trans k1 k2).new ht1 _).trans k3).new ht2 _).new ht3 _).new ht4 _).new hl _
   have sN:Same G3 (upd (upd (upd (upd G3 t2 (.tup [.str "put",.str w'.1,.int v3])) t3 (.tup [.str "all"])) t4 (.tup [.str "none"])) l (.lst [.ref t1,.ref t2,.ref t3,.ref t4])):=
    Same.trans (Same.trans (Same.trans (ad ht2 _) (ad ht3 _)) (ad ht4 _)) (ad hl _)
   have sN2:Same (upd G3 t2 (.tup [.str "put",.str w'.1,.int v3])) (upd (upd (upd (upd G3 t2 (.tup [.str "put",.str w'.1,.int v3])) t3 (.tup [.str "all"])) t4 (.tup [.str "none"])) l (.lst [.ref t1,.ref t2,.ref t3,.ref t4])):=
    Same.trans (Same.trans (ad ht3 _) (ad ht4 _)) (ad hl _)
   have sN3:Same (upd (upd G3 t2 (.tup [.str "put",.str w'.1,.int v3])) t3 (.tup [.str "all"])) (upd (upd (upd (upd G3 t2 (.tup [.str "put",.str w'.1,.int v3])) t3 (.tup [.str "all"])) t4 (.tup [.str "none"])) l (.lst [.ref t1,.ref t2,.ref t3,.ref t4])):=
    Same.trans (ad ht4 _) (ad hl _)
   have four:st=0\/st=1\/st=2\/st=3:=(by lia);rcases four with e | e | e | e
   ·subst e;refine⟨_,rfl,l,_,_,_,rfl,rfl,SqL.of ae,rfl,?_⟩;exact q (.ref t1) (.is ⟨w'.1,qw (sk.word w' (bQ ew))⟩ ⟨v2,vg ⟨by lia,by lia⟩⟩) _ kp (.tup (SqT.of (sN _ _ e1)) (.cons (.flat rfl) (.cons (.flat rfl) (.cons (.flat rfl) .nil)))) rfl rfl rfl (E6 wd (bQ ew) v20 v21)
   ·subst e;refine⟨_,rfl,l,_,_,_,rfl,rfl,SqL.of ae,rfl,?_⟩;exact q (.ref t2) (.put ⟨w'.1,qw (sk.word w' (bQ ew))⟩ ⟨v3,vg ⟨by lia,by lia⟩⟩) _ kp (.tup (SqT.of (sN2 _ _ ae)) (.cons (.flat rfl) (.cons (.flat rfl) (.cons (.flat rfl) .nil)))) rfl rfl rfl (E6 wd (bQ ew) v30 v31)
   ·subst e;refine⟨_,rfl,l,_,_,_,rfl,rfl,SqL.of ae,rfl,?_⟩;exact q (.ref t3) .every _ kp (.tup (SqT.of (sN3 _ _ ae)) (.cons (.flat rfl) .nil)) rfl rfl rfl rfl
   ·subst e;refine⟨_,rfl,l,_,_,_,rfl,rfl,SqL.of ae,rfl,?_⟩;exact q (.ref t4) .nought _ kp (.tup (SqT.of (ad hl _ _ _ ae)) (.cons (.flat rfl) .nil)) rfl rfl rfl rfl
theorem J3 {f:Addr}{fd:cC}(F:Fun K "_law_joined" "_law_joined" Au f fd)(mx:mg "max"=none):FnOk P w K mg base CX0 1 f fd ["_law_row","_law_word"] (vz K):=by
 refine F.ok Iw (λvs H Q E h=>?_) (λcdv A outer s H vs Q E hr h=>?_)
 ·obtain⟨r,wd,xs,is0,i1,i2,rfl,_⟩:=h;rfl
 obtain⟨r,wd,xs,is0,i1,i2,rfl,hwd,gr,hd,l500,q⟩:=h;refine⟨_,ah (r8 (cq fj (pv 0) (c7 (j7 je ag)) dh) (Kw rfl (cn (ay (i:=2) Iw.nd rfl (bV rfl)) (cn (ay (i:=3) Iw.nd rfl (bV rfl)) im)))) (ah (ax (i:=4) Iw.nd rfl (bV rfl) (bq (ac (pv 1) (ac (aq aw (pv 2) ag (λ_ _=>rfl)) (ac (aq aw (pv 3) ag (λ_ _=>rfl)) af))))) (ai (au (bc gf (cq fj (pv 0) dh (c7 (j7 je ag))) (av (ac (av (ac (pv 4) (ac (Cv (aq aw (pv 2) ag (λ_ _=>rfl)) (ya (aq aw (pv 3) ag (λ_ _=>rfl)))) (ac (bc iy (aq aw (pv 2) ag (λ_ _=>rfl)) (aq aw (pv 3) ag (λ_ _=>rfl))) (ac (bp (Bl rfl) rfl mx (by kernel_rfl) (ac (aq aw (pv 2) ag (λ_ _=>rfl)) (ac (aq aw (pv 3) ag (λ_ _=>rfl)) af))) af))))) af)))))),?_⟩;dsimp only[bf,Cx.nox];obtain⟨ys,x1,x2,rfl,hy,hx1,hx2⟩:=Fd hd;obtain⟨c1,y1,rfl,hc1,hy1⟩:=ow hx1;obtain⟨c2,y2,rfl,hc2,hy2⟩:=ow hx2;have ly:ys.length=is0.length:=(by rw[hy.length,aG]);refine⟨_,rfl,_,rfl,_,rfl,r,_,rfl,SqL.of gr,λp hp=>?_⟩;rw[show -(2:Int)=-2 from rfl,Lc];have sp:Same H (upd H p (.lst [.ref c1,.ref c2])):=ad hp _;refine⟨p,_,rfl,SqL.of ae,rfl,_,_,rfl,_,_,rfl,rfl,?_⟩;refine⟨_,rfl,_,rfl,c1,_,_,_,rfl,rfl,sp.seq hc1,rfl,_,rfl,c2,_,_,_,rfl,rfl,sp.seq hc2,rfl,sz3,λt ht=>?_⟩;have st:Same H (upd (upd H p (.lst [.ref c1,.ref c2])) t (.tup [.str wd,y1,y2])):=Same.trans sp (ad ht _);refine⟨_,rfl,_,rfl,_,rfl,r,_,rfl,SqL.of (st _ _ gr),λp2 hp2=>?_⟩;rw[show -(2:Int)=-2 from rfl,Og];have s2:=Same.trans st (ad hp2 (.lst ys));refine⟨_,rfl,?_⟩;refine andV (c:=i1.1.isT) (d:=i2.1.isT) (λk hk=>⟨_,rfl,c1,_,_,_,rfl,rfl,s2.seq hc1,rfl,hk⟩) (λk hk=>⟨_,rfl,c2,_,_,_,rfl,rfl,s2.seq hc2,rfl,hk⟩) ?_;refine⟨_,rfl,c1,_,_,_,rfl,rfl,s2.seq hc1,rfl,_,rfl,c2,_,_,_,rfl,rfl,s2.seq hc2,rfl,_,_,rfl,rfl,_,rfl,c1,_,_,_,rfl,rfl,s2.seq hc1,rfl,_,rfl,c2,_,_,_,rfl,rfl,s2.seq hc2,rfl,_,_,rfl,sz4,λl hl=>⟨sz1,λl2 hl2=>?_⟩⟩;have hp2n:upd (upd H p (.lst [.ref c1,.ref c2])) t (.tup [.str wd,y1,y2]) p2=none:=hp2;generalize hG2:upd (upd (upd H p (.lst [.ref c1,.ref c2])) t (.tup [.str wd,y1,y2])) p2 (.lst ys)=G2 at s2 hl hl2 ⊢;have g2p:G2 p2=some (.lst ys):=(by rw[<-hG2,ae]);have g2t:G2 t=some (.tup [.str wd,y1,y2]):=by
  rw[<-hG2];exact ad hp2n _ _ _ ae
 generalize hdd:(if i2.2 > i1.2 then i2.2 else i1.2)=dd at hl2 ⊢
 have s3:Same G2 (upd G2 l (.lst [.ref t,.bl (i1.1.isT && i2.1.isT),.int ((i1.1.nts:Int)+(i2.1.nts:Int)),.int dd])):=ad hl _;have s4:=Same.trans s3 (ad hl2 (.lst [.ref l]));refine⟨p2,l2,_,_,rfl,rfl,s4 _ _ g2p,ae,small (by show ys.length+1<=1000;lia),λp3 hp3=>?_⟩;have s5:=Same.trans s4 (ad hp3 (.lst (ys++[.ref l])));have sAll:=Same.trans s2 s5;have gl:upd (upd (upd G2 l (.lst [.ref t,.bl (i1.1.isT && i2.1.isT),.int ((i1.1.nts:Int)+(i2.1.nts:Int)),.int dd])) l2 (.lst [.ref l])) p3 (.lst (ys++[.ref l])) l=some (.lst [.ref t,.bl (i1.1.isT && i2.1.isT),.int ((i1.1.nts:Int)+(i2.1.nts:Int)),.int dd]):=
  Same.trans (ad hl2 _) (ad hp3 _) _ _ ae
 have go:∀s:Say,s.da=.tup [.flat (.str wd),i1.1.da,i2.1.da]->s.isT=(i1.1.isT && i2.1.isT)->s.nts=i1.1.nts+i2.1.nts->s.size=i1.1.size+i2.1.size+1->(∀ws,s.due ws=(i1.1.due ws).or (i2.1.due ws))->Q (.ref p3) _:=λsy e1 e2 e3 e4 e5=>by
  refine q p3 (ys++[.ref l]) sy dd _ sAll ae ?_ e4 e3 e5;rw[aZ];refine Holds.append (Holds.mono sAll hy) (.one (lh (i:=(sy,dd)) gl ?_ e2.symm (by rw[e3];push_cast;rfl)));show Hold K _ (.ref t) sy.da;rw[e1];exact .tup (SqT.of (s5 _ _ g2t)) (.cons (.flat rfl) (.cons (Hold.mono sAll hy1) (.cons (Hold.mono sAll hy2) .nil)))
 rcases hwd with e | e
 ·exact go (.either i1.1 i2.1) (by rw[e];rfl) rfl rfl rfl (λ_=>rfl)
 ·exact go (.both i1.1 i2.1) (by rw[e];rfl) rfl rfl rfl (λ_=>rfl)
theorem M8 {f fP fT fL fJ:Addr}{fd fdP fdT fdL fdJ:cC}(F:Fun K "_law_grown" "_law_grown" Dk f fd)
  (GP:FnOk P w K mg base CX0 1 fP fdP ["_law_cell_here"] Ay) (bP:Binds K fdP ["_law_cell_here"] []) (kP:aU K (.ref fP)=true) (mP:mg "_law_purse"=some (.ref fP))
  (GT:FnOk P w K mg base CX0 1 fT fdT ["_law_purse_here","_law_many"] y8) (bT:Binds K fdT ["_law_purse_here","_law_many"] []) (kT:aU K (.ref fT)=true) (mT:mg "_law_take"=some (.ref fT))
  (GL:FnOk P w K mg base CX0 2 fL fdL ["_law_sort","_law_purse_here","_law_speech_here"] (Hb K)) (bL:Binds K fdL ["_law_sort","_law_purse_here","_law_speech_here"] []) (kL:aU K (.ref fL)=true) (mL:mg "_law_lone"=some (.ref fL))
  (GJ:FnOk P w K mg base CX0 1 fJ fdJ ["_law_row","_law_word"] (vz K)) (bJ:Binds K fdJ ["_law_row","_law_word"] []) (kJ:aU K (.ref fJ)=true) (mJ:mg "_law_joined"=some (.ref fJ))
  (ms:mg "sum"=none) (ml:mg "len"=none):FnOk P w K mg base CX0 3 f fd ["_law_row","_law_cell_here","_law_speech_here","_law_most"] (E8 K):=by
 refine F.ok D4 (λvs H Q E h=>?_) (λcdv A outer s H vs Q E hr h=>?_)
 ·obtain⟨r,sp,cell,most,xs,is0,it,ws,rfl,_⟩:=h;rfl
 obtain⟨r,sp,cell,most,xs,is0,it,ws,rfl,gr,hd,t300,hsp,sk,wd,gd,q⟩:=h;have hr1:Room 1 _:=hr.mono (by decide);refine⟨_,ah (ax (i:=4) D4.nd rfl (bV rfl) (ao GP hr1 rfl mP kP bP .nil az (ac (pv 1) af))) (ah (ax (i:=5) D4.nd rfl (bV rfl) (ao GT hr1 rfl mT kT bT .nil az (ac (pv 4) (bj ag af)))) (ah (ax (i:=6) D4.nd rfl (bV rfl) (aq aw (pv 0) (j7 je ag) (λ_ _=>rfl))) (ah (cj (PW.pt (qb (bi df (pv 5) ag (bn _)) (pr (bi yd (bp (M7 rfl) rfl ms (by kernel_rfl) (ac (cy (ns:=["_law_one"]) (ys:=[]) (sc:=U1) csC3 rfl (ck (pv 0)) (λC s H fp=>ay (i:=0) (by show(["_law_one"]:List Str).Nodup;decide +kernel) rfl (bV rfl)) (λC s H fp=>cw) (λC s H fp=>aq (r:=xm K) aw (pv 0) ag (λ_ _=>rfl))) af)) (pv 3) (bn _))))) (ai (au (bc gf (pv 0) (av (ac (av (ac (bq (bj be af)) (bj j6 (bj ag (bj ag af))))) af))))) bo) (ah (cj (PW.pt (qb (bi df (pv 5) ag (bn _)) (pr (jh (aq aw (pv 6) ag (λ_ _=>rfl)))))) (ai (au (bc gf (cq fj (pv 0) dh (c7 (j7 je ag))) (av (ac (av (ac (bq (bj be (ac (aq aw (pv 6) ag (λ_ _=>rfl)) af))) (bj j6 (bj ag (bj ag af))))) af))))) bo) (ah (cj (PW.pt (qb (bi df (pv 5) ag (bn _)) (pr (bi yd (aq aw (pv 6) ag (λ_ _=>rfl)) ag (bn _))))) (ai (au (bc gf (cq fj (pv 0) dh (c7 (j7 je ag))) (av (ac (av (ac (bq (bj be (ac (aq aw (pv 6) ag (λ_ _=>rfl)) af))) (bj j6 (ac (aq aw (pv 6) ag (λ_ _=>rfl)) (ac (bc iy (aq aw (pv 6) ag (λ_ _=>rfl)) ag) af))))) af))))) bo) (@ah _ _ _ _ _ (cj (PW.pt (qb (bi ye (pv 5) ag (bn _)) (qb (bi yd (pv 5) ag (bn _)) (pr (bi ye (bp br rfl ml eX (ac (pv 0) af)) ag (bn _)))))) (ai (au (ao GJ hr1 rfl mJ kJ bJ .nil az (ac (pv 0) (ac (aq aw (av (bj be (bj be af))) (bc iz (pv 5) ag) (λ_ _=>rfl)) af))))) bo) (@ah _ _ _ _ _ (@ax _ _ 5 _ _ _ _ D4.nd rfl (bV rfl) (@aq _ _ _ _ _ _ _ (@aw _) (@av _ _ _ _ (@bj _ _ _ _ _ _ _ (@ag _ _ _ _) (@bj _ _ _ _ _ _ _ (@ag _ _ _ _) (@bj _ _ _ _ _ _ _ (@ag _ _ _ _) (@bj _ _ _ _ _ _ _ (@ag _ _ _ _) (@bj _ _ _ _ _ _ _ (@ag _ _ _ _) (@bj _ _ _ _ _ _ _ (@ag _ _ _ _) (@bj _ _ _ _ _ _ _ (@ag _ _ _ _) (@bj _ _ _ _ _ _ _ (@ag _ _ _ _) (@bj _ _ _ _ _ _ _ (@ag _ _ _ _) (@bj _ _ _ _ _ _ _ (@ag _ _ _ _) (@bj _ _ _ _ _ _ _ (@ag _ _ _ _) (@bj _ _ _ _ _ _ _ (@ag _ _ _ _) (@bj _ _ _ _ _ _ _ (@ag _ _ _ _) (@bj _ _ _ _ _ _ _ (@ag _ _ _ _) (@af _)))))))))))))))) (pv 5) (λ_ _=>rfl)) rfl (bV rfl)) (ai (au (bc gf (pv 0) (av (ac (av (ac (ao GL hr rfl mL kL bL .nil az (ac (pv 5) (ac (pv 4) (ac (pv 2) af)))) (ac (fo We (pv 5) ag (bn _)) (bj ag (bj ag af))))) af)))))))))))),?_⟩;dsimp only[bf,Cx.nox];have hd':=hd;rw[aZ]at hd';obtain⟨ys,x0,rfl,hy,hx0⟩:=jt hd';obtain⟨c0,y0,rfl,hc0,hy0⟩:=ow hx0;have ly:ys.length=is0.length:=(by rw[hy.length,aG]);have tl:=xq (is0++[it]);rw[aN,gF]at tl;have tt:dz (is0++[it])=dz is0+it.1.size:=(by rw[d0,eh]);have fin:∀(G4:Hp)(p3 l:Addr) (zs:List V) (js:List dq) (j:dq),Same H G4->G4 p3=some (.lst (zs++[.ref l]))->Holds K G4 zs (js.map gn)->Hold K G4 (.ref l) (gn j)->dz (js++[j])<=dz (is0++[it])+1->Gd ws (js++[j]) most->Q (.ref p3) G4:=
  λG4 p3 l zs js j s4 g4 h1 h2 h3 h4=>q p3 _ js j G4 s4 g4 (by rw[aZ];exact Holds.append h1 (.one h2)) h3 h4
 refine⟨_,rfl,cell,rfl,λp a0 b0 hp a0' b0'=>?_⟩;refine⟨_,rfl,p,a0,b0,14,rfl,ae,a0',b0',by decide,by decide,λv a b G v0 v1 ha hb g k=>?_⟩;have s1:Same H G:=Same.keep (ad hp _) hp k;refine⟨_,rfl,_,rfl,r,_,_,_,rfl,rfl,SqL.of (s1 _ _ gr),Nt _ _,?_⟩;have R0:oj H p G:=⟨s1,a,b,g,ha,hb⟩;have big:∀n:Nat,n<=302->n<=sizeLine:=λn hn=>small (by lia);dsimp only[o6,tz];refine ifQ (oj H p) (λG=>oj H p G/\ntot (is0++[it]) < most) (λk kf kt=>?_) (λG2 R2=>?_) (λG2 R2=>?_)
 ·refine⟨_,rfl,rfl,_,rfl,?_⟩;refine c9 (λ_=>?_) (λ_=>kf G R0);refine⟨_,rfl,r,rfl,⟨_,SqL.of (s1 _ _ gr)⟩,λD hD=>?_⟩;refine dm (K:=K) (a:=r) (xs:=ys++[.ref c0]) (λi zs G3=>Same G G3/\G3 D=some (.lst zs)/\zs=(((is0++[it]).take i).map λj=>(j.1.nts:Int)).map V.int) ⟨ad hD _,ae,rfl⟩ (λi zs G3 z=>z.2.1) (λi zs G3 _ z=>SqL.of (z.1 _ _ (s1 _ _ gr))) ?_ ?_
  ·intro i x' zs G3 hx' h_1;obtain⟨s3,d3,rfl⟩:=h_1;obtain⟨j,ej,hj⟩:=hd.getm hx';obtain⟨c,y,rfl,hc,_⟩:=ow hj;refine⟨bg (by rw[aG,aG,cQ,aN,gF];lia),⟨[some _],rfl,rfl⟩,?_⟩;refine⟨_,rfl,c,_,_,_,rfl,rfl,Same.seq (Same.trans s1 s3) hc,rfl,d3,Same.put s3 hD _,ae,?_⟩;rw[dJ,ej];simp
  ·intro zs G3 h_1;obtain⟨s3,d3,rfl⟩:=h_1;refine⟨D,_,rfl,SqL.of d3,?_,?_,?_⟩
   ·rw[aG,cQ,aN,gF];lia
   ·intro n hn;obtain⟨j,hj,rfl⟩:=eE.mp hn;have mj:j∈is0++[it]:=nP hj;have z1:=Uu j.1;have z2:j.1.size<=dz (is0++[it]):=by
     obtain⟨l1,l2,e⟩:=List.append_of_mem mj;rw[e,show l1++j::l2=l1++([j]++l2)from rfl,d0,d0,eh];lia
    lia
   ·have R3:oj H p G3:=⟨Same.trans s1 s3,a,b,s3 _ _ g,ha,hb⟩;refine⟨_,rfl,_,_,rfl,rfl,_,rfl,?_⟩;rw[oO (by rw[aN,aN,ly];exact aO _),E7];cases e:decide (((ntot (is0++[it]):Nat):Int) < (most:Int))with
    |false=>exact kf G3 R3
    |true=>
     have:=of_decide_eq_true e;exact kt G3 ⟨R3,by lia⟩
 ·obtain⟨⟨s2,_⟩,lt⟩:=R2;refine⟨_,rfl,sz1,λt ht=>⟨sz4,λl hl=>⟨sz1,λl2 hl2=>?_⟩⟩⟩;have s3:Same G2 (upd (upd (upd G2 t (.tup [.str "note"])) l (.lst [.ref t,.bl false,.int 1,.int 0])) l2 (.lst [.ref l])):=Same.trans (Same.trans (ad ht _) (ad hl _)) (ad hl2 _);refine⟨r,l2,_,_,rfl,rfl,s3 _ _ (s2 _ _ gr),ae,big _ (by rw[aN];show ys.length+1+1<=302;lia),λp3 hp3=>?_⟩;have s4:=Same.trans s3 (ad hp3 (.lst ((ys++[.ref c0])++[.ref l])));have sA:=Same.trans s2 s4;have sl:Same (upd (upd G2 t (.tup [.str "note"])) l (.lst [.ref t,.bl false,.int 1,.int 0])) (upd (upd (upd (upd G2 t (.tup [.str "note"])) l (.lst [.ref t,.bl false,.int 1,.int 0])) l2 (.lst [.ref l])) p3 (.lst ((ys++[.ref c0])++[.ref l]))):=Same.trans (ad hl2 _) (ad hp3 _);refine fin _ p3 l _ (is0++[it]) (.note,0) sA ae (Holds.mono sA hd) (lh (sl _ _ ae) (.tup (SqT.of (sl _ _ (ad hl _ _ _ ae))) (.cons (.flat rfl) .nil)) rfl rfl) ?_ (gd.snoc rfl (by show ntot (is0++[it])+1<=most;lia));rw[d0 (is0++[it]),eh];exact aO _
 dsimp only[o6,tz];refine ifQ (oj H p) (λG=>oj H p G/\it.1.isT=true) (λk kf kt=>?_) (λG3 R3=>?_) (λG3 R3=>?_)
 ·refine⟨_,rfl,rfl,_,rfl,?_⟩;refine c9 (λ_=>?_) (λ_=>kf G2 R2);refine⟨_,rfl,c0,_,_,_,rfl,rfl,Same.seq R2.1 hc0,rfl,it.1.isT,rfl,?_⟩;cases e:it.1.isT with
  |false=>exact kf G2 R2
  |true=>exact kt G2 ⟨R2,e⟩
 ·obtain⟨⟨s2,_⟩,eT⟩:=R3;refine⟨_,rfl,_,rfl,_,rfl,r,_,rfl,SqL.of (s2 _ _ gr),λp2 hp2=>?_⟩;rw[show -(1:Int)=-1 from rfl,D3];have s3:=Same.trans s2 (ad hp2 (.lst ys));refine⟨_,rfl,c0,_,_,_,rfl,rfl,Same.seq s3 hc0,rfl,sz2,λt ht=>⟨sz4,λl hl=>⟨sz1,λl2 hl2=>?_⟩⟩⟩;have sB:Same (upd G3 p2 (.lst ys)) (upd (upd (upd (upd G3 p2 (.lst ys)) t (.tup [.str "not",y0])) l (.lst [.ref t,.bl true,.int 0,.int 0])) l2 (.lst [.ref l])):=Same.trans (Same.trans (ad ht _) (ad hl _)) (ad hl2 _);refine⟨p2,l2,_,_,rfl,rfl,sB _ _ ae,ae,big _ (by show ys.length+1<=302;lia),λp3 hp3=>?_⟩;have s4:=Same.trans sB (ad hp3 (.lst (ys++[.ref l])));have sA:=Same.trans s3 s4;have sl:Same (upd (upd (upd G3 p2 (.lst ys)) t (.tup [.str "not",y0])) l (.lst [.ref t,.bl true,.int 0,.int 0])) (upd (upd (upd (upd (upd G3 p2 (.lst ys)) t (.tup [.str "not",y0])) l (.lst [.ref t,.bl true,.int 0,.int 0])) l2 (.lst [.ref l])) p3 (.lst (ys++[.ref l]))):=Same.trans (ad hl2 _) (ad hp3 _);refine fin _ p3 l _ is0 (.no it.1,0) sA ae (Holds.mono sA hy) (lh (sl _ _ ae) (.tup (SqT.of (sl _ _ (ad hl _ _ _ ae))) (.cons (.flat rfl) (.cons (Hold.mono sA hy0) .nil))) eT.symm ?_) ?_ (gd.last (by rw[Say.due,if_pos eT];exact gd.it) (aO _))
  ·show(0:Int)=((it.1.nts:Nat):Int);rw[io _ eT];rfl
  ·rw[d0,eh,tt];show dz is0+(it.1.size+1)<=_;lia
 dsimp only[o6,tz];refine ifQ (oj H p) (oj H p) (λk kf kt=>?_) (λG4 R4=>?_) (λG4 R4=>?_)
 ·refine⟨_,rfl,rfl,_,rfl,?_⟩;refine c9 (λ_=>?_) (λ_=>kf G3 R3);refine⟨_,rfl,c0,_,_,_,rfl,rfl,Same.seq R3.1 hc0,rfl,_,_,rfl,rfl,_,rfl,?_⟩;cases decide (it.2 < 3)with
  |false=>exact kf G3 R3
  |true=>exact kt G3 R3
 ·obtain⟨s2,_⟩:=R4;refine⟨_,rfl,_,rfl,_,rfl,r,_,rfl,SqL.of (s2 _ _ gr),λp2 hp2=>?_⟩;rw[show -(1:Int)=-1 from rfl,D3];have s3:=Same.trans s2 (ad hp2 (.lst ys));refine⟨_,rfl,c0,_,_,_,rfl,rfl,Same.seq s3 hc0,rfl,sz2,λt ht=>?_⟩;have s5:=Same.trans s3 (ad ht (.tup [.str "again",y0]));refine⟨_,rfl,c0,_,_,_,rfl,rfl,Same.seq s5 hc0,rfl,_,rfl,c0,_,_,_,rfl,rfl,Same.seq s5 hc0,rfl,_,_,rfl,rfl,sz4,λl hl=>⟨sz1,λl2 hl2=>?_⟩⟩;have sB:Same (upd G4 p2 (.lst ys)) (upd (upd (upd (upd G4 p2 (.lst ys)) t (.tup [.str "again",y0])) l (.lst [.ref t,.bl false,.int (it.1.nts:Int),.int (it.2+1)])) l2 (.lst [.ref l])):=Same.trans (Same.trans (ad ht _) (ad hl _)) (ad hl2 _);refine⟨p2,l2,_,_,rfl,rfl,sB _ _ ae,ae,big _ (by show ys.length+1<=302;lia),λp3 hp3=>?_⟩;have s4:=Same.trans sB (ad hp3 (.lst (ys++[.ref l])));have sA:=Same.trans s3 s4;have sl:Same (upd (upd (upd G4 p2 (.lst ys)) t (.tup [.str "again",y0])) l (.lst [.ref t,.bl false,.int (it.1.nts:Int),.int (it.2+1)])) (upd (upd (upd (upd (upd G4 p2 (.lst ys)) t (.tup [.str "again",y0])) l (.lst [.ref t,.bl false,.int (it.1.nts:Int),.int (it.2+1)])) l2 (.lst [.ref l])) p3 (.lst (ys++[.ref l]))):=Same.trans (ad hl2 _) (ad hp3 _);refine fin _ p3 l _ is0 (.again it.1,it.2+1) sA ae (Holds.mono sA hy) (lh (sl _ _ ae) (.tup (SqT.of (sl _ _ (ad hl _ _ _ ae))) (.cons (.flat rfl) (.cons (Hold.mono sA hy0) .nil))) rfl rfl) ?_ (gd.last gd.it (aO _));rw[d0,eh,tt];show dz is0+(it.1.size+1)<=_;lia
 dsimp only[o6,tz];refine ifQ (oj H p) (λG=>oj H p G/\1 < (ys++[V.ref c0]).length) (λk kf kt=>?_) (λG5 R5=>?_) (λG5 R5=>?_)
 ·refine⟨_,rfl,_,_,rfl,rfl,_,rfl,?_⟩;refine c9 (λ_=>?_) (λ_=>kf G4 R4);refine⟨_,rfl,_,_,rfl,rfl,_,rfl,?_⟩;refine c9 (λ_=>?_) (λ_=>kf G4 R4);refine⟨_,rfl,r,_,rfl,.inl (SqL.of (R4.1 _ _ gr)),_,_,rfl,rfl,_,rfl,?_⟩;cases e:decide ((1:Int) < (((ys++[V.ref c0]).length:Nat):Int))with
  |false=>exact kf G4 R4
  |true=>
   have z:(1:Int) < (((ys++[V.ref c0]).length:Nat):Int):=of_decide_eq_true e;exact kt G4 ⟨R4,by lia⟩
 ·obtain⟨⟨s2,_⟩,l1⟩:=R5;rw[aN,gF,ly]at l1;rcases rN is0 with e | ⟨js,i1,e⟩
  ·rw[e]at l1;exact absurd l1 (by decide)
  rw[rO]at e;subst e;refine⟨_,rfl,sz2,λl hl=>?_⟩;have s3:=Same.trans s2 (ad hl (.lst [.str "either",.str "then"]));have e2:(js++[i1])++[it]=js++[i1,it]:=(by simp);have wd2:∃wd:Str,(wd="either"\/wd="then")/\atI [V.str "either",V.str "then"] (v % 2)=some (.str wd):=by
   have z:v % 2=0\/v % 2=1:=(by lia);rcases z with z | z
   ·rw[z];exact⟨_,.inl rfl,rfl⟩
   ·rw[z];exact⟨_,.inr rfl,rfl⟩
  obtain⟨wd,hwd,ewd⟩:=wd2;refine⟨_,rfl,_,_,rfl,rfl,(by show(0:Int) < 2;decide),l,_,_,_,rfl,rfl,SqL.of ae,ewd,r,wd,_,js,i1,it,rfl,hwd,s3 _ _ gr,(by rw[<-e2];exact Holds.mono s3 hd),?_,λr' xs' sy d H' s4 g4 h4 e4 en eu=>?_⟩
  ·rw[aN,gF]at tl;lia
  ·refine q r' xs' js (sy,d) H' (Same.trans s3 s4) g4 h4 ?_ (Gd.join (by rw[<-e2];exact gd) en (eu ws));rw[d0,eh,tt,d0,eh];show dz js+sy.size<=_;lia
 obtain⟨s5,a5,b5,g5,ha5,hb5⟩:=R5;refine⟨sz14,λl0 hl0=>?_⟩;obtain⟨st,stm,ste⟩:=Dz (ns:=[0,1,2,3,2,0,1,0,1,0,1,0,1,0]) v0 v1;have st3:0<=st/\st<=3:=by
  simp only[cD,eU,or_false]at stm;omega
 refine⟨_,rfl,l0,_,_,_,rfl,rfl,SqL.of ae,ste,?_⟩;have s6:=Same.trans s5 (ad hl0 (.lst [.int 0,.int 1,.int 2,.int 3,.int 2,.int 0,.int 1,.int 0,.int 1,.int 0,.int 1,.int 0,.int 1,.int 0]));refine⟨_,rfl,_,rfl,_,rfl,_,rfl,st,a5,b5,p,sp,ws,rfl,st3.1,st3.2,(ad hl0 _ _ _ g5),ha5,hb5,Hold.mono s6 hsp,sk,wd,λx sy G7 k7 hx7 eT eN eS eD=>?_⟩;have s7:Same H G7:=Same.keep s6 hp k7;refine⟨_,rfl,rfl,sz4,λl hl=>⟨sz1,λl2 hl2=>?_⟩⟩;have s8:Same G7 (upd (upd G7 l (.lst [x,.bl (!decide (V.int st=V.int 1)),.int 0,.int 0])) l2 (.lst [.ref l])):=Same.trans (ad hl _) (ad hl2 _);refine⟨r,l2,_,_,rfl,rfl,s8 _ _ (s7 _ _ gr),ae,big _ (by rw[aN];show ys.length+1+1<=302;lia),λp3 hp3=>?_⟩;have s9:=Same.trans s8 (ad hp3 (.lst ((ys++[.ref c0])++[.ref l])));have sA:=Same.trans s7 s9;have sl:Same (upd G7 l (.lst [x,.bl (!decide (V.int st=V.int 1)),.int 0,.int 0])) (upd (upd (upd G7 l (.lst [x,.bl (!decide (V.int st=V.int 1)),.int 0,.int 0])) l2 (.lst [.ref l])) p3 (.lst ((ys++[.ref c0])++[.ref l]))):=Same.trans (ad hl2 _) (ad hp3 _);refine fin _ p3 l _ (is0++[it]) (sy,0) sA ae (Holds.mono sA hd) (lh (sl _ _ ae) (Hold.mono s9 hx7) eT.symm (by rw[eN];rfl)) ?_ (gd.snoc eD (by show ntot (is0++[it])+sy.nts<=most;rw[eN];exact gd.nts));rw[d0 (is0++[it]),eh,eS];exact aO _
theorem J4 {f fR fJ:Addr}{fd fdR fdJ:cC}(F:Fun K "_law_saying" "_law_saying" Av f fd)
  (GR:FnOk P w K mg base CX0 3 fR fdR ["_law_row","_law_cell_here","_law_speech_here","_law_most"] (E8 K)) (bR:Binds K fdR ["_law_row","_law_cell_here","_law_speech_here","_law_most"] []) (kR:aU K (.ref fR)=true) (mR:mg "_law_grown"=some (.ref fR))
  (GJ:FnOk P w K mg base CX0 1 fJ fdJ ["_law_row","_law_word"] (vz K)) (bJ:Binds K fdJ ["_law_row","_law_word"] []) (kJ:aU K (.ref fJ)=true) (mJ:mg "_law_joined"=some (.ref fJ))
  (ml:mg "len"=none):FnOk P w K mg base CX0 4 f fd ["_law_cells","_law_speech_here","_law_most"] (Ca K):=by
 refine F.ok D5 (λvs H Q E h=>?_) (λcdv A outer s H vs Q E hr h=>?_)
 ·obtain⟨c,sp,m,xs,ws,rfl,_⟩:=h;rfl
 obtain⟨c,sp,most,cs,ws,rfl,hS,hI,l22,hsp,sk,wd,q⟩:=h;have hr1:Room 1 _:=hr.mono (by decide);refine⟨_,ah (ax (i:=3) D5.nd rfl (bV rfl) (av (ac (av (ac (bq (bj be af)) (bj j6 (bj ag (bj ag af))))) af))) (ah (de eB rfl (ck (pv 0)) (ay (i:=4) D5.nd rfl (bV rfl)) (ai (ax (i:=3) D5.nd rfl (bV rfl) (ao GR hr rfl mR kR bR .nil az (ac (pv 3) (ac (pv 4) (ac (pv 1) (ac (pv 2) af)))))))) (ah (xj eB (bi ye (bp br rfl ml eX (ac (pv 3) af)) ag (bn _)) (ai (ax (i:=3) D5.nd rfl (bV rfl) (ao GJ hr1 rfl mJ kJ bJ .nil az (ac (pv 3) (ac (aq aw (av (bj be (bj be af))) (bc iz (bc iz (bp br rfl ml eX (ac (pv 3) af)) ag) ag) (λ_ _=>rfl)) af)))))) (ai (au (aq aw (aq aw (pv 3) ag (λ_ _=>rfl)) ag (λ_ _=>rfl)))))),?_⟩;dsimp only[bf,Cx.nox];refine⟨sz1,λt ht=>⟨sz4,λl hl=>⟨sz1,λl2 hl2=>?_⟩⟩⟩;generalize hG2:upd (upd (upd H t (.tup [.str "all"])) l (.lst [.ref t,.bl true,.int 0,.int 0])) l2 (.lst [.ref l])=G2;have s2:Same H G2:=by
  rw[<-hG2];exact Same.trans (Same.trans (ad ht _) (ad hl _)) (ad hl2 _)
 have g2:G2 l2=some (.lst [.ref l]):=(by rw[<-hG2,ae]);have hd2:Holds K G2 [V.ref l] ((([]:List dq)++[(Say.every,0)]).map gn):=by
  rw[<-hG2];exact .one (lh (i:=(Say.every,0)) (ad hl2 _ _ _ ae) (.tup (SqT.of (ad hl2 _ _ _ (ad hl _ _ _ ae))) (.cons (.flat rfl) .nil)) rfl rfl)
 refine⟨_,rfl,c,rfl,⟨_,s2.seq hS⟩,gq (K:=K) (a:=c) (xs:=cs) (λi σ G=>∃(r:Addr)(xs:List V) (js:List dq) (j:dq) (v4:Option V),σ=[some (.ref c),some (.ref sp),some (.int (most:Int)),some (.ref r),v4]/\Same G2 G/\G r=some (.lst xs)/\Holds K G xs ((js++[j]).map gn)/\dz (js++[j])<=1+i/\Gd ws (js++[j]) most) ⟨l2,_,[],(Say.every,0),none,rfl,Same.refl _,g2,hd2,aO _,⟨λi hi=>(by rw[cE.mp hi];rfl),jZ _⟩⟩ (λi σ G _ z=>by obtain⟨_,_,_,_,_,_,sG,_⟩:=z;exact(Same.trans s2 sG).seq hS) ?_ ?_⟩
 ·intro i x σ G hx h_1;obtain⟨r,xs,js,j,v4,rfl,sG,gr,hd,tt,gd⟩:=h_1;generalize hE1_:db.mk _ _ _ _=E1_;revert hE1_ E1_;refine id ?_;intro E1_ hE1_;obtain⟨n,rfl⟩:=hI x (bQ hx);have hi:i < cs.length:=(aK.mp hx).1;refine⟨_,rfl,_,rfl,_,rfl,_,rfl,r,sp,n,most,xs,js,j,ws,rfl,gr,hd,by lia,Hold.mono (Same.trans s2 sG) hsp,sk,wd,gd,λr' xs' js' j' G' s' g' h' t' gd'=>?_⟩;subst hE1_;exact⟨r',xs',js',j',_,rfl,Same.trans sG s',g',h',by lia,gd'⟩
 ·intro σ G h_1;obtain⟨r,xs,js,j,v4,rfl,sG,gr,hd,tt,gd⟩:=h_1;have lj:js.length+1<=dz (js++[j]):=by
   have z:=xq (js++[j]);rw[aN,gF]at z;exact z
  refine⟨λm σ G=>∃(r:Addr)(xs:List V) (js:List dq) (j:dq),σ=[some (.ref c),some (.ref sp),some (.int (most:Int)),some (.ref r),v4]/\Same G2 G/\G r=some (.lst xs)/\Holds K G xs ((js++[j]).map gn)/\js.length+dz (js++[j])<=54/\Gd ws (js++[j]) most/\m=js.length,⟨_,r,xs,js,j,rfl,sG,gr,hd,by lia,gd,rfl⟩,?_⟩;clear lj tt hd gr sG gd;intro m σ G h_1;obtain⟨r,xs,js,j,rfl,sG,gr,hd,tt,gd,rfl⟩:=h_1;have lx:xs.length=js.length+1:=(by rw[hd.length,aG,aN,gF]);refine⟨_,rfl,r,_,rfl,.inl (SqL.of gr),_,_,rfl,rfl,_,rfl,?_⟩;refine c9 (λcc=>?_) (λcc=>?_)
  ·have c':(1:Int) < ((xs.length:Nat):Int):=of_decide_eq_true cc;rcases rN js with e | ⟨ks,i1,e⟩
   ·rw[e]at lx;rw[lx]at c';exact absurd c' (by decide)
   rw[rO]at e;subst e;have e2:(ks++[i1])++[j]=ks++[i1,j]:=(by simp);have t1:dz ((ks++[i1])++[j])=dz ks+i1.1.size+j.1.size:=(by rw[d0,d0,eh,eh]);have l1:(ks++[i1]).length=ks.length+1:=(by rw[aN,gF]);rw[t1,l1]at tt;refine⟨λσ' G'=>∃(r:Addr)(xs:List V) (js:List dq) (j:dq),σ'=[some (.ref c),some (.ref sp),some (.int (most:Int)),some (.ref r),v4]/\Same G2 G'/\G' r=some (.lst xs)/\Holds K G' xs ((js++[j]).map gn)/\js.length+dz (js++[j])<=54/\Gd ws (js++[j]) most/\js.length < (ks++[i1]).length,λσ' G' z=>?_,?_⟩
   ·obtain⟨r,xs,js,j,z1,z0,z2,z3,z4,z6,z5⟩:=z;exact⟨_,z5,r,xs,js,j,z1,z0,z2,z3,z4,z6,rfl⟩
   ·refine⟨_,rfl,sz2,λlw hlw=>?_⟩;have sw:=ad hlw (.lst [.str "either",.str "then"]);have m0:=ft (((xs.length:Nat):Int) % 3) (m:=2) (by decide);obtain⟨wd,hw,ew⟩:=W3 (ns:=["either","then"]) m0.1 m0.2;have hw':wd="either"\/wd="then":=by
     rcases cD.mp hw with z | z
     ·exact .inl z
     ·exact .inr (cE.mp z)
    refine⟨_,rfl,r,_,rfl,.inl (SqL.of (sw _ _ gr)),_,_,rfl,rfl,(by show(0:Int) < 3;decide),_,_,rfl,rfl,(by show(0:Int) < 2;decide),lw,_,_,_,rfl,rfl,SqL.of ae,ew,?_⟩;refine⟨r,wd,_,ks,i1,j,rfl,hw',sw _ _ gr,(by rw[<-e2];exact Holds.mono sw hd),by lia,λr' xs' sy d G' s' g' h' e' en eu=>?_⟩;refine⟨r',xs',ks,(sy,d),rfl,Same.trans sG (Same.trans sw s'),g',h',?_,Gd.join (by rw[<-e2];exact gd) en (eu ws),by lia⟩;rw[d0,eh];show ks.length+(dz ks+sy.size)<=54;lia
  ·have c':¬(1:Int) < ((xs.length:Nat):Int):=λz=>cc (decide_eq_true z);have e:js=[]:=gM.mp (by lia);subst e;obtain⟨ys,x0,rfl,hy,hx0⟩:=jt (ds:=[]) hd;cases hy;obtain⟨c0,y0,rfl,hc0,hy0⟩:=ow hx0;have sj:j.1.size<=54:=by
    rw[d0,eh]at tt;lia
   exact⟨_,rfl,r,_,_,_,rfl,rfl,SqL.of gr,rfl,c0,_,_,_,rfl,rfl,hc0,rfl,q y0 j.1 G (Same.trans s2 sG) hy0 sj gd.it gd.nt1⟩
end
end S25
namespace S25
open PySem L2 S1
def M9 (K:aA):Sp:=λvs H Q _=>∃(a:Addr)(ws:List (Str×Nat)),vs=[.ref a]/\Hold K H (.ref a) (gj ws)/\fg ws/\∀(r':Addr)(H':Hp),Same H H'->j8 K H' r' (letters (ws.map (·.2)))->Q (.ref r') H'
section
variable {P:aS}{w:bZ}{K:aA}{mg:Str->Option aB}{base:Heap}
theorem wa:ar ["_law_speech_here","_law_found","_law_field","_law_count","_law_longer","_law_letter"] ["_law_speech_here"] (aj Ce):=fsN
def Q2:gG:={ kind:=.function,names:=[(".0",.local),("_law_value",.local),("_law_letter",.free)],isGenerator:=false,isCoroutine:=false,more:=[] }
theorem cLl_ {CX:CXT}{f:Addr}{cdv:aB}{A:cW}{outer:List Env}{s:aI}{H:Hp}{E:XK} :
  cb (bf CX P w K mg base ["_law_speech_here","_law_found","_law_field","_law_count","_law_longer","_law_letter"] "_law_letters" (aj Ce) f cdv A outer s H E).nox ["_law_value"] ["_law_letter"] [5] Q2 [("_law_letter",s.heap.objs.size+1)]:=csN [(".0",.local),("_law_value",.local),("_law_letter",.cell)]
theorem Tv {f:Addr}{fd:cC}(F:Fun K "_law_letters" "_law_letters" Ce f fd)(mr:mg "range"=none):FnOk P w K mg base CX0 1 f fd ["_law_speech_here"] (M9 K):=by
 refine F.ok wa (λvs H Q E h=>?_) (λcdv A outer s H vs Q E hr h=>?_)
 ·obtain⟨a,ws,rfl,_⟩:=h;rfl
 obtain⟨a,ws,rfl,hs,sk,q⟩:=h;refine⟨_,ah (ax (i:=1) wa.nd rfl (bV rfl) (av (ac (bq af) af))) (ah (de eB rfl (on (pv 0)) (jz rfl (cn (ay (i:=2) wa.nd rfl (bV rfl)) (cn (ay (i:=3) wa.nd rfl (bV rfl)) im))) (ah (ax (i:=4) wa.nd rfl (bV rfl) (av af)) (ah (de eB rfl (ck (pv 1)) (ay (i:=5) wa.nd rfl (lJ rfl)) (ai (ax (i:=4) wa.nd rfl (bV rfl) (bc gf (pv 4) (cy (ns:=["_law_value"]) (ys:=["_law_letter"]) (sc:=Q2) cLl_ rfl (ip rfl mr (ac (pv 3) af)) (λC s H fp=>ay (i:=0) (by show(["_law_value","_law_letter"]:List Str).Nodup;decide +kernel) rfl (bV rfl)) (λC s H fp=>cw) (λC s H fp=>bc (r:=λx y H Q=>mf K x y H Q\/jj K x y H Q) ni (pv 1) (bq (ac (pv 0) af)))))))) (ai (ax (i:=1) wa.nd rfl (bV rfl) (pv 4)))))) (ai (au (pv 1)))),?_⟩;dsimp only[bf,Cx.nox];refine⟨sz0,λt ht=>⟨sz1,λr hr'=>?_⟩⟩;have tr:t≠r:=am ae hr';have hr0:H r=none:=Same.free (ad ht _) hr';obtain⟨a',vs,ea,ha,hd⟩:=Hold.tupI hs;cases ea;have lw:vs.length=ws.length:=(by rw[hd.length,aG]);have s0:Same H (upd (upd H t (.tup [])) r (.lst [.ref t])):=Same.put (ad ht _) hr0 _;refine⟨_,rfl,a,rfl,⟨_,ha.same s0⟩,Ae (K:=K) (a:=a) (xs:=vs) (λi σ G=>∃(r:Addr)(v2 v3 v4 v5:Option V),σ=[some (.ref a),some (.ref r),v2,v3,v4,v5]/\Same H G/\j8 K G r (letters ((ws.take i).map (·.2)))) ⟨r,none,none,none,none,rfl,s0,[.ref t],ae,.one (.tup (SqT.of (by rw[al tr,ae])) .nil)⟩ (λi σ G _ h0_=>by obtain⟨_,_,_,_,_,_,sG,_⟩:=h0_;exact ha.same sG) ?_ ?_⟩
 ·intro i x σ G hx h_1;obtain⟨r,v2,v3,v4,v5,rfl,sG,us,gr,hu⟩:=h_1;obtain⟨w',ew,hw⟩:=hd.getm hx;obtain⟨b,ys,rfl,hb,hys⟩:=Hold.tupI hw;have hi:i < ws.length:=(aK.mp ew).1;have wm:w'∈ws:=bQ ew;have h6:=sk.cnt w' wm;have i3:=sk.hi;have lm:(letters ((ws.take i).map (·.2))).length<=36:=by
   rw[jr];refine bK (De _ λc hc=>?_) ?_
   ·obtain⟨z,hz,rfl⟩:=eE.mp hc;exact(sk.cnt z (nP hz)).2
   ·rw[aG,cQ];exact bK (pG (by decide) (show min i ws.length<=2 by lia)) (by decide)
  have lw10:∀l∈letters ((ws.take i).map (·.2)),l.length<=10:=λl hl=>by
   rw[(jn _).wide l hl,aG,cQ];lia
  have tk0:(ws.take (i+1)).map (·.2)=(ws.take i).map (·.2)++[w'.2]:=(by rw[dJ,ew];simp);rw[tk0,qk];generalize letters ((ws.take i).map (·.2))=ls at hu lm lw10 ⊢;have ul:us.length=ls.length:=(by rw[hu.length,aG]);cases hys with
  |cons h1 r1=>
   cases r1 with
   |cons h2 r2=>
    cases r2;cases h1.flatI;cases h2.flatI;refine⟨b,_,rfl,hb.same sG,rfl,_,_,rfl,_,_,rfl,rfl,?_⟩;refine⟨sz0,λu0 hu0=>?_⟩;have t0:=ad hu0 (.lst []);refine⟨_,rfl,r,rfl,⟨_,SqL.of (t0 _ _ gr)⟩,gq (K:=K) (a:=r) (xs:=us) (λj σ G2=>∃(u:Addr)(xs:List V) (v5:Option V),σ=[some (.ref a),some (.ref r),some (.str w'.1),some (.int (w'.2:Int)),some (.ref u),v5]/\Same G G2/\G2 u=some (.lst xs)/\Holds K G2 xs ((longer (ls.take j) w'.2).map jc)) ⟨u0,[],_,rfl,t0,ae,.nil⟩ (λj σ G2 _ h0_=>by obtain⟨_,_,_,_,s2,_⟩:=h0_;exact SqL.of (s2 _ _ gr)) ?_ ?_⟩
    ·intro j x σ G2 hx2 h_1;obtain⟨u,xs,v5,rfl,s2,gu,hxs⟩:=h_1;generalize hE1_:db.mk _ _ _ _=E1_;revert hE1_ E1_;refine id ?_;intro E1_ hE1_;obtain⟨l,el,hl⟩:=hu.getm hx2;obtain⟨a2,ys,rfl,ha2,hys⟩:=Hold.tupI hl;have ey:ys=l.map V.int:=hys.ints;subst ey;have hil:j < ls.length:=(aK.mp el).1;have l10:l.length<=10:=lw10 l (bQ el);have xl:xs.length<=600:=by
      rw[hxs.length,aG,o0,cQ];exact bK (kQ (show min j ls.length<=100 by lia) h6.2) (by decide)
     refine⟨_,rfl,_,rfl,(w'.2:Int),rfl,by lia,by lia,λD hD=>?_⟩;refine o7 (n:=(w'.2:Int).toNat) (λk zs G'=>Same G2 G'/\G' D=some (.lst zs)/\Holds K G' zs (((fK k).map λ(v:Nat)=>l++[(v:Int)]).map jc)) ⟨ad hD _,ae,.nil⟩ (λj zs G' h=>h.2.1) ?_ ?_
     ·intro k zs G' hk h_1;obtain⟨s1,d1,k1⟩:=h_1;have zl:zs.length=k:=(by rw[k1.length,aG,aG,gK]);refine⟨bg (by lia),⟨[some _],rfl,rfl⟩,?_⟩;refine⟨_,rfl,_,rfl,sz1,λt ht=>?_⟩;have hD':G2 D=none:=hD;have fin:∀(p:Addr)(G3:Hp),Same G' G3->G3 p=some (.tup ((l++[(k:Int)]).map V.int))->G3 D=some (.lst zs)/\Same G2 (upd G3 D (.lst (zs++[.ref p])))/\upd G3 D (.lst (zs++[.ref p])) D=some (.lst (zs++[.ref p]))/\
        Holds K (upd G3 D (.lst (zs++[.ref p]))) (zs++[.ref p]) (((fK (k+1)).map λ(v:Nat)=>l++[(v:Int)]).map jc):=λp G3 s3 hp=>by
       have hD2:G3 D=some (.lst zs):=s3 _ _ d1;refine⟨hD2,Same.put (Same.trans s1 s3) hD' _,ae,?_⟩;rw[jO,aZ,aZ];refine Holds.append (Holds.stay ((Tups.of s3).trans (Tups.put hD2 _)) (by rw[jF];exact bw (λ_=>gz _) _) k1) (.one (.tup (SqT.of ?_) (fz _)));rw[al (iw hp hD2 (by intro z;cases z))];exact hp
      have ha':SqT K G' a2 (l.map V.int):=ha2.same (Same.trans s2 s1);by_cases hl0:l=[]
      ·subst hl0;refine .inr ⟨a2,t,[.int (0+(k:Int))],rfl,rfl,ha'.same (ad ht _),SqT.of ae,fin t _ (ad ht _) ?_⟩;rw[ae];simp
      ·refine .inl ⟨a2,t,l.map V.int,[.int (0+(k:Int))],rfl,rfl,ha'.same (ad ht _),SqT.of ae,(by simpa using hl0),small (by rw[aG];show l.length+1<=1000;lia),(λe=>by cases e),λ_ p hp=>fin p _ (Same.trans (ad ht _) (ad hp _)) ?_⟩;rw[ae];simp
     ·intro zs G' h_1;obtain⟨s1,d1,k1⟩:=h_1;have ct:(w'.2:Int).toNat=w'.2:=(by lia);rw[ct]at k1;have zl:zs.length=w'.2:=(by rw[k1.length,aG,aG,gK]);refine⟨u,D,xs,zs,rfl,rfl,s1 _ _ gu,d1,small (by lia),λp3 hp3=>?_⟩;have t3:=ad hp3 (.lst (xs++zs));subst hE1_;refine⟨p3,xs++zs,_,rfl,Same.trans (Same.trans s2 s1) t3,ae,?_⟩;have tk:ls.take (j+1)=ls.take j++[l]:=(by rw[dJ,el];rfl);rw[tk,w6,aZ];exact(hxs.mono (Same.trans s1 t3)).append (k1.mono t3)
    ·intro σ G2 h_1;obtain⟨u,xs,v5,rfl,s2,gu,hxs⟩:=h_1;rw[ul,dZ]at hxs;exact⟨_,rfl,u,_,_,_,_,rfl,Same.trans sG s2,xs,gu,hxs⟩
 ·intro σ G h_1;obtain⟨r,v2,v3,v4,v5,rfl,sG,lt⟩:=h_1;refine⟨_,rfl,q r G sG ?_⟩;rw[lw,dZ]at lt;exact lt
end
end S25
namespace L2
open PySem PySem.Spec PyProof.Rows Fly
def cxT (X:Cx)(pins:List (Addr×Obj))(EX:St->XK):Cx:=
 { X with pn:=X.pn++pins,xe:=λev s'=>∃ps σ H s,Inv { X with pn:=X.pn++pins } ps σ H s/\CXx X.prog X.w X.stack H s (EX σ) ev s' }
section
variable {X:Cx}{pins ps0:List (Addr×Obj)}{σ:St}{H:Hp}{s:aI}{EX:St->XK}
theorem Cx.Ok.pinned {xe:aB->aI->Prop}(ok:X.Ok):Cx.Ok { X with pn:=X.pn++pins,xe:=xe }:=
 ⟨ok.mod,ok.kind,ok.glob,ok.blt,ok.above,ok.inj,ok.has,ok.cab,ok.hd,ok.frames,ok.stk,ok.exf,ok.bs,ok.bsz,ok.noex,ok.exfs,ok.funs,ok.frf⟩
theorem Cx.Ok.back {xe:aB->aI->Prop}(ok:Cx.Ok { X with pn:=X.pn++pins,xe:=xe }):X.Ok:=
 ⟨ok.mod,ok.kind,ok.glob,ok.blt,ok.above,ok.inj,ok.has,ok.cab,ok.hd,ok.frames,ok.stk,ok.exf,ok.bs,ok.bsz,ok.noex,ok.exfs,ok.funs,ok.frf⟩
theorem Inv.inT (I:Inv X pins σ H s):Inv (cxT X pins EX) [] σ H s:=
 ⟨I.ok.pinned,I.os,I.bare,I.base,I.loc,I.cell,I.free,I.freeC,λp hp=>I.pin p (by simpa[cxT]using hp),I.hok,I.len⟩
theorem Inv.outT {xe:aB->aI->Prop}(I:Inv { X with pn:=X.pn++pins,xe:=xe } ps0 σ H s):Inv X pins σ H s:=
 ⟨I.ok.back,I.os,I.bare,I.base,I.loc,I.cell,I.free,I.freeC,λp hp=>I.pin p (jD _ hp),I.hok,I.len⟩
theorem Inv.reT {xe xe':aB->aI->Prop}(I:Inv { X with pn:=X.pn++pins,xe:=xe } ps0 σ H s):Inv { X with pn:=X.pn++pins,xe:=xe' } ps0 σ H s:=
 ⟨I.ok.back.pinned,I.os,I.bare,I.base,I.loc,I.cell,I.free,I.freeC,I.pin,I.hok,I.len⟩
end
section
variable {X:Cx}{x c n y:Str}{f SW:Addr}{fd:cC}{k i j:Nat}{ps:List Str}{sp:Sp}{a:Expr}{es:List Expr}{t:TA}{p pos pe pc py pn pa ph tp:Pos}{pins0:List (Addr×Obj)}{EX:St->XK}
theorem x8 (F:FnOk X.prog X.w X.K X.mg X.base (CXx X.prog X.w) k f fd ps sp)(hr:Room k X.A)(hg:Gl X x)(hm:X.mg x=some (.ref f))(hk:aU X.K (.ref f)=true)(hb:Binds X.K fd ps [])
  (ha:PA (cxT X pins0 EX) (a::es) t) (hdb:(x == ("__debug__":Str))=false:=by decide)
  (he:cZ (a::es) X.env=(false,eval a X.env)::cZ es X.env:=by rfl) (hpl:(lE pos (cZ es X.env)).any (·.1)=false:=by rfl)
  (hs1:qA (.Call (.Name x p) (a::es) [] pos) none pe.line X.env=pure false:=by rfl) :
  PS (cxT X pins0 EX) (.Expr (.Call (.Name x p) (a::es) [] pos) pe) (λD σ H=>t σ H λvs H1=>sp vs H1 (λ_ H2=>D.nx σ H2) (EX σ)):=by
 intro pins s σ H D I h;refine wpAny_Expr_any (Q:=_) (gC (Q:=λ_ s1=>∃H2,Inv (cxT X pins0 EX) pins σ H2 s1/\D.nx σ H2) ?_ (λv s1 h0_=>by obtain⟨H2,I2,q⟩:=h0_;exact⟨σ,H2,I2,q⟩) λ_ _ z=>z) I.quiet hs1;refine mX (ko (X:=cxT X pins0 EX) I hg hm ?_ hdb);refine mZ (h₀:=X.base) I.ok.mod.kin hk (thn (ha pos pins s σ H _ I h) λus s1 h0_=>?_) he hpl;obtain⟨vs,H1,I1,r,q⟩:=h0_;refine⟨I1.kIn,?_⟩;show aM _ _ (call (.ref f) us) _ _ _;have hl:(us++[]).length=ps.length:=(by rw[iM,<-r.length];exact F.len _ _ _ _ q);have bd:=hb s1 us I1.kIn hl;rw[iM]at bd;refine rW (nR (F.run X.A X.stack s1 H1 ⟨us,[]⟩ us vs _ _ hr I1.env0 bd r q) λrr s' hq=>?_);cases rr with
 |ok fl=>
  cases fl with
  |ret u=>
   obtain⟨v,H2,I2,rv,q2⟩:=I1.after hq;exact⟨H2,I2,q2⟩
  |next=>exact gY hq
  |brk=>exact gY hq
  |cont=>exact gY hq
 |error ev=>exact⟨pins,σ,H1,s1,I1.reT,hq⟩
theorem Tw {body:List Stmt}{tb:(St->XK)->TS}(hb:∀pins EX,PSs (cxT X pins EX) body (tb EX))(hgc:Gl X c)(hmc:X.mg c=some (.ref SW))(hst:X.stack=X.env::X.outer)(hfr:X.env.frame=some X.env.locals)
  (hN:X.N.Nodup) (hn:X.N[i]?=some n) (hln:X.env.scope.names.lookup n=some .local) (hy:X.N[j]?=some y) (hly:X.env.scope.names.lookup y=some .local)
  (hdc:(c == ("__debug__":Str))=false:=by decide) (hdn:(n == ("__debug__":Str))=false:=by decide) (hcn:(n == ("__classdict__":Str))=false:=by decide)
  (hs2:qA (.Name n pn) (some (.Name y py)) pa.line X.env=pure false:=by rfl) :
  PS X (.Try body [.ExceptHandler (some (.Name c pc)) (some n) [.Assign [.Name y py] (.Name n pn) pa] ph] [] [] tp)
   (λD σ H=>tb (λσ1 cls dx H2=>∃C,cls=.ref C/\jB X.K (.ref C) (.ref SW)=some true/\∀e,H2 e=none->D.nx (((σ1.set i (some (.ref e))).set j (some (.ref e))).set i none) (upd H2 e (rh e C dx))) D σ H):=by
 intro pins s σ H D I h;refine wpAny_Try_except ?_;refine gC (hb pins _ [] s σ H D I.inT h) (λfl s1 q=>?_) λev s' hq=>?_
 ·cases fl with
  |next=>obtain⟨σ',H',I',q⟩:=q;exact pU ⟨σ',H',I'.outT,q⟩
  |brk=>obtain⟨σ',H',I',q⟩:=q;exact⟨σ',H',I'.outT,q⟩
  |cont=>obtain⟨σ',H',I',q⟩:=q;exact⟨σ',H',I'.outT,q⟩
  |ret u=>obtain⟨v,σ',H',I',r,q⟩:=q;exact⟨v,σ',H',I'.outT,r,q⟩
 ·obtain⟨ps1,σ1,H1,s1,I1',e,C,dx,H',B,rfl,os,bare,xa,hok,hee,hne,un,old,C2,ec,hx,q⟩:=hq;have I1:Inv X pins σ1 H1 s1:=I1'.outT;cases ec;have xa':=xa;rw[hst]at xa';refine Fly.note (by rw[<-hst];exact I.ok.frames) hfr xa' (.inr rfl) λh2 x2 up2=>?_;refine Fly.land x2 λh3 x3 up3=>?_;rw[<-hst]at x3;refine K2 ?_;have ok2:Cx.Ok { X with A:=X.A.mark (some (.ref e)),calm:=false,xe:=λ_ _=>False }:={ I.ok with hd:=(λz=>Bool.noConfusion z),frames:=I.ok.frames };have mk:∀{h4:Heap}{t4:Nat},XAt B X.stack e (.ref C) dx (some .none) h4->s'.heap.UpToSlots h4->Inv { X with A:=X.A.mark (some (.ref e)),calm:=false,xe:=λ_ _=>False } pins σ1 (upd H' e (rh e C dx)) { s' with heap:=h4,toks:=t4 }:=λ{h4 t4} x4 up4=>by
   have J:=I1.caught (t':=t4) os bare xa x4 up4 hok hee hne un old;exact⟨ok2,J.os,J.bare,J.base,J.loc,J.cell,J.free,J.freeC,J.pin,J.hok,J.len⟩
  have I4:=mk (t4:=s'.toks) x3 (up2.trans up3);refine ko (X:={ X with A:=X.A.mark (some (.ref e)),calm:=false,xe:=λ_ _=>False }) I4 hgc hmc ⟨?_,?_⟩ hdc
  ·obtain⟨oe,vs,z1,z2,_⟩:=x3.obj;have LT:PySem.W.Looks (aX X.prog X.w) h3 (xX (.ref e)) (.ref C):=by
    rw[<-z2];exact(PySem.W.Looks.ld z1).andThen .now
   exact PySem.W.exm_one I4.kIn LT hx
  ·refine Fly.land x3 λh4 x4 up4=>?_;have I5:=mk (t4:=s'.toks) x4 ((up2.trans up3).trans up4);refine tj (X:={ X with A:=X.A.mark (some (.ref e)),calm:=false,xe:=λ_ _=>False }) (v:=.ref e) I5 hN hn (.inl hln) rfl (λs6 I6=>?_) (.inr hln);have hiσ:i < σ1.length:=by
    have:=I1.len;rw[this];exact(aK.mp hn).1
   refine gC ((ai (ax (X:={ X with A:=X.A.mark (some (.ref e)),calm:=false,xe:=λ_ _=>False }) hN hy (.inl hly) (Kb (X:={ X with A:=X.A.mark (some (.ref e)),calm:=false,xe:=λ_ _=>False }) hn (.inl hln) hdn hcn) hs2 (.inr hly))) pins s6 _ _ { nx:=λσ' H''=>σ'=(σ1.set i (some (.ref e))).set j (some (.ref e))/\H''=upd H' e (rh e C dx),rt:=λ_ _=>False } I6 ⟨.ref e,by rw[oN hiσ],rfl,rfl⟩) (λfl s7 hf=>?_) λ_ _ z=>z;cases fl with
   |ret u=>obtain⟨_,_,_,_,_,z⟩:=hf;exact z.elim
   |brk=>obtain⟨_,_,_,z⟩:=hf;exact z.elim
   |cont=>obtain⟨_,_,_,z⟩:=hf;exact z.elim
   |next=>
    obtain⟨σ',H'',I7,e1,e2⟩:=hf;subst e1 e2;obtain⟨m,nm,hl7⟩:=I7.loc;have hkd:(X.env.scope.kind == ScopeKind.«class» || (X.env.scope.kind == ScopeKind.«module» && X.env.locals != X.env.globals))=false:=(by rw[I.ok.kind];rfl);refine Fly.gone hln nm hkd λh8 u8 ns8 sb8=>⟨_,_,?_,q e hee⟩;have J:Inv X pins _ _ s7:=⟨I.ok,I7.os,I7.bare,I7.base,I7.loc,I7.cell,I7.free,I7.freeC,I7.pin,I7.hok,I7.len⟩;exact J.unset hN hn nm hl7 ns8 sb8
end
end L2
namespace L2
open PySem Fly
theorem XAs.same {H G:Hp}{e C:Addr}{fs:List (Str×V)}(x:XAs H e C fs)(s:Same H G):XAs G e C fs:=by
 obtain⟨dx,h1,h2⟩:=x;exact⟨dx,h1.imp (s _ _) (s _ _),s _ _ h2⟩
theorem IsX.same {H G:Hp}{e C:Addr}(x:IsX H e C)(s:Same H G):IsX G e C:=by
 rcases x with⟨d,x⟩ | ⟨d,x⟩
 ·exact .inl ⟨d,s _ _ x⟩
 ·exact .inr ⟨d,s _ _ x⟩
section
variable {X:Cx}
end
end L2
namespace S25
open PySem L2 Fly PyProof.Rows
abbrev Ab:List V:=[.str "is",.str "put",.str "all",.str "none",.str "note"]
theorem Tx (s:Say):inV (.str s.sort) Ab=!s.hasK:=by cases s<;>kernel_rfl
theorem P0 {s:Say}(h:s.hasK=false):decide (V.str s.sort=V.str "note")=decide (s.nts≠0):=by
 cases s<;>first | (simp[Say.hasK]at h;done) | kernel_rfl
theorem Ty {s:Say}(h:s.hasK=true):decide (s.nts≠0)=s.kids.any λk=>decide (k.nts≠0):=by
 cases s
 case no t=>show decide (t.nts≠0)=(decide (t.nts≠0) || false);rw[wI]
 case again t=>show decide (t.nts≠0)=(decide (t.nts≠0) || false);rw[wI]
 case either a b=>
  show decide (a.nts+b.nts≠0)=(decide (a.nts≠0) || (decide (b.nts≠0) || false));rw[jM];simp only[decide_eq_true_iff,sM,gW,or_false];lia
 case both a b=>
  show decide (a.nts+b.nts≠0)=(decide (a.nts≠0) || (decide (b.nts≠0) || false));rw[jM];simp only[decide_eq_true_iff,sM,gW,or_false];lia
 all_goals cases h
theorem P1 (l:List Say):decide ((0:Int) < (((l.filter λk=>decide (k.nts≠0)).length:Nat):Int))=l.any λk=>decide (k.nts≠0):=by
 induction l with
 |nil=>rfl
 |cons a r ih=>
  by_cases h:a.nts≠0
  ·rw[List.filter_cons_of_pos (by simpa using h),oC,decide_eq_true h,dX,Bool.true_or];exact decide_eq_true (by lia)
  ·rw[List.filter_cons_of_neg (by simpa using h),oC,decide_eq_false h,Bool.false_or];exact ih
def V2 (K:aA)(n:Nat):Sp:=λvs H Q _=>∃(x:V)(s:Say),vs=[x]/\Hold K H x s.da/\s.size<=n/\∀H':Hp,Same H H'->Q (.bl (decide (s.nts≠0))) H'
def V3:gG:={ kind:=.function,names:=[(".0",.local),("_law_one",.local),("_law_has_note",.globalImplicit)],isGenerator:=false,isCoroutine:=false,more:=[] }
section
variable {P:aS}{w:bZ}{K:aA}{mg:Str->Option aB}{base:Heap}
theorem csHN {X:Cx}:cb X ["_law_one"] [] [] V3 []:=jo rfl (by decide +kernel) (by decide +kernel) (by decide +kernel)
theorem V4:ar ["_law_saying_here"] ["_law_saying_here"] (aj Dl):=fsN
theorem Q3 {f:Addr}{fd:cC}(F:Fun K "_law_has_note" "_law_has_note" Dl f fd)(bF:Binds K fd ["_law_saying_here"] [])(kF:aU K (.ref f)=true)(mF:mg "_law_has_note"=some (.ref f))(ml:mg "len"=none) :
  ∀n:Nat,FnOk P w K mg base CX0 (n+1) f fd ["_law_saying_here"] (V2 K n)
 |0=>by
  refine F.ok V4 (λvs H Q E h=>?_) (λcdv A outer s H vs Q E hr h=>?_)
  ·obtain⟨x,s,rfl,_⟩:=h;rfl
  ·obtain⟨x,sy,rfl,hx,hn,q⟩:=h;have:=nn sy;lia
 |n+1=>by
  have G:=Q3 F bF kF mF ml n;refine F.ok V4 (λvs H Q E h=>?_) (λcdv A outer s H vs Q E hr h=>?_)
  ·obtain⟨x,s,rfl,_⟩:=h;rfl
  obtain⟨x,sy,rfl,hx,hn,q⟩:=h;refine⟨_,ah (cj (bi lg (aq cf (pv 0) ag (λ_ _=>rfl)) (av (bj be (bj be (bj be (bj be (bj be af)))))) (by with_unfolding_all rfl)) (ai (au (fo df (aq cf (pv 0) ag (λ_ _=>rfl)) be (bn _)))) bo) (ai (au (fo ye (bp br rfl ml eX (ac (cy (ns:=["_law_one"]) (ys:=[]) (sc:=V3) csHN rfl (on (cq vc (pv 0) (c7 ag) dh)) (λC s H fp=>ay (i:=0) (by show(["_law_one"]:List Str).Nodup;decide +kernel) rfl (bV rfl)) (λC s H fp=>nh (jh (ao G hr rfl mF kF bF .nil az (ac (pv 0) af)))) (λC s H fp=>pv 0)) af)) ag (bn _)))),?_⟩
  dsimp only[bf,Cx.nox];obtain⟨a,xs,rfl,ha,hk⟩:=i5 hx;refine⟨_,rfl,a,_,_,_,rfl,rfl,ha,d9 _ _,sz5,λl1 hl1=>⟨l1,Ab,rfl,.inl (SqL.of ae),rfl,by decide +kernel,_,rfl,?_⟩⟩;show if inV (.str sy.sort) Ab=true then _ else _
  rw[Tx];have s1:=ad hl1 (.lst Ab);refine c9 (λc=>?_) (λc=>?_)
  ·have c1:sy.hasK=false:=(by simpa using c);refine⟨_,rfl,a,_,_,_,rfl,rfl,ha.same s1,d9 _ _,rfl,?_⟩;rw[P0 c1];exact q _ s1
  have hK:sy.hasK=true:=(by simpa using c);refine⟨_,rfl,_,rfl,a,_,rfl,ha.same s1,D8,λp hp=>?_⟩;rw[Oe];have s3:=Same.trans s1 (ad hp (.tup xs));have hk3:=Holds.mono s3 (hk hK);refine⟨p,rfl,⟨_,SqT.of ae⟩,λD hD=>?_⟩;generalize hG3:upd (upd H l1 (.lst Ab)) p (.tup xs)=G3 at hD s3 hk3 ⊢;have hp3:G3 p=some (.tup xs):=(by rw[<-hG3,ae]);have lx:xs.length=sy.kids.length:=(by rw[hk3.length,aG]);have l2':=Fz sy;refine qf (K:=K) (a:=p) (xs:=xs) (λi ys G2=>Same G3 G2/\G2 D=some (.lst ys)/\ys.length=((sy.kids.take i).filter λk=>decide (k.nts≠0)).length) ⟨ad hD _,ae,rfl⟩ (λi ys G2 z=>z.2.1) (λi ys G2 _ z=>SqT.of (z.1 _ _ hp3)) ?_ ?_
  ·intro i x' ys G2 hx' h_1;obtain⟨sG,d2,e2⟩:=h_1;obtain⟨k,ek,hk'⟩:=hk3.getm hx';have km:k∈sy.kids:=bQ ek;have kz:=D7 km;have yl:ys.length<=2:=by
    rw[e2];exact bK (jR _ _) (by rw[cQ];lia)
   have e3:((sy.kids.take (i+1)).filter λk=>decide (k.nts≠0)).length=ys.length+(if (decide (k.nts≠0))=true then 1 else 0):=by
    rw[dJ,ek,nB,aN,<-e2];by_cases q:k.nts≠0<;>simp[q]
   refine⟨bg (by lia),⟨[some _],rfl,rfl⟩,?_⟩;refine⟨_,rfl,x',k,rfl,Hold.mono sG hk',by lia,λG4 s4=>⟨_,rfl,?_⟩⟩;refine c9 (λc=>?_) (λc=>?_)
   ·refine⟨_,rfl,s4 _ _ d2,Same.put (Same.trans sG s4) hD _,ae,?_⟩;rw[e3,if_pos c,aN];rfl
   ·refine⟨Same.trans sG s4,s4 _ _ d2,?_⟩;rw[e3,if_neg c];rfl
  ·intro ys G2 h_1;obtain⟨sG,d2,e2⟩:=h_1;refine⟨D,ys,rfl,.inl (SqL.of d2),_,_,rfl,rfl,?_⟩;rw[e2,lx,dZ];have z:=q G2 (Same.trans s3 sG);rw[Ty hK,<-P1]at z;exact z
end
inductive NF where
 |flt (f:Flt)
 |plain (s:Say)
def DAt (K:aA)(H:Hp)(r:Addr):Option NF->Prop
 |none=>H r=some (.lst [])
 |some (.flt (.field f))=>H r=some (.lst [.str "field",.str f])
 |some (.flt (.value v))=>H r=some (.lst [.str "value",.int v])
 |some (.flt (.test t))=>∃y,H r=some (.lst [.str "test",y])/\Hold K H y t.da
 |some (.plain t)=>∃y,H r=some (.lst [.str "plain",y])/\Hold K H y t.da
theorem DAt.mono {K:aA}{H G:Hp}{r:Addr}{o:Option NF}(h:DAt K H r o)(s:Same H G):DAt K G r o:=by
 cases o with
 |none=>exact s _ _ h
 |some f=>
  cases f with
  |flt f=>
   cases f with
   |field z=>exact s _ _ h
   |value z=>exact s _ _ h
   |test t=>obtain⟨y,h1,h2⟩:=h;exact⟨y,s _ _ h1,h2.mono s⟩
  |plain t=>obtain⟨y,h1,h2⟩:=h;exact⟨y,s _ _ h1,h2.mono s⟩
theorem DAt.two {K:aA}{H:Hp}{r:Addr}{f:NF}(h:DAt K H r (some f)):∃x y,H r=some (.lst [x,y]):=by
 cases f with
 |flt f=>
  cases f with
  |field z=>exact⟨_,_,h⟩
  |value z=>exact⟨_,_,h⟩
  |test t=>obtain⟨y,h1,h2⟩:=h;exact⟨_,_,h1⟩
 |plain t=>obtain⟨y,h1,h2⟩:=h;exact⟨_,_,h1⟩
def x9 (ws:List (Str×Nat))(s:Say)(wy:Int):Option NF:=match s.due ws with
 |some f=>some (.flt f)
 |none=>if wy=1/\s.nts≠0 then some (.plain s)else if wy=2/\s.isT=false then some (.flt (.test s))else none
theorem ox {ws:List (Str×Nat)}{s:Say}{f:Flt}(h:s.due ws=some f)(wy:Int):x9 ws s wy=some (.flt f):=by unfold x9;rw[h]
theorem i7 {ws:List (Str×Nat)}{s:Say}(h:s.due ws=none)(wy:Int):x9 ws s wy=if wy=1/\s.nts≠0 then some (.plain s)else if wy=2/\s.isT=false then some (.flt (.test s))else none:=by unfold x9;rw[h]
def Na (K:aA):Sp:=λvs H Q _=>∃(wy:Int)(z x:V) (b:Addr) (ws:List (Str×Nat)) (s:Say),vs=[.int wy,z,x,.ref b]/\Hold K H x s.da/\s.size<=58/\DAt K H b ((s.due ws).map NF.flt)/\
 ∀(r:Addr)(H':Hp),Same H H'->DAt K H' r (x9 ws s wy)->Q (.ref r) H'
section
variable {P:aS}{w:bZ}{K:aA}{mg:Str->Option aB}{base:Heap}
theorem scDu:ar ["_law_way","_law_speech_here","_law_saying_here","_law_bad"] ["_law_way","_law_speech_here","_law_saying_here","_law_bad"] (aj N7):=fsN
theorem Tz {f fH fT:Addr}{fd fdH fdT:cC}(F:Fun K "_law_due" "_law_due" N7 f fd)
  (GH:FnOk P w K mg base CX0 59 fH fdH ["_law_saying_here"] (V2 K 58)) (bH:Binds K fdH ["_law_saying_here"] []) (kH:aU K (.ref fH)=true) (mH:mg "_law_has_note"=some (.ref fH))
  (GT:FnOk P w K mg base CX0 59 fT fdT ["_law_saying_here"] (Oq K 58)) (bT:Binds K fdT ["_law_saying_here"] []) (kT:aU K (.ref fT)=true) (mT:mg "_law_is_test"=some (.ref fT)) :
  FnOk P w K mg base CX0 60 f fd ["_law_way","_law_speech_here","_law_saying_here","_law_bad"] (Na K):=by
 refine F.ok scDu (λvs H Q E h=>?_) (λcdv A outer s H vs Q E hr h=>?_)
 ·obtain⟨wy,z,x,b,ws,sy,rfl,_⟩:=h;rfl
 obtain⟨wy,z,x,b,ws,sy,rfl,hx,h58,hb,q⟩:=h;refine⟨_,ah (cj (bi (A3 hr.units) (pv 3) (av af) (bn _)) (ai (au (pv 3))) bo) (ah (cj (PW.pt (qb (bi df (pv 0) ag (bn _)) (pr (jh (ao GH hr rfl mH kH bH .nil az (ac (pv 2) af)))))) (ai (au (av (bj be (ac (pv 2) af))))) bo) (ah (cj (PW.pt (qb (bi df (pv 0) ag (bn _)) (pr (u9 (jh (ao GT hr rfl mT kT bT .nil az (ac (pv 2) af))))))) (ai (au (av (bj be (ac (pv 2) af))))) bo) (ai (au (av af))))),?_⟩;dsimp only[bf,Cx.nox];cases du:sy.due ws with
 |some ff=>
  rw[du]at hb;obtain⟨x1,y1,g⟩:=DAt.two hb;refine⟨_,rfl,sz0,λl hl=>⟨b,l,_,[],rfl,rfl,SqL.of (ad hl _ _ _ g),SqL.of ae,.inl ⟨by simp,_,rfl,gw ⟨_,rfl,q b _ (ad hl _) ?_⟩⟩⟩⟩;rw[ox du];exact hb.mono (ad hl _)
 |none=>
  rw[du]at hb;have g:H b=some (.lst []):=hb;refine⟨_,rfl,sz0,λl hl=>⟨b,l,[],[],rfl,rfl,SqL.of (ad hl _ _ _ g),SqL.of ae,.inr ⟨[],.nil,.nil,by decide,_,rfl,cr ?_⟩⟩⟩;have s1:=ad hl (.lst []);generalize upd H l (.lst [])=G1 at s1 ⊢;have eW:=i7 du wy;dsimp only[tz];refine ifQ (λG=>Same H G/\¬(wy=1/\sy.nts≠0)) (λG=>Same H G/\wy=1/\sy.nts≠0) (λk kf kt=>?_) (λG2 z=>?_) (λG2 z=>?_)
  ·refine⟨_,rfl,rfl,_,rfl,?_⟩;refine c9 (λc=>?_) (λc=>?_)
   ·have c1:wy=1:=(by have:=of_decide_eq_true c;injection this);refine⟨_,rfl,x,sy,rfl,hx.mono s1,h58,λG3 s3=>⟨_,rfl,?_⟩⟩;have s13:=Same.trans s1 s3;cases e:decide (sy.nts≠0)with
    |true=>exact kt G3 ⟨s13,c1,of_decide_eq_true e⟩
    |false=>exact kf G3 ⟨s13,λz=>of_decide_eq_false e z.2⟩
   ·exact kf G1 ⟨s1,λz=>c (decide_eq_true (by rw[z.1]))⟩
  ·obtain⟨s2,w1,nz⟩:=z;refine⟨_,rfl,sz2,λr hr'=>q r _ (Same.trans s2 (ad hr' _)) ?_⟩;rw[eW,if_pos ⟨w1,nz⟩];exact⟨x,ae,hx.mono (Same.trans s2 (ad hr' _))⟩
  obtain⟨s2,n1⟩:=z;rw[if_neg n1]at eW;dsimp only[tz];refine ifQ (λG=>Same H G/\¬(wy=2/\sy.isT=false)) (λG=>Same H G/\wy=2/\sy.isT=false) (λk kf kt=>?_) (λG3 z=>?_) (λG3 z=>?_)
  ·refine⟨_,rfl,rfl,_,rfl,?_⟩;refine c9 (λc=>?_) (λc=>?_)
   ·have c1:wy=2:=(by have:=of_decide_eq_true c;injection this);refine⟨_,rfl,x,sy,rfl,hx.mono s2,h58,λG3 s3=>⟨_,rfl,?_⟩⟩;have s13:=Same.trans s2 s3;cases e:sy.isT with
    |true=>exact kf G3 ⟨s13,λz=>by rw[e]at z;cases z.2⟩
    |false=>exact kt G3 ⟨s13,c1,e⟩
   ·exact kf G2 ⟨s2,λz=>c (decide_eq_true (by rw[z.1]))⟩
  ·obtain⟨s3,w1,nz⟩:=z;refine⟨_,rfl,sz2,λr hr'=>q r _ (Same.trans s3 (ad hr' _)) ?_⟩;rw[eW,if_pos ⟨w1,nz⟩];exact⟨x,ae,hx.mono (Same.trans s3 (ad hr' _))⟩
  obtain⟨s3,n2⟩:=z;rw[if_neg n2]at eW;refine⟨sz0,λr hr'=>q r _ (Same.trans s3 (ad hr' _)) ?_⟩;rw[eW];exact ae
end
section
variable {K:aA}{cS cF cV cT cP cG:Addr}
def RAt (K:aA)(cF cV cT cP:Addr)(H:Hp)(C:Addr)(dx:Option Addr):NF->Prop
 | .flt (.field z)=>C=cF/\∃d,dx=some d/\H d=some (.xd [("field",.str z)])
 | .flt (.value v)=>C=cV/\∃d,dx=some d/\H d=some (.xd [("value",.int v)])
 | .flt (.test t)=>C=cT/\∃d y,dx=some d/\H d=some (.xd [("saying",y)])/\Hold K H y t.da
 | .plain t=>C=cP/\∃d y,dx=some d/\H d=some (.xd [("saying",y)])/\Hold K H y t.da
def CAt (K:aA)(cF cV cT cP:Addr)(H:Hp)(e:Addr):NF->Prop
 | .flt (.field z)=>XAs H e cF [("field",.str z)]
 | .flt (.value v)=>XAs H e cV [("value",.int v)]
 | .flt (.test t)=>∃y,XAs H e cT [("saying",y)]/\Hold K H y t.da
 | .plain t=>∃y,XAs H e cP [("saying",y)]/\Hold K H y t.da
theorem FOut.mk {H:Hp}{E:XK}{f:Flt}(h:∀C dx H',Same H H'->RAt K cF cV cT cP H' C dx (.flt f)->E (.ref C) dx H'):FOut K H E cF cV cT f:=by
 cases f with
 |field z=>exact λdx H' s e=>h cF (some dx) H' s ⟨rfl,dx,rfl,e⟩
 |value v=>exact λdx H' s e=>h cV (some dx) H' s ⟨rfl,dx,rfl,e⟩
 |test t=>exact λdx y H' s e k=>h cT (some dx) H' s ⟨rfl,dx,y,rfl,e,k⟩
theorem RAt.caught {H:Hp}{C e:Addr}{dx:Option Addr}{f:NF}(r:RAt K cF cV cT cP H C dx f)(he:H e=none):CAt K cF cV cT cP (upd H e (rh e C dx)) e f:=by
 have xa:∀{d:Addr}{fs:List (Str×V)},H d=some (.xd fs)->XAs (upd H e (rh e C (some d))) e C fs:=λ{d fs} q=>⟨d,.inr ae,by rw[al (am q he)];exact q⟩;have sm:∀o,Same H (upd H e o):=λo b u q=>(by rw[al (am q he)];exact q);cases f with
 |flt f=>
  cases f with
  |field z=>obtain⟨rfl,d,rfl,q⟩:=r;exact xa q
  |value v=>obtain⟨rfl,d,rfl,q⟩:=r;exact xa q
  |test t=>obtain⟨rfl,d,y,rfl,q,k⟩:=r;exact⟨y,xa q,Hold.mono (sm _) k⟩
 |plain t=>obtain⟨rfl,d,y,rfl,q,k⟩:=r;exact⟨y,xa q,Hold.mono (sm _) k⟩
structure Exm (K:aA)(cS cF cV cT cP cG:Addr):Prop where
 F:jB K (.ref cF) (.ref cS)=some true
 V:jB K (.ref cV) (.ref cS)=some true
 T:jB K (.ref cT) (.ref cS)=some true
 P:jB K (.ref cP) (.ref cS)=some true
 G:jB K (.ref cG) (.ref cS)=some true
theorem RAt.exm {H:Hp}{C:Addr}{dx:Option Addr}{f:NF}(r:RAt K cF cV cT cP H C dx f)(x:Exm K cS cF cV cT cP cG):jB K (.ref C) (.ref cS)=some true:=by
 cases f with
 |flt f=>
  cases f with
  |field z=>obtain⟨rfl,_⟩:=r;exact x.F
  |value v=>obtain⟨rfl,_⟩:=r;exact x.V
  |test t=>obtain⟨rfl,_⟩:=r;exact x.T
 |plain t=>obtain⟨rfl,_⟩:=r;exact x.P
end
def Came (K:aA)(cF cV cT cP cG:Addr)(H:Hp)(wy:Int)(v:V):Option NF->Prop
 |none=>v=.non\/(wy=0/\∃e,v=.ref e/\IsX H e cG)
 |some f=>∃e,v=.ref e/\CAt K cF cV cT cP H e f
def Cb (K:aA)(cF cV cT cP cG:Addr):Sp:=λvs H Q _=>∃(wy:Int)(sp lt:Addr) (x:V) (ws:List (Str×Nat)) (s:Say) (l:List Int),vs=[.int wy,.ref sp,x,.ref lt]/\0<=wy/\wy < 3/\Ask K H sp lt x ws s l/\
 ∀(v:V)(H':Hp),Same H H'->Came K cF cV cT cP cG H' wy v (x9 ws s wy)->Q v H'
abbrev nCa:List Str:=["_law_way","_law_speech_here","_law_saying_here","_law_letter","_law_caught_here","_law_e"]
section
variable {P:aS}{w:bZ}{K:aA}{mg:Str->Option aB}{base:Heap}{cS cF cV cT cP cG:Addr}
theorem P2:ar nCa ["_law_way","_law_speech_here","_law_saying_here","_law_letter"] (aj Aw):=fsN
theorem J5 {f fA fD fS:Addr}{fd dA dD dS:cC}(F:Fun K "_law_caught" "_law_caught" Aw f fd)(ex:Exm K cS cF cV cT cP cG)(mS:mg "SwitchError"=some (.ref cS))
  (GA:FnOk P w K mg base (CXx P w) 10 fA dA ["speech","saying","letter","count"] (E5 K cF cV cT cG)) (bA:Binds K dA ["speech","saying","letter","count"] []) (kA:aU K (.ref fA)=true) (mA:mg "trails"=some (.ref fA))
  (GD:FnOk P w K mg base (CXx P w) 10 fD dD ["speech","saying","letter"] (My K cF cV cT cP)) (bD:Binds K dD ["speech","saying","letter"] []) (kD:aU K (.ref fD)=true) (mD:mg "done"=some (.ref fD))
  (GS:FnOk P w K mg base (CXx P w) 10 fS dS ["speech","test","letter"] (Mz K cF cV cT)) (bS:Binds K dS ["speech","test","letter"] []) (kS:aU K (.ref fS)=true) (mY:mg "is_so"=some (.ref fS)) :
  FnOk P w K mg base CX0 11 f fd ["_law_way","_law_speech_here","_law_saying_here","_law_letter"] (Cb K cF cV cT cP cG):=by
 refine F.ok P2 (λvs H Q E h=>?_) (λcdv A outer s H vs Q E hr h=>?_)
 ·obtain⟨wy,sp,lt,x,ws,sy,l,rfl,_⟩:=h;rfl
 obtain⟨wy,sp,lt,x,ws,sy,l,rfl,wy0,wy3,ak,q⟩:=h;refine⟨_,ah (ax (i:=4) P2.nd rfl (bV rfl) Ct)
   (ah (Tw (i:=5) (j:=4) (λpins EX=>
     ah (cj (bi df (pv 0) ag (bn _)) (ai (x8 GA hr rfl mA kA bA (ac (pv 1) (ac (pv 2) (ac (pv 3) (ac ag af)))))) bo)
     (ah (cj (bi df (pv 0) ag (bn _)) (ai (x8 GD hr rfl mD kD bD (ac (pv 1) (ac (pv 2) (ac (pv 3) af))))) bo)
     (ai (cj (bi df (pv 0) ag (bn _)) (ai (x8 GS hr rfl mY kS bS (ac (pv 1) (ac (pv 2) (ac (pv 3) af))))) bo)))) rfl mS rfl rfl P2.nd rfl rfl rfl rfl)
   (ai (au (pv 4)))),?_⟩
 dsimp only[bf,Cx.nox];have e1:∀i j:Int,i=j->decide (V.int i=V.int j)=true:=λi j e=>(by rw[e];exact decide_eq_true rfl);have e2:∀i j:Int,i≠j->decide (V.int i=V.int j)=false:=λi j e=>decide_eq_false λz=>e (by injection z);have sm:∀{G:Hp}{e:Addr}(o:HO),G e=none->Same G (upd G e o):=λ{G e} o he b u z=>(by rw[al (am z he)];exact z);have three:wy=0\/wy=1\/wy=2:=(by lia);rcases three with e | e | e
 ·subst e;refine⟨_,rfl,rfl,_,rfl,?_⟩;rw[e1 0 0 rfl];refine gw ⟨_,rfl,_,rfl,_,rfl,sp,lt,x,ws,sy,l,1,rfl,ak,by decide,λff z=>?_,λz tr _ p xs G1 s1 _ _=>?_,λz _ dx G1 s1 gx=>?_⟩
  ·exact FOut.mk (cP:=cP) λC dx H' s' ra=>⟨C,rfl,ra.exm ex,λe he=>⟨_,rfl,q _ _ (Same.trans s' (sm _ he)) (by rw[ox z];exact⟨e,rfl,ra.caught he⟩)⟩⟩
  ·refine⟨_,rfl,rfl,_,rfl,?_⟩;rw[e2 0 1 (by decide)];refine cr ⟨_,rfl,rfl,_,rfl,?_⟩;rw[e2 0 2 (by decide)];refine cr ⟨_,rfl,q _ _ s1 ?_⟩;rw[i7 z,if_neg (λy=>absurd y.1 (by decide)),if_neg (λy=>absurd y.1 (by decide))];exact .inl rfl
  ·refine⟨cG,rfl,ex.G,λe he=>⟨_,rfl,q _ _ (Same.trans s1 (sm _ he)) ?_⟩⟩;rw[i7 z,if_neg (λy=>absurd y.1 (by decide)),if_neg (λy=>absurd y.1 (by decide))];exact .inr ⟨rfl,e,rfl,.inr ⟨_,ae⟩⟩
 ·subst e;refine⟨_,rfl,rfl,_,rfl,?_⟩;rw[e2 1 0 (by decide)];refine cr ⟨_,rfl,rfl,_,rfl,?_⟩;rw[e1 1 1 rfl];refine gw ⟨_,rfl,_,rfl,_,rfl,sp,lt,x,ws,sy,l,rfl,ak,λff z=>?_,λz nz dx y G1 s1 gx hy=>?_,λz nz p mk G1 s1 _ _=>?_⟩
  ·exact FOut.mk (cP:=cP) λC dx H' s' ra=>⟨C,rfl,ra.exm ex,λe he=>⟨_,rfl,q _ _ (Same.trans s' (sm _ he)) (by rw[ox z];exact⟨e,rfl,ra.caught he⟩)⟩⟩
  ·have ra:RAt K cF cV cT cP G1 cP (some dx) (.plain sy):=⟨rfl,dx,y,rfl,gx,hy⟩;refine⟨cP,rfl,ex.P,λe he=>⟨_,rfl,q _ _ (Same.trans s1 (sm _ he)) ?_⟩⟩;rw[i7 z,if_pos ⟨rfl,nz⟩];exact⟨e,rfl,ra.caught he⟩
  ·refine⟨_,rfl,rfl,_,rfl,?_⟩;rw[e2 1 2 (by decide)];refine cr ⟨_,rfl,q _ _ s1 ?_⟩;rw[i7 z,if_neg (λy=>y.2 nz),if_neg (λy=>absurd y.1 (by decide))];exact .inl rfl
 ·subst e;refine⟨_,rfl,rfl,_,rfl,?_⟩;rw[e2 2 0 (by decide)];refine cr ⟨_,rfl,rfl,_,rfl,?_⟩;rw[e2 2 1 (by decide)];refine cr ⟨_,rfl,rfl,_,rfl,?_⟩;rw[e1 2 2 rfl];refine gw ⟨_,rfl,_,rfl,_,rfl,sp,lt,x,ws,sy,l,rfl,ak,λff z=>?_,λz nt=>?_,λz nt mk G1 s1 _=>?_⟩
  ·exact FOut.mk (cP:=cP) λC dx H' s' ra=>⟨C,rfl,ra.exm ex,λe he=>⟨_,rfl,q _ _ (Same.trans s' (sm _ he)) (by rw[ox z];exact⟨e,rfl,ra.caught he⟩)⟩⟩
  ·exact FOut.mk (cP:=cP) λC dx H' s' ra=>⟨C,rfl,ra.exm ex,λe he=>⟨_,rfl,q _ _ (Same.trans s' (sm _ he)) (by rw[i7 z,if_neg (λy=>absurd y.1 (by decide)),if_pos ⟨rfl,nt⟩];exact⟨e,rfl,ra.caught he⟩)⟩⟩
  ·refine⟨_,rfl,q _ _ s1 ?_⟩;rw[i7 z,if_neg (λy=>absurd y.1 (by decide)),if_neg (λy=>by rw[nt]at y;cases y.2)];exact .inl rfl
end
end S25
namespace S25
open PySem L2 Fly PyProof.Rows
theorem Nb (s:Say):s.da.dep<=s.size:=by
 induction s with
 |no s ih=>simp only[Say.da,Da.dep,oz,Say.size];lia
 |again s ih=>simp only[Say.da,Da.dep,oz,Say.size];lia
 |either a b ia ib=>simp only[Say.da,Da.dep,oz,Say.size];lia
 |both a b ia ib=>simp only[Say.da,Da.dep,oz,Say.size];lia
 |_=>simp only[Say.da,Da.dep,oz,Say.size];lia
theorem J7 {α:Type}(x y:α)(xs:List α):atI (x::y::xs) (1:Int)=some y:=bh (j:=1) rfl
structure Kd (K:aA)(cF cV cT cP cG cN C:Addr)(b1 b2 b3 b4:Bool):Prop where
 x:ik K C
 k:aW K (.ref C) "__class__"=some (some (.builtin "object.__class__"))
 v:eA K (.ref C) (.type "ValueError")=some true
 t:oX K (.ref C) [.ref cN,.ref cG]=some false
 f1:eA K (.ref C) (.ref cF)=some b1
 f2:eA K (.ref C) (.ref cV)=some b2
 f3:eA K (.ref C) (.ref cT)=some b3
 f4:eA K (.ref C) (.ref cP)=some b4
structure XG (K:aA)(mg:Str->Option aB)(cF cV cT cP cG cN:Addr):Prop where
 mF:mg "NoField"=some (.ref cF)
 mV:mg "NoValue"=some (.ref cV)
 mT:mg "NoTest"=some (.ref cT)
 mP:mg "NoPlain"=some (.ref cP)
 mG:mg "TooGreat"=some (.ref cG)
 mN:mg "NoNet"=some (.ref cN)
 F:Kd K cF cV cT cP cG cN cF true false false false
 V:Kd K cF cV cT cP cG cN cV false true false false
 T:Kd K cF cV cT cP cG cN cT false false true false
 P:Kd K cF cV cT cP cG cN cP false false false true
 gx:ik K cG
 gk:aW K (.ref cG) "__class__"=some (some (.builtin "object.__class__"))
 gg:eA K (.ref cG) (.ref cG)=some true
 aF:NoAttr K cF "field"
 aV:NoAttr K cV "value"
 aT:NoAttr K cT "saying"
 aP:NoAttr K cP "saying"
def NF.sz:NF->Nat
 | .flt (.test t)=>t.size
 | .plain t=>t.size
 |_=>0
def Ac (K:aA)(cF cV cT cP cG:Addr):Sp:=λvs H Q _=>∃(wy:Int)(v:V) (r:Addr) (o:Option NF),vs=[.int wy,v,.ref r]/\DAt K H r o/\Came K cF cV cT cP cG H wy v o/\(∀f,o=some f->f.sz<=58)/\∀H',Same H H'->Q (.bl true) H'
abbrev nRe:List Str:=["_law_way","_law_e","_law_due_here","_law_found"]
abbrev na:List Str:=["field","value","test","plain"]
section
variable {P:aS}{w:bZ}{K:aA}{mg:Str->Option aB}{base:Heap}{cS cF cV cT cP cG cN:Addr}
theorem V5:ar ["_law_way","_law_e","_law_due_here","_law_found"] ["_law_way","_law_e","_law_due_here"] (aj nq):=fsN
def Q4:gG:={ kind:=.function,names:=[(".0",.local),("_law_word",.local),("_law_due_here",.free)],isGenerator:=false,isCoroutine:=false,more:=[] }
theorem cRf_ {CX:CXT}{f:Addr}{cdv:aB}{A:cW}{outer:List Env}{s:aI}{H:Hp}{E:XK} :
  cb (bf CX P w K mg base ["_law_way","_law_e","_law_due_here","_law_found"] "_law_refused" (aj nq) f cdv A outer s H E).nox ["_law_word"] ["_law_due_here"] [2] Q4 [("_law_due_here",s.heap.objs.size+1)]:=csN [(".0",.local),("_law_word",.local),("_law_due_here",.cell)]
theorem Fl {f:Addr}{fd:cC}(F:Fun K "_law_refused" "_law_refused" nq f fd)(B:XG K mg cF cV cT cP cG cN)(mi:mg "isinstance"=none)(me:mg "ValueError"=none) :
  FnOk P w K mg base CX0 2 f fd ["_law_way","_law_e","_law_due_here"] (Ac K cF cV cT cP cG):=by
 refine F.ok V5 (λvs H Q E h=>?_) (λcdv A outer s H vs Q E hr h=>?_)
 ·obtain⟨wy,v,r,o,rfl,_⟩:=h;rfl
 obtain⟨wy,v,r,o,rfl,nd,cm,z58',q⟩:=h;have lk1:∀(f:Str)(y:V),lH f [(f,y)]=some y:=λf y=>(by simp[lH]);have tail:∃tt,PSs (bf CX0 P w K mg base nRe "_law_refused" (aj nq) f cdv A outer s H E).nox ((dj nq).drop 4) tt/\∀(e:Addr)(ff:NF) (v2:Option V) (G:Hp),o=some ff->v=.ref e->CAt K cF cV cT cP H e ff->Same H G->
   tt { nx:=λ_ H'=>Q .non H',rt:=Q } [some (.int wy),some v,some (.ref r),v2] G:=by
  refine⟨_,ah (cj (bi df (aq aw (pv 2) ag (λ_ _=>rfl)) be (bn _)) (ai (au (fo df (Ap (pv 1) rfl) (aq aw (pv 2) ag (λ_ _=>rfl)) (bn _)))) bo) (ah (cj (bi df (aq aw (pv 2) ag (λ_ _=>rfl)) be (bn _)) (ai (au (fo df (Ap (pv 1) rfl) (aq aw (pv 2) ag (λ_ _=>rfl)) (bn _)))) bo) (ai (au (fo (Ur hr.units) (Ap (pv 1) rfl) (aq aw (pv 2) ag (λ_ _=>rfl)) (bn _))))),?_⟩;dsimp only[bf,Cx.nox];intro e ff v2 G eo ev ca sG;subst eo ev;have z58:=z58' ff rfl;have dn:∀x y:Str,x≠y->decide (V.str x=V.str y)=false:=λx y h=>decide_eq_false λz=>h (by injection z);cases ff with
  |flt ff=>
   cases ff with
   |field z=>
    have gr:G r=some (.lst [.str "field",.str z]):=sG _ _ nd;have xa:XAs G e cF [("field",.str z)]:=XAs.same ca sG;refine⟨_,rfl,r,_,_,_,rfl,rfl,SqL.of gr,d9 _ _,rfl,_,rfl,?_⟩;rw[decide_eq_true rfl];refine gw ⟨_,rfl,e,cF,_,_,rfl,B.F.x,B.aF,xa,lk1 _ _,_,rfl,r,_,_,_,rfl,rfl,SqL.of gr,J7 _ _ _,rfl,?_⟩;rw[decide_eq_true rfl];exact q G sG
   |value z=>
    have gr:G r=some (.lst [.str "value",.int z]):=sG _ _ nd;have xa:XAs G e cV [("value",.int z)]:=XAs.same ca sG;refine⟨_,rfl,r,_,_,_,rfl,rfl,SqL.of gr,d9 _ _,rfl,_,rfl,?_⟩;rw[dn "value" "field" (by decide +kernel)];refine cr ⟨_,rfl,r,_,_,_,rfl,rfl,SqL.of gr,d9 _ _,rfl,_,rfl,?_⟩;rw[decide_eq_true rfl];refine gw ⟨_,rfl,e,cV,_,_,rfl,B.V.x,B.aV,xa,lk1 _ _,_,rfl,r,_,_,_,rfl,rfl,SqL.of gr,J7 _ _ _,rfl,?_⟩;rw[decide_eq_true rfl];exact q G sG
   |test t=>
    obtain⟨y',gr0,hy'⟩:=(show ∃y,H r=some (.lst [.str "test",y])/\Hold K H y t.da from nd);obtain⟨y,xa0,hy⟩:=(show ∃y,XAs H e cT [("saying",y)]/\Hold K H y t.da from ca);have gr:=sG _ _ gr0;have t58:t.size<=58:=z58;obtain⟨a1,xs1,rfl,_,_⟩:=i5 hy;obtain⟨a2,xs2,rfl,_,_⟩:=i5 hy';refine⟨_,rfl,r,_,_,_,rfl,rfl,SqL.of gr,d9 _ _,rfl,_,rfl,?_⟩;rw[dn "test" "field" (by decide +kernel)];refine cr ⟨_,rfl,r,_,_,_,rfl,rfl,SqL.of gr,d9 _ _,rfl,_,rfl,?_⟩;rw[dn "test" "value" (by decide +kernel)];refine cr ⟨_,rfl,e,cT,_,_,rfl,B.T.x,B.aT,XAs.same xa0 sG,lk1 _ _,_,rfl,r,_,_,_,rfl,rfl,SqL.of gr,J7 _ _ _,a1,a2,t.da,rfl,rfl,Hold.mono sG hy,Hold.mono sG hy',bK (Nb t) (by lia),?_⟩;exact q G sG
  |plain t=>
   obtain⟨y',gr0,hy'⟩:=(show ∃y,H r=some (.lst [.str "plain",y])/\Hold K H y t.da from nd);obtain⟨y,xa0,hy⟩:=(show ∃y,XAs H e cP [("saying",y)]/\Hold K H y t.da from ca);have gr:=sG _ _ gr0;have t58:t.size<=58:=z58;obtain⟨a1,xs1,rfl,_,_⟩:=i5 hy;obtain⟨a2,xs2,rfl,_,_⟩:=i5 hy';refine⟨_,rfl,r,_,_,_,rfl,rfl,SqL.of gr,d9 _ _,rfl,_,rfl,?_⟩;rw[dn "plain" "field" (by decide +kernel)];refine cr ⟨_,rfl,r,_,_,_,rfl,rfl,SqL.of gr,d9 _ _,rfl,_,rfl,?_⟩;rw[dn "plain" "value" (by decide +kernel)];refine cr ⟨_,rfl,e,cP,_,_,rfl,B.P.x,B.aP,XAs.same xa0 sG,lk1 _ _,_,rfl,r,_,_,_,rfl,rfl,SqL.of gr,J7 _ _ _,a1,a2,t.da,rfl,rfl,Hold.mono sG hy,Hold.mono sG hy',bK (Nb t) (by lia),?_⟩;exact q G sG
 obtain⟨tt,ht,hq⟩:=tail;refine⟨_,ah (cj (PW.pt (Hc (bi Kj (pv 1) Ct (bn _)) (Cu (bi (Fy hr.units) (pv 2) (av af) (bn _))))) (ai (au (Cv (fo (Fy hr.units) (pv 2) (av af) (bn _)) (ya (V9 (fo Kj (pv 1) Ct (bn _)) (ya (Cv (fo df (pv 0) ag (bn _)) (ya (bp nk rfl mi (by kernel_rfl) (ac (pv 1) (ac (ie (v:=.ref cG) rfl B.mG rfl) af))))))))))) bo) (ah (cj (PW.pt (Hc (u9 (jh (bp nk rfl mi (by kernel_rfl) (ac (pv 1) (ac (Q7 (v:=.ty "ValueError") rfl me (by kernel_rfl) rfl) af))))) (Cu (jh (bp K5 rfl mi (by kernel_rfl) (ac (pv 1) (ac (bq (ac (ie (v:=.ref cN) rfl B.mN rfl) (ac (ie (v:=.ref cG) rfl B.mG rfl) af))) af))))))) (ai (au j6)) bo) (ah (ax (i:=3) V5.nd rfl (bV rfl) (av (ac (bp nk rfl mi (by kernel_rfl) (ac (pv 1) (ac (ie (v:=.ref cF) rfl B.mF rfl) af))) (ac (bp nk rfl mi (by kernel_rfl) (ac (pv 1) (ac (ie (v:=.ref cV) rfl B.mV rfl) af))) (ac (bp nk rfl mi (by kernel_rfl) (ac (pv 1) (ac (ie (v:=.ref cT) rfl B.mT rfl) af))) (ac (bp nk rfl mi (by kernel_rfl) (ac (pv 1) (ac (ie (v:=.ref cP) rfl B.mP rfl) af))) af)))))) (ah (cj (bi (A3 hr.units) (pv 3) (cy (ns:=["_law_word"]) (ys:=["_law_due_here"]) (sc:=Q4) cRf_ rfl (ck (av (bj be (bj be (bj be (bj be af)))))) (λC s H fp=>ay (i:=0) (by show(["_law_word","_law_due_here"]:List Str).Nodup;decide +kernel) rfl (bV rfl)) (λC s H fp=>cw) (λC s H fp=>fo df (aq (r:=xm K) aw (pv 1) ag (λ_ _=>rfl)) (pv 0) (bn _))) (bn _)) (ai (au j6)) bo) ht))),?_⟩;dsimp only[bf,Cx.nox];have eqN:∀{G:Hp}{l:Addr}{k:VK},H r=some (.lst [])->G l=none->Same H G->k (.bl true) (upd G l (.lst []))->rLL K true (.ref r) (.ref l) (upd G l (.lst [])) k:=λ{G l k} g hl sG hk=>
  ⟨r,l,[],[],rfl,rfl,SqL.of (ad hl _ _ _ (sG _ _ g)),SqL.of ae,.inr ⟨[],.nil,.nil,by decide,hk⟩⟩
 cases o with
 |none=>
  have g:H r=some (.lst []):=nd;rcases cm with ev | ⟨w0,e,ev,ix⟩
  ·subst ev;refine⟨_,rfl,rfl,true,rfl,gw ?_⟩;refine⟨_,rfl,sz0,λl hl=>eqN g hl (Same.refl _) ⟨true,rfl,gw ⟨_,rfl,rfl,true,rfl,gw (q _ (ad hl _))⟩⟩⟩
  ·subst ev w0;refine⟨_,rfl,rfl,false,rfl,cr ?_⟩;refine⟨_,rfl,sz0,λl hl=>eqN g hl (Same.refl _) ⟨true,rfl,gw ?_⟩⟩;have s1:=ad hl (.lst []);refine⟨_,rfl,sz0,λl2 hl2=>eqN g hl2 s1 ⟨true,rfl,gw ⟨_,rfl,rfl,false,rfl,cr ⟨_,rfl,rfl,true,rfl,gw ?_⟩⟩⟩⟩;have s2:=Same.trans s1 (ad hl2 (.lst []));exact⟨_,rfl,e,cG,_,_,true,rfl,ix.same s2,B.gx,B.gk,rfl,B.gg,q _ s2⟩
 |some ff=>
 obtain⟨e,ev,ca⟩:=cm;obtain⟨C,tag,y',b1,b2,b3,b4,kd,ix,gr,et⟩:∃(C:Addr)(tag:Str) (y':V) (b1 b2 b3 b4:Bool),Kd K cF cV cT cP cG cN C b1 b2 b3 b4/\IsX H e C/\H r=some (.lst [.str tag,y'])/\na.map (λx=>decide (V.str tag=V.str x))=[b1,b2,b3,b4]:=by
  cases ff with
  |flt ff=>
   cases ff with
   |field z=>exact⟨cF,"field",_,_,_,_,_,B.F,XAs.isX ca,nd,by decide +kernel⟩
   |value z=>exact⟨cV,"value",_,_,_,_,_,B.V,XAs.isX ca,nd,by decide +kernel⟩
   |test t=>
    obtain⟨y',gr0,hy'⟩:=(show ∃y,H r=some (.lst [.str "test",y])/\Hold K H y t.da from nd);obtain⟨y,xa0,hy⟩:=(show ∃y,XAs H e cT [("saying",y)]/\Hold K H y t.da from ca);exact⟨cT,"test",_,_,_,_,_,B.T,XAs.isX xa0,gr0,by decide +kernel⟩
  |plain t=>
   obtain⟨y',gr0,hy'⟩:=(show ∃y,H r=some (.lst [.str "plain",y])/\Hold K H y t.da from nd);obtain⟨y,xa0,hy⟩:=(show ∃y,XAs H e cP [("saying",y)]/\Hold K H y t.da from ca);exact⟨cP,"plain",_,_,_,_,_,B.P,XAs.isX xa0,gr0,by decide +kernel⟩
 subst ev;refine⟨_,rfl,rfl,false,rfl,cr ?_⟩;refine⟨_,rfl,sz0,λl0 hl0=>⟨r,l0,_,[],rfl,rfl,SqL.of (ad hl0 _ _ _ gr),SqL.of ae,.inl ⟨(by show ¬(2=0);decide),false,rfl,cr ?_⟩⟩⟩;have s0:=ad hl0 (.lst []);generalize upd H l0 (.lst [])=G0 at s0 ⊢;have ix0:=ix.same s0;refine⟨_,rfl,e,C,_,_,true,rfl,ix0,kd.x,kd.k,rfl,kd.v,true,rfl,cr ?_⟩;refine⟨_,rfl,sz2,λp hp=>⟨e,C,p,_,_,false,rfl,ix0.same (ad hp _),kd.x,kd.k,ae,.cons rfl (.cons rfl .nil),kd.t,false,rfl,cr ?_⟩⟩;have sp:=Same.trans s0 (ad hp (.tup [.ref cN,.ref cG]));generalize upd G0 p (.tup [.ref cN,.ref cG])=G9 at sp ⊢;have ix9:=ix.same sp;refine⟨_,rfl,e,C,_,_,b1,rfl,ix9,kd.x,kd.k,rfl,kd.f1,_,rfl,e,C,_,_,b2,rfl,ix9,kd.x,kd.k,rfl,kd.f2,_,rfl,e,C,_,_,b3,rfl,ix9,kd.x,kd.k,rfl,kd.f3,_,rfl,e,C,_,_,b4,rfl,ix9,kd.x,kd.k,rfl,kd.f4,sz4,λl hl=>?_⟩;have s1:=ad hl (.lst [.bl b1,.bl b2,.bl b3,.bl b4]);have gl:upd G9 l (.lst [.bl b1,.bl b2,.bl b3,.bl b4]) l=some (.lst [.bl b1,.bl b2,.bl b3,.bl b4]):=ae;generalize upd G9 l (.lst [.bl b1,.bl b2,.bl b3,.bl b4])=G1 at s1 gl ⊢;refine⟨_,rfl,sz4,λl4 hl4=>?_⟩;have s4:=ad hl4 (.lst (na.map V.str));refine⟨l4,rfl,⟨_,SqL.of ae⟩,λD hD=>?_⟩;obtain⟨G4,eG4⟩:∃G4,upd G1 l4 (.lst (na.map V.str))=G4:=⟨_,rfl⟩;have s14:Same H G4:=(by rw[<-eG4];exact Same.trans sp (Same.trans s1 s4));have g34:G4 l=some (.lst [.bl b1,.bl b2,.bl b3,.bl b4]):=(by rw[<-eG4];exact s4 _ _ gl);have g44:G4 l4=some (.lst (na.map V.str)):=(by rw[<-eG4,ae]);have hD4:G4 D=none:=(by rw[<-eG4];exact hD);show uc _ _ _ _ _ _ _ _ (upd G1 l4 (.lst (na.map V.str))) D;rw[eG4];refine dm (K:=K) (a:=l4) (xs:=na.map V.str) (λi ys G=>Same G4 G/\G D=some (.lst ys)/\ys=((na.take i).map λx=>decide (V.str tag=V.str x)).map V.bl) ⟨ad hD4 _,ae,rfl⟩ (λi ys G z=>z.2.1) (λi ys G _ z=>SqL.of (z.1 _ _ g44)) ?_ ?_
 ·intro i x' ys G hx' h_1;obtain⟨sG,d2,rfl⟩:=h_1;have hi:i < 4:=(aK.mp hx').1;rw[eK]at hx';obtain⟨wd,ew,rfl⟩:=gJ.mp hx';refine⟨bg (by rw[aG,aG,cQ];lia),⟨[some _],rfl,rfl⟩,?_⟩;refine⟨_,rfl,r,_,_,_,rfl,rfl,SqL.of (sG _ _ (s14 _ _ gr)),d9 _ _,_,rfl,rfl,d2,Same.put sG hD4 _,ae,?_⟩;rw[dJ,ew];simp
 ·intro ys G h_1;obtain⟨sG,d2,rfl⟩:=h_1;have et':((na.take (na.map V.str).length).map λx=>decide (V.str tag=V.str x))=[b1,b2,b3,b4]:=et;rw[et']at d2;have hb:Holds K G [.bl b1,.bl b2,.bl b3,.bl b4] [.flat (.bl b1),.flat (.bl b2),.flat (.bl b3),.flat (.bl b4)]:=.cons (.flat rfl) (.cons (.flat rfl) (.cons (.flat rfl) (.cons (.flat rfl) .nil)));refine⟨l,D,_,_,rfl,rfl,SqL.of (sG _ _ g34),SqL.of d2,.inr ⟨_,hb,hb,by simp[oz,Da.dep],_,rfl,cr ?_⟩⟩;exact hq e ff _ G rfl rfl ca (Same.trans s14 sG)
end
end S25
namespace S25
open PySem L2 Fly PyProof.Rows S1
theorem ki {ws:List (Str×Nat)}:∀{s t:Say},s.due ws=some (.test t)->t.size<=s.size
 | .no s,t,h=>by
  rw[Say.due]at h;by_cases c:s.isT=true
  ·rw[if_pos c]at h;have:=ki h;show t.size<=s.size+1;lia
  ·rw[if_neg c]at h;cases h;exact vM _
 | .again s,t,h=>by rw[Say.due]at h;have:=ki h;show t.size<=s.size+1;lia
 | .either a b,t,h=>by
  rw[Say.due]at h;show t.size<=a.size+b.size+1;cases q:a.due ws with
  |none=>rw[q]at h;have:=ki (s:=b) h;lia
  |some f=>rw[q]at h;have z:some f=some (.test t):=h;rw[z]at q;have:=ki q;lia
 | .both a b,t,h=>by
  rw[Say.due]at h;show t.size<=a.size+b.size+1;cases q:a.due ws with
  |none=>rw[q]at h;have:=ki (s:=b) h;lia
  |some f=>rw[q]at h;have z:some f=some (.test t):=h;rw[z]at q;have:=ki q;lia
 | .is f v,t,h=>by
  have h':dt ws f.1 v.1=some (.test t):=h;unfold dt at h'
  split at h'
  ·cases h'
  ·split at h'<;>cases h'
 | .put f v,t,h=>by
  have h':dt ws f.1 v.1=some (.test t):=h;unfold dt at h'
  split at h'
  ·cases h'
  ·split at h'<;>cases h'
 | .nought,t,h=>by cases h
 | .every,t,h=>by cases h
 | .note,t,h=>by cases h
theorem T0 {ws:List (Str×Nat)}{s:Say}{wy:Int}{f:NF}(h:x9 ws s wy=some f):f.sz<=s.size:=by
 cases du:s.due ws with
 |some g=>
  rw[ox du]at h;cases h;cases g with
  |field _=>exact jZ _
  |value _=>exact jZ _
  |test t=>exact ki du
 |none=>
  rw[i7 du]at h
  split at h
  ·cases h;exact aO _
  ·split at h
   ·cases h;exact aO _
   ·cases h
theorem Came.mono {K:aA}{cF cV cT cP cG:Addr}{H G:Hp}{wy:Int}{v:V}{o:Option NF}(h:Came K cF cV cT cP cG H wy v o)(s:Same H G):Came K cF cV cT cP cG G wy v o:=by
 cases o with
 |none=>
  rcases h with h | ⟨h,e,h1,h2⟩
  ·exact .inl h
  ·exact .inr ⟨h,e,h1,h2.same s⟩
 |some f=>
  obtain⟨e,h1,h2⟩:=h;refine⟨e,h1,?_⟩;cases f with
  |flt f=>
   cases f with
   |field z=>exact XAs.same h2 s
   |value z=>exact XAs.same h2 s
   |test t=>obtain⟨y,k1,k2⟩:=h2;exact⟨y,XAs.same k1 s,k2.mono s⟩
  |plain t=>obtain⟨y,k1,k2⟩:=h2;exact⟨y,XAs.same k1 s,k2.mono s⟩
def Ent (K:aA)(G:Hp)(u:Addr)(ws:List (Str×Nat))(x:V):Prop:=∃(c b:Addr)(y:V) (s:Say),x=.ref c/\c≠u/\b≠u/\G c=some (.lst [y,.ref b])/\Hold K G y s.da/\s.size<=58/\s.nts<=5/\DAt K G b ((s.due ws).map NF.flt)
theorem DAt.keep {K:aA}{H G:Hp}{u r:Addr}{o:Option NF}{zs:List V}(h:DAt K H r o)(g:H u=some (.lst zs))(ru:r≠u)(k:∀b o,b≠u->H b=some o->G b=some o):DAt K G r o:=by
 cases o with
 |none=>exact k _ _ ru h
 |some f=>
  cases f with
  |flt f=>
   cases f with
   |field z=>exact k _ _ ru h
   |value z=>exact k _ _ ru h
   |test t=>obtain⟨y,h1,h2⟩:=h;exact⟨y,k _ _ ru h1,h2.stay (Tups.but g k) (sr t)⟩
  |plain t=>obtain⟨y,h1,h2⟩:=h;exact⟨y,k _ _ ru h1,h2.stay (Tups.but g k) (sr t)⟩
theorem Ent.keep {K:aA}{G G':Hp}{u:Addr}{ws:List (Str×Nat)}{x:V}{zs:List V}(h:Ent K G u ws x)(g:G u=some (.lst zs))(k:∀b o,b≠u->G b=some o->G' b=some o):Ent K G' u ws x:=by
 obtain⟨c,b,y,s,rfl,cu,bu,gc,hy,s58,n5,d⟩:=h;exact⟨c,b,y,s,rfl,cu,bu,k _ _ cu gc,hy.stay (Tups.but g k) (sr s),s58,n5,d.keep g bu k⟩
def Row (K:aA)(ws:List (Str×Nat))(u:Addr)(H0:Hp)(n:Nat)(G:Hp)(zs:List V):Prop:=Same H0 G/\G u=some (.lst zs)/\zs.length=n/\∀x∈zs,Ent K G u ws x
theorem Row.add {K:aA}{ws:List (Str×Nat)}{u c b:Addr}{H0 G G1:Hp}{n:Nat}{zs:List V}{y:V}{s:Say}(R:Row K ws u H0 n G zs)(hu:H0 u=none)(s1:Same G G1)(gc:G1 c=some (.lst [y,.ref b]))(cu:c≠u)(bu:b≠u)(hy:Hold K G1 y s.da)(s58:s.size<=58)(n5:s.nts<=5)(hd:DAt K G1 b ((s.due ws).map NF.flt)) :
  Row K ws u H0 (n+1) (upd G1 u (.lst (zs++[.ref c]))) (zs++[.ref c]):=by
 obtain⟨sH,gu,ln,en⟩:=R;have gu1:=s1 _ _ gu;have kp:∀b o,b≠u->G1 b=some o->upd G1 u (.lst (zs++[.ref c])) b=some o:=λb o h e=>(by rw[al h];exact e);refine⟨Same.put (Same.trans sH s1) hu _,ae,by rw[aN,ln];rfl,λx hx=>?_⟩;rcases eI.mp hx with z | z
 ·exact(en x z).keep gu λb o h e=>kp b o h (s1 b o e)
 ·rw[cE.mp z];exact Ent.keep ⟨c,b,y,s,rfl,cu,bu,gc,hy,s58,n5,hd⟩ gu1 kp
theorem Ent.new {K:aA}{G:Hp}{u c b:Addr}{ws:List (Str×Nat)}{y:V}{s:Say}{ob:HO}(hu:G u=none)(gc:G c=some (.lst [y,.ref b]))(gb:G b=some ob)(hy:Hold K G y s.da)(s58:s.size<=58)(n5:s.nts<=5)(hd:DAt K G b ((s.due ws).map NF.flt))(o:HO):Ent K (upd G u o) u ws (.ref c):=
 ⟨c,b,y,s,rfl,am gc hu,am gb hu,ad hu _ _ _ gc,hy.mono (ad hu _),s58,n5,hd.mono (ad hu _)⟩
theorem fv {K:aA}{H:Hp}{p:Addr}{xs:List V}{ds:List Da}(hp:H p=none)(h:Holds K H xs ds):Hold K (upd H p (.tup xs)) (.ref p) (.tup ds):=.tup (SqT.of ae) (Holds.mono (ad hp _) h)
theorem Nc {α:Type}{xs:List α}{v:Int}(h0:0<=v)(h1:v < (xs.length:Int)):∃x,xs[v.toNat]?=some x/\atI xs v=some x:=by
 have hk:v.toNat < xs.length:=(by lia);have ek:v=((v.toNat:Nat):Int):=(by lia);have q:atI xs ((v.toNat:Nat):Int)=some xs[v.toNat]:=bh (aL hk);rw[<-ek]at q;exact⟨_,aL hk,q⟩
theorem E9:∀(cs:List Nat)(a:Nat),1<=a->(∀c∈cs,1<=c)->1<=cs.foldl (· * ·) a
 | [],a,h,_=>h
 |c::r,a,h,hc=>E9 r (a * c) (Nat.mul_pos h (hc c eG)) λd hd=>hc d (cY _ hd)
theorem V6 {ws:List (Str×Nat)}(sk:fg ws):0 < (LL ws).length:=by
 rw[jr];refine E9 _ 1 (aO _) λc hc=>?_;obtain⟨z,hz,rfl⟩:=eE.mp hc;exact(sk.cnt z hz).1
theorem P3 {ns:List Int}{lo hi:Option Int}:∀x∈fq (ns.map V.int) lo hi,∃n,x=V.int n:=λx z=>by
 unfold fq at z;obtain⟨n,_,e'⟩:=eE.mp (List.mem_of_mem_drop (nP z));exact⟨n,e'.symm⟩
theorem V7 (xs:List V):(fq xs (some 2) (some 28)).length<=26:=by
 unfold fq;rw[cQ,show(some (2:Int))=some ((2:Nat):Int)from rfl,show(some (28:Int))=some ((28:Nat):Int)from rfl,HT.sIx_nat,HT.sIx_nat,iH];lia
def Cs (K:aA):Sp:=λvs H Q _=>∃(a:Addr)(ns:List Int),vs=[.ref a]/\SqL K H a (ns.map V.int)/\ns.length<=63/\∀H',Q (.bl true) H'
abbrev nLa:List Str:=["_law_script","_law_speech_here","_law_letters_here","_law_saying_here","_law_cell_here","_law_letter","_law_field","_law_count","_law_far","_law_tried","_law_one","_law_bad","_law_k","_law_way"]
section
variable {P:aS}{w:bZ}{K:aA}{mg:Str->Option aB}{base:Heap}{cF cV cT cP cG:Addr}
theorem ng:ar nLa ["_law_script"] (aj ql):=fsN
theorem V8 {f fC fS fL fY fT fD fA fR:Addr}{fd dC dS dL dY dT dD dA dR:cC}(F:Fun K "law" "law" ql f fd)
  (GC:FnOk P w K mg base CX0 1 fC dC ["_law_script","_law_k"] (K9 K)) (bC:Binds K dC ["_law_script","_law_k"] []) (kC:aU K (.ref fC)=true) (mC:mg "_law_cell"=some (.ref fC))
  (GS:FnOk P w K mg base CX0 2 fS dS ["_law_cell_here","_law_least"] (B7 K)) (bS:Binds K dS ["_law_cell_here","_law_least"] []) (kS:aU K (.ref fS)=true) (mS:mg "_law_speech"=some (.ref fS))
  (GL:FnOk P w K mg base CX0 1 fL dL ["_law_speech_here"] (M9 K)) (bL:Binds K dL ["_law_speech_here"] []) (kL:aU K (.ref fL)=true) (mL:mg "_law_letters"=some (.ref fL))
  (GY:FnOk P w K mg base CX0 4 fY dY ["_law_cells","_law_speech_here","_law_most"] (Ca K)) (bY:Binds K dY ["_law_cells","_law_speech_here","_law_most"] []) (kY:aU K (.ref fY)=true) (mY:mg "_law_saying"=some (.ref fY))
  (GT:FnOk P w K mg base CX0 59 fT dT ["_law_saying_here"] (Oq K 58)) (bT:Binds K dT ["_law_saying_here"] []) (kT:aU K (.ref fT)=true) (mT:mg "_law_is_test"=some (.ref fT))
  (GD:FnOk P w K mg base CX0 60 fD dD ["_law_way","_law_speech_here","_law_saying_here","_law_bad"] (Na K)) (bD:Binds K dD ["_law_way","_law_speech_here","_law_saying_here","_law_bad"] []) (kD:aU K (.ref fD)=true) (mD:mg "_law_due"=some (.ref fD))
  (GA:FnOk P w K mg base CX0 11 fA dA ["_law_way","_law_speech_here","_law_saying_here","_law_letter"] (Cb K cF cV cT cP cG)) (bA:Binds K dA ["_law_way","_law_speech_here","_law_saying_here","_law_letter"] []) (kA:aU K (.ref fA)=true) (mA:mg "_law_caught"=some (.ref fA))
  (GR:FnOk P w K mg base CX0 2 fR dR ["_law_way","_law_e","_law_due_here"] (Ac K cF cV cT cP cG)) (bR:Binds K dR ["_law_way","_law_e","_law_due_here"] []) (kR:aU K (.ref fR)=true) (mR:mg "_law_refused"=some (.ref fR))
  (ml:mg "len"=none) (mr:mg "range"=none):FnOk P w K mg base CX0 61 f fd ["_law_script"] (Cs K):=by
 refine F.ok ng (λvs H Q E h=>?_) (λcdv A outer s H vs Q E hr h=>?_)
 ·obtain⟨a,ns,rfl,_⟩:=h;rfl
 obtain⟨a,ns,rfl,hS,n63,q⟩:=h;have last:∃tt,PSs (bf CX0 P w K mg base nLa "law" (aj ql) f cdv A outer s H E).nox ((dj ql).drop 12) tt/\∀(sp lt u:Addr)(v2 v3 v6 v7 v8:Option V) (n:Int) (ws:List (Str×Nat)) (l:List Int) (G:Hp) (H0:Hp) (zs:List V),Row K ws u H0 7 G zs->Hold K G (.ref sp) (gj ws)->fg ws->SqT K G lt (l.map V.int)->l∈LL ws->
   tt { nx:=λ_ H'=>Q .non H',rt:=Q } [some (.ref a),some (.ref sp),v2,v3,some (.int n),some (.ref lt),v6,v7,v8,some (.ref u),none,none,none,none] G:=by
  refine⟨_,ah (de eB rfl (ck (pv 9)) (Kw rfl (cn (ay (i:=10) ng.nd rfl (bV rfl)) (cn (ay (i:=11) ng.nd rfl (bV rfl)) im))) (ai (de eB rfl (ip rfl mr (ac ag af)) (ay (i:=12) ng.nd rfl (bV rfl)) (ah (ax (i:=13) ng.nd rfl (bV rfl) (bc iz (bc iy (pv 4) (pv 12)) ag)) (ai (cj (u9 (jh (ao GR (hr.mono (by decide)) rfl mR kR bR .nil az (ac (pv 13) (ac (ao GA (hr.mono (by decide)) rfl mA kA bA .nil az (ac (pv 13) (ac (pv 1) (ac (pv 10) (ac (pv 5) af))))) (ac (ao GD hr rfl mD kD bD .nil az (ac (pv 13) (ac (pv 1) (ac (pv 10) (ac (pv 11) af))))) af)))))) (ai (au j6)) bo)))))) (ai (au j6)),?_⟩;dsimp only[bf,Cx.nox];intro sp lt u v2 v3 v6 v7 v8 n ws l G H0 zs ⟨_,gu,ln,en⟩ hsp sk hlt hl;refine⟨_,rfl,u,rfl,⟨_,SqL.of gu⟩,gq (K:=K) (a:=u) (xs:=zs) (λi σ G1=>∃v10 v11 v12 v13:Option V,σ=[some (.ref a),some (.ref sp),v2,v3,some (.int n),some (.ref lt),v6,v7,v8,some (.ref u),v10,v11,v12,v13]/\Same G G1) ⟨none,none,none,none,rfl,Same.refl _⟩ (λi σ G1 _ h0_=>by obtain⟨_,_,_,_,_,sG⟩:=h0_;exact SqL.of (sG _ _ gu)) ?_ ?_⟩
  ·intro i x σ G1 hx h_1;obtain⟨v10,v11,v12,v13,rfl,sG⟩:=h_1;generalize hE1_:db.mk _ _ _ _=E1_;revert hE1_ E1_;refine id ?_;intro E1_ hE1_;obtain⟨c,b,y,sy,rfl,cu,bu,gc,hy,s58,n5,dd⟩:=en x (bQ hx);refine⟨c,_,rfl,SqL.of (sG _ _ gc),rfl,_,_,rfl,_,_,rfl,rfl,?_⟩;refine⟨3,rfl,by decide,by decide,kq (n:=3) (λj σ G2=>∃v12 v13:Option V,σ=[some (.ref a),some (.ref sp),v2,v3,some (.int n),some (.ref lt),v6,v7,v8,some (.ref u),some y,some (.ref b),v12,v13]/\Same G G2) ⟨v12,v13,rfl,sG⟩ ?_ ?_⟩
   ·intro j σ G2 hj h_1;obtain⟨v12,v13,rfl,s2⟩:=h_1;generalize hE2_:db.mk _ _ _ _=E2_;revert hE2_ E2_;refine id ?_;intro E2_ hE2_;have m3:=ft (n+(0+(j:Int))) (m:=3) (by decide);refine⟨_,rfl,_,rfl,_,_,rfl,rfl,_,_,rfl,rfl,(by show(0:Int) < 3;decide),?_⟩;refine⟨_,rfl,_,rfl,_,rfl,_,rfl,_,rfl,_,sp,lt,y,ws,sy,l,rfl,m3.1,m3.2,⟨hsp.mono s2,sk,hy.mono s2,by lia,n5,hlt.same s2,hl⟩,λv G3 s3 cm=>?_⟩;have s23:=Same.trans s2 s3;refine⟨_,rfl,_,rfl,_,rfl,_,rfl,_,_,y,b,ws,sy,rfl,hy.mono s23,s58,dd.mono s23,λr G4 s4 da=>?_⟩;refine⟨_,v,r,_,rfl,da,cm.mono s4,λff z=>bK (T0 z) s58,λG5 s5=>⟨_,rfl,cr ?_⟩⟩;subst hE2_;exact⟨_,_,rfl,Same.trans (Same.trans s23 s4) s5⟩
   ·intro σ G2 h_1;obtain⟨v12,v13,rfl,s2⟩:=h_1;subst hE1_;exact⟨_,_,_,_,rfl,s2⟩
  ·intro σ G1 h_1;obtain⟨v10,v11,v12,v13,rfl,sG⟩:=h_1;exact q G1
 obtain⟨tt,ht,hq⟩:=last;refine⟨_,ah (ax (i:=1) ng.nd rfl (bV rfl) (ao GS (hr.mono (by decide)) rfl mS kS bS .nil az (ac (ao GC (hr.mono (by decide)) rfl mC kC bC .nil az (ac (pv 0) (ac ag af))) (ac ag af)))) (ah (ax (i:=2) ng.nd rfl (bV rfl) (ao GL (hr.mono (by decide)) rfl mL kL bL .nil az (ac (pv 1) af))) (ah (ax (i:=3) ng.nd rfl (bV rfl) (ao GY (hr.mono (by decide)) rfl mY kY bY .nil az (ac (cq fj (pv 0) (c7 ag) (c7 ag)) (ac (pv 1) (ac ag af))))) (ah (ax (i:=4) ng.nd rfl (bV rfl) (ao GC (hr.mono (by decide)) rfl mC kC bC .nil az (ac (pv 0) (ac ag af)))) (ah (ax (i:=5) ng.nd rfl (bV rfl) (aq aw (pv 2) (bc iz (pv 4) (bp br rfl ml eX (ac (pv 2) af))) (λ_ _=>rfl))) (ah (r8 (aq cf (pv 1) (bc iz (bc si (pv 4) ag) (bp br rfl ml eX (ac (pv 1) af))) (λ_ _=>rfl)) (jz rfl (cn (ay (i:=6) ng.nd rfl (bV rfl)) (cn (ay (i:=7) ng.nd rfl (bV rfl)) im)))) (ah (ax (i:=8) ng.nd rfl (bV rfl) (aq aw (av (ac (j7 je ag) (ac (pv 7) (ac (bc iy (bc Ug ag ag) (pv 7)) af)))) (bc iz (bc si (pv 4) ag) ag) (λ_ _=>rfl))) (ah (ax (i:=9) ng.nd rfl (bV rfl) (av (ac (av (ac (pv 3) (ac (av af) af))) (ac (av (ac (bq (bj be (qg (pv 3) af))) (ac (av af) af))) (ac (av (ac (bq (bj be (vd (bq (bj be af)) (qg (pv 3) af)))) (ac (av af) af))) af))))) (ah (bx (gi cX fV fX dy (pv 9) (ac (av (ac (bq (bj be (vd (bq (bj be (ac (bc ua (pv 6) be) (qg (pv 8) af)))) (qg (pv 3) af)))) (ac (av (bj be (ac (bc ua (pv 6) be) af))) af))) af))) (ah (bx (gi cX fV fX dy (pv 9) (ac (av (ac (bq (bj be (vd (bq (bj be (vd (bq (bj be (qg (pv 6) (qg (pv 8) af)))) af))) (qg (pv 3) af)))) (ac (av (bj be (qg (pv 8) af))) af))) af))) (ah (bx (gi cX fV fX dy (pv 9) (ac (av (ac (bq (bj be (vd (bq (bj be (vd (bq (bj be af)) af))) (vd (bq (bj be (bj be (bj ag af)))) af)))) (ac (av (bj be (vd (bq (bj be af)) af))) af))) af))) (ah (cj (jh (ao GT (hr.mono (by decide)) rfl mT kT bT .nil az (ac (pv 3) af))) (ai (bx (gi cX fV fX dy (pv 9) (ac (av (ac (bq (bj be (qg (pv 3) af))) (ac (av af) af))) af)))) (ai (bx (gi cX fV fX dy (pv 9) (ac (av (ac (bq (bj be (qg (pv 3) af))) (ac (av (bj be (qg (pv 3) af))) af))) af))))) ht))))))))))),?_⟩;dsimp only[bf,Cx.nox];refine⟨_,rfl,a,0,ns,rfl,hS,by decide,λn0=>⟨n0,1,rfl,by decide,by decide,λsp ws G1 s1 hsp sk wd _=>?_⟩⟩;refine⟨_,rfl,sp,ws,rfl,hsp,sk,λlr G2 s2 la=>?_⟩;have s12:=Same.trans s1 s2;refine⟨_,rfl,_,rfl,_,rfl,a,_,rfl,s12.seq hS,λp0 hp0=>?_⟩;have t3:=ad hp0 (.lst (fq (ns.map V.int) (some 2) (some 28)));refine⟨_,rfl,p0,sp,2,_,ws,rfl,SqL.of ae,P3,V7 _,hsp.mono (Same.trans s2 t3),sk,wd,λy sy G4 s4 hy h54 du n2=>?_⟩;have s24:=Same.trans t3 s4;have s04:=Same.trans s12 s24;refine⟨_,rfl,a,1,ns,rfl,s04.seq hS,by decide,λn=>?_⟩;obtain⟨xs,glr,hxs⟩:=la;have glr4:=s24 _ _ glr;have ll:xs.length=(LL ws).length:=(by rw[hxs.length,aG]);have lp:=V6 sk;have x0:(0:Int) < ((xs.length:Nat):Int):=(by lia);have m1:=ft n x0;obtain⟨xv,ex,ev⟩:=Nc (xs:=xs) m1.1 m1.2;obtain⟨l,el,hl⟩:=hxs.getm ex;obtain⟨lt,ys,rfl,hlt,hys⟩:=Hold.tupI hl;have ey:ys=l.map V.int:=hys.ints;subst ey;have hlm:l∈LL ws:=bQ el;have hlt4:=hlt.same s24;have hsp4:=hsp.mono (Same.trans s2 s24);refine⟨_,rfl,_,rfl,_,rfl,lr,_,rfl,.inl (SqL.of glr4),_,_,rfl,rfl,x0,lr,_,_,_,rfl,rfl,SqL.of glr4,ev,?_⟩;obtain⟨sp',vs,es,hvs,hvd⟩:=Hold.tupI hsp4;cases es;have lv:vs.length=ws.length:=(by rw[hvd.length,aG]);have w1:=sk.lo;have v0:(0:Int) < ((vs.length:Nat):Int):=(by lia);have m2:=ft (n / 24) v0;obtain⟨xw,exw,evw⟩:=Nc (xs:=vs) m2.1 m2.2;obtain⟨w',ew,hw⟩:=hvd.getm exw;obtain⟨c,ys,ec,hc,hys⟩:=Hold.tupI hw;have wm:w'∈ws:=bQ ew;have h6:=sk.cnt w' wm;have wk:=sk.word w' wm;have wl:=wk.len;subst ec;refine⟨_,rfl,_,rfl,_,_,rfl,rfl,⟨by decide,by decide⟩,_,rfl,sp,_,rfl,.inr hvs,_,_,rfl,rfl,v0,sp,_,_,_,rfl,rfl,hvs,evw,?_⟩;cases hys with
 |cons h1 r1=>
 cases r1 with
 |cons h2 r2=>
 cases r2;cases h1.flatI;cases h2.flatI;refine⟨c,_,rfl,hc,rfl,_,_,rfl,_,_,rfl,rfl,?_⟩;refine⟨1,rfl,_,rfl,_,_,rfl,rfl,⟨by decide,by decide,by decide⟩,_,rfl,_,_,rfl,rfl,sz3,λl2 hl2=>?_⟩;have m3:=ft (n / 72) (m:=3) (by decide);obtain⟨far,fm,fe⟩:=Dz (ns:=[-1,(w'.2:Int),(10:Int) ^ ((59:Int).toNat)+(w'.2:Int)]) m3.1 m3.2;have fr:¬(0<=far/\far < (w'.2:Int))/\far.natAbs.log2 < 1000:=by
  rw[p59]at fm;simp only[cD,eU,or_false]at fm;refine⟨by lia,vg (by lia)⟩
 obtain⟨fno,flog⟩:=fr;refine⟨_,rfl,_,_,rfl,rfl,⟨by decide,by decide⟩,_,_,rfl,rfl,(by show(0:Int) < 3;decide),l2,_,_,_,rfl,rfl,SqL.of ae,fe,?_⟩;have t5:=ad hl2 (.lst [.int (-1),.int (w'.2:Int),.int ((10:Int) ^ ((59:Int).toNat)+(w'.2:Int))]);have hy5:=hy.mono t5;have hsp5:=hsp4.mono t5;have hlt5:=hlt4.same t5;generalize upd G4 l2 _=G5 at hy5 hsp5 hlt5 ⊢;have nil0:∀{G:Hp}{b:Addr}{s:Say},s.due ws=none->G b=some (.lst [])->DAt K G b ((s.due ws).map NF.flt):=λ{G b s} e g=>(by rw[e];exact g);refine⟨_,rfl,sz0,λb1 hb1=>⟨sz2,λc1 hc1=>⟨_,rfl,sz2,λt1 ht1=>⟨sz0,λb2 hb2=>⟨sz2,λc2 hc2=>⟨sz1,λt2 ht2=>⟨_,rfl,sz3,λt3 ht3=>⟨sz0,λb3 hb3=>⟨sz2,λc3 hc3=>⟨sz3,λu hu=>?_⟩⟩⟩⟩⟩⟩⟩⟩⟩⟩;obtain⟨h1,e1⟩:∃h,upd G5 b1 (.lst [])=h:=⟨_,rfl⟩;have S1:=ad hb1 (.lst []);have g1:upd G5 b1 (.lst []) b1=some (.lst []):=ae;rw[e1]at S1 g1 hc1 ht1 hb2 hc2 ht2 ht3 hb3 hc3 hu ⊢;obtain⟨h2,e2⟩:∃h,upd h1 c1 (.lst [y,.ref b1])=h:=⟨_,rfl⟩;have S2:=ad hc1 (.lst [y,.ref b1]);have g2:upd h1 c1 (.lst [y,.ref b1]) c1=some (.lst [y,.ref b1]):=ae;rw[e2]at S2 g2 ht1 hb2 hc2 ht2 ht3 hb3 hc3 hu ⊢;have A2:=Same.trans S1 S2;have T3:Hold K (upd h2 t1 (.tup [.str "again",y])) (.ref t1) (Say.again sy).da:=fv ht1 (.cons (.flat rfl) (.cons (hy5.mono A2) .nil));have S3:=ad ht1 (.tup [.str "again",y]);obtain⟨h3,e3⟩:∃h,upd h2 t1 (.tup [.str "again",y])=h:=⟨_,rfl⟩;rw[e3]at T3 S3 hb2 hc2 ht2 ht3 hb3 hc3 hu ⊢;obtain⟨h4,e4⟩:∃h,upd h3 b2 (.lst [])=h:=⟨_,rfl⟩;have S4:=ad hb2 (.lst []);have g4:upd h3 b2 (.lst []) b2=some (.lst []):=ae;rw[e4]at S4 g4 hc2 ht2 ht3 hb3 hc3 hu ⊢;obtain⟨h5,e5⟩:∃h,upd h4 c2 (.lst [.ref t1,.ref b2])=h:=⟨_,rfl⟩;have S5:=ad hc2 (.lst [.ref t1,.ref b2]);have g5:upd h4 c2 (.lst [.ref t1,.ref b2]) c2=some (.lst [.ref t1,.ref b2]):=ae;rw[e5]at S5 g5 ht2 ht3 hb3 hc3 hu ⊢;have A5:=Same.trans A2 (Same.trans S3 (Same.trans S4 S5));have T6:Hold K (upd h5 t2 (.tup [.str "note"])) (.ref t2) Say.note.da:=fv ht2 (.cons (.flat rfl) .nil);have S6:=ad ht2 (.tup [.str "note"]);obtain⟨h6,e6⟩:∃h,upd h5 t2 (.tup [.str "note"])=h:=⟨_,rfl⟩;rw[e6]at T6 S6 ht3 hb3 hc3 hu ⊢;have T7:Hold K (upd h6 t3 (.tup [.str "then",.ref t2,y])) (.ref t3) (Say.both .note sy).da:=fv ht3 (.cons (.flat rfl) (.cons T6 (.cons (hy5.mono (Same.trans A5 S6)) .nil)));have S7':=ad ht3 (.tup [.str "then",.ref t2,y]);obtain⟨h7,e7⟩:∃h,upd h6 t3 (.tup [.str "then",.ref t2,y])=h:=⟨_,rfl⟩;rw[e7]at T7 S7' hb3 hc3 hu ⊢;obtain⟨h8,e8⟩:∃h,upd h7 b3 (.lst [])=h:=⟨_,rfl⟩;have S8:=ad hb3 (.lst []);have g8:upd h7 b3 (.lst []) b3=some (.lst []):=ae;rw[e8]at S8 g8 hc3 hu ⊢;obtain⟨h9,e9⟩:∃h,upd h8 c3 (.lst [.ref t3,.ref b3])=h:=⟨_,rfl⟩;have S9:=ad hc3 (.lst [.ref t3,.ref b3]);have g9:upd h8 c3 (.lst [.ref t3,.ref b3]) c3=some (.lst [.ref t3,.ref b3]):=ae;rw[e9]at S9 g9 hu ⊢;have B89:=S9;have B79:=Same.trans S8 S9;have B59:=Same.trans S6 (Same.trans S7' B79);have B39:=Same.trans S4 (Same.trans S5 B59);have B29:=Same.trans S3 B39;have A9:Same G5 h9:=Same.trans A2 B29;have R3:Row K ws u h9 3 (upd h9 u (.lst [.ref c1,.ref c2,.ref c3])) [.ref c1,.ref c2,.ref c3]:=by
  refine⟨ad hu _,ae,rfl,λx hx=>?_⟩;simp only[cD,eU,or_false]at hx;rcases hx with z | z | z<;>rw[z]
  ·exact Ent.new (s:=sy) hu (B29 _ _ g2) ((Same.trans S2 B29) _ _ g1) (hy5.mono A9) (by lia) (by lia) (nil0 du ((Same.trans S2 B29) _ _ g1)) _
  ·exact Ent.new (s:=.again sy) hu (B59 _ _ g5) ((Same.trans S5 B59) _ _ g4) (T3.mono B39) (by show sy.size+1<=58;lia) (by show sy.nts<=5;lia) (nil0 (by rw[Say.due];exact du) ((Same.trans S5 B59) _ _ g4)) _
  ·exact Ent.new (s:=.both .note sy) hu g9 (B89 _ _ g8) (T7.mono B79) (by show 1+sy.size+1<=58;lia) (by show 1+sy.nts<=5;lia) (nil0 (by rw[Say.due,du];rfl) (B89 _ _ g8)) _
 generalize upd h9 u (.lst [.ref c1,.ref c2,.ref c3])=Ga at R3 ⊢;have h90:=hu;have hyA:∀{G:Hp},Same h9 G->Hold K G y sy.da:=λ{G} s=>hy5.mono (Same.trans A9 s);generalize ([.ref c1,.ref c2,.ref c3]:List V)=za at R3;obtain⟨sA,gA,lA,_⟩:=id R3;refine⟨_,rfl,.inl ⟨rfl,_,SqL.of gA⟩,_,rfl,_,_,rfl,rfl,small (by show w'.1.length+1<=1000;lia),_,rfl,sz3,λk1 hk1=>⟨_,rfl,sz3,λk2 hk2=>⟨_,rfl,_,_,rfl,rfl,small (by show w'.1.length+1<=1000;lia),sz2,λkb hkb=>⟨sz2,λkc hkc=>?_⟩⟩⟩⟩;have R4:=R3.add (c:=kc) (b:=kb) (y:=.ref k2) (s:=.both (.is ⟨w'.1++"x",Lb wk⟩ ⟨far,flog⟩) sy) h90 (Same.trans (Same.trans (ad hk1 _) (ad hk2 _)) (Same.trans (ad hkb _) (ad hkc _))) ae
  (am (ad hkb _ _ _ (ad hk2 _ _ _ (ad hk1 _ _ _ gA))) hkc).symm (am (ad hk2 _ _ _ (ad hk1 _ _ _ gA)) hkb).symm
  (Hold.mono (Same.trans (ad hkb _) (ad hkc _)) (fv hk2 (.cons (.flat rfl) (.cons (fv hk1 (.cons (.flat rfl) (.cons (.flat rfl) (.cons (.flat rfl) .nil)))) (.cons (hyA (Same.trans sA (ad hk1 _))) .nil)))))
  (by show 1+sy.size+1<=58;lia) (by show 0+sy.nts<=5;lia) (by rw[show Say.due ws (.both (.is ⟨w'.1++"x",Lb wk⟩ ⟨far,flog⟩) sy)=some (.field (w'.1++"x"))by rw[Say.due,Say.due,M6 wd wm];rfl];exact ad hkc _ _ _ ae)
 refine⟨u,_,.ref kc,rfl,rfl,(Same.trans (Same.trans (ad hk1 _) (ad hk2 _)) (Same.trans (ad hkb _) (ad hkc _))) _ _ gA,bg (by lia),?_⟩;clear gA hkc hkb hk2 hk1;generalize upd _ u _=Gb at R4 ⊢;generalize za++[V.ref kc]=zb at R4;obtain⟨sA,gA,lA,_⟩:=id R4;refine⟨_,rfl,.inl ⟨rfl,_,SqL.of gA⟩,_,rfl,_,rfl,sz3,λk0 hk0=>⟨sz2,λk1 hk1=>⟨_,rfl,sz3,λk2 hk2=>⟨_,rfl,sz2,λkb hkb=>⟨sz2,λkc hkc=>?_⟩⟩⟩⟩⟩;have R5:=R4.add (c:=kc) (b:=kb) (y:=.ref k2) (s:=.either (.again (.put ⟨w'.1,qw wk⟩ ⟨far,flog⟩)) sy) h90 (Same.trans (Same.trans (ad hk0 _) (ad hk1 _)) (Same.trans (ad hk2 _) (Same.trans (ad hkb _) (ad hkc _)))) ae
  (am (ad hkb _ _ _ (ad hk2 _ _ _ (ad hk1 _ _ _ (ad hk0 _ _ _ gA)))) hkc).symm (am (ad hk2 _ _ _ (ad hk1 _ _ _ (ad hk0 _ _ _ gA))) hkb).symm
  (Hold.mono (Same.trans (ad hkb _) (ad hkc _)) (fv hk2 (.cons (.flat rfl) (.cons (fv hk1 (.cons (.flat rfl) (.cons (fv hk0 (.cons (.flat rfl) (.cons (.flat rfl) (.cons (.flat rfl) .nil)))) .nil))) (.cons (hyA (Same.trans sA (Same.trans (ad hk0 _) (ad hk1 _)))) .nil)))))
  (by show 1+1+sy.size+1<=58;lia) (by show 0+sy.nts<=5;lia) (by rw[show Say.due ws (.either (.again (.put ⟨w'.1,qw wk⟩ ⟨far,flog⟩)) sy)=some (.value far)by rw[Say.due,Say.due,Say.due,M5 wd wm fno];rfl];exact ad hkc _ _ _ ae)
 refine⟨u,_,.ref kc,rfl,rfl,(Same.trans (Same.trans (ad hk0 _) (ad hk1 _)) (Same.trans (ad hk2 _) (Same.trans (ad hkb _) (ad hkc _)))) _ _ gA,bg (by lia),?_⟩;clear gA hkc hkb hk2 hk1 hk0;generalize upd _ u _=Gc at R5 ⊢;generalize zb++[V.ref kc]=zc at R5;obtain⟨sA,gA,lA,_⟩:=id R5;refine⟨_,rfl,.inl ⟨rfl,_,SqL.of gA⟩,sz1,λk0 hk0=>⟨sz2,λk1 hk1=>⟨sz3,λk3 hk3=>⟨sz3,λk2 hk2=>⟨sz1,λkn hkn=>⟨sz2,λkb hkb=>⟨sz2,λkc hkc=>?_⟩⟩⟩⟩⟩⟩⟩;have zz:(qH ("zz":Str)).length<=2000:=(by decide +kernel);have z0:(0:Int).natAbs.log2 < 1000:=(by decide);have tn:=Same.trans (ad hk0 (.tup [.str "note"])) (Same.trans (ad hk1 (.tup [.str "not",.ref k0])) (Same.trans (ad hk3 (.tup [.str "is",.str "zz",.int 0])) (ad hk2 (.tup [.str "then",.ref k1,.ref k3]))));have R6:=R5.add (c:=kc) (b:=kb) (y:=.ref k2) (s:=.both (.no .note) (.is ⟨"zz",zz⟩ ⟨0,z0⟩)) h90 (Same.trans tn (Same.trans (ad hkn _) (Same.trans (ad hkb _) (ad hkc _)))) ae
  (am (ad hkb _ _ _ (ad hkn _ _ _ (tn _ _ gA))) hkc).symm (am (ad hkn _ _ _ (tn _ _ gA)) hkb).symm
  (Hold.mono (Same.trans (ad hkn _) (Same.trans (ad hkb _) (ad hkc _))) (fv hk2 (.cons (.flat rfl) (.cons (Hold.mono (ad hk3 _) (fv hk1 (.cons (.flat rfl) (.cons (fv hk0 (.cons (.flat rfl) .nil)) .nil)))) (.cons (fv hk3 (.cons (.flat rfl) (.cons (.flat rfl) (.cons (.flat rfl) .nil)))) .nil)))))
  (by show 1+1+1+1<=58;decide) (by show 1+0<=5;decide) ⟨.ref kn,ad hkc _ _ _ ae,Hold.mono (Same.trans (ad hkb _) (ad hkc _)) (fv hkn (.cons (.flat rfl) .nil))⟩
 refine⟨u,_,.ref kc,rfl,rfl,(Same.trans tn (Same.trans (ad hkn _) (Same.trans (ad hkb _) (ad hkc _)))) _ _ gA,bg (by lia),?_⟩;clear gA tn hkc hkb hkn hk2 hk3 hk1 hk0;generalize upd _ u _=Gd at R6 ⊢;generalize zc++[V.ref kc]=zd at R6;obtain⟨sD,gD,lD,eD⟩:=id R6;refine⟨_,rfl,y,sy,rfl,hyA sD,by lia,λGe sE=>⟨_,rfl,?_⟩⟩;have R6':Row K ws u h9 6 Ge zd:=⟨Same.trans sD sE,sE _ _ gD,lD,λx hx=>(eD x hx).keep gD λb o _ e=>sE b o e⟩;obtain⟨sA,gA,lA,_⟩:=id R6';have fin:∀(G:Hp)(zs:List V),Row K ws u h9 7 G zs->tt { nx:=λ_ H'=>Q .non H',rt:=Q } [some (.ref a),some (.ref sp),some (.ref lr),some y,some (.int n),some (.ref lt),some (.str w'.1),some (.int (w'.2:Int)),some (.int far),some (.ref u),none,none,none,none] G:=λG zs R=>
  hq sp lt u _ _ _ _ _ n ws l G h9 zs R (hsp5.mono (Same.trans A9 R.1)) sk (hlt5.same (Same.trans A9 R.1)) hlm
 refine c9 (λct=>?_) (λct=>?_)
 ·refine⟨_,rfl,.inl ⟨rfl,_,SqL.of gA⟩,_,rfl,sz2,λk1 hk1=>⟨sz0,λkb hkb=>⟨sz2,λkc hkc=>?_⟩⟩⟩;have R7:=R6'.add (c:=kc) (b:=kb) (y:=.ref k1) (s:=.no sy) h90 (Same.trans (ad hk1 _) (Same.trans (ad hkb _) (ad hkc _))) ae
   (am (ad hkb _ _ _ (ad hk1 _ _ _ gA)) hkc).symm (am (ad hk1 _ _ _ gA) hkb).symm
   (Hold.mono (Same.trans (ad hkb _) (ad hkc _)) (fv hk1 (.cons (.flat rfl) (.cons (hyA sA) .nil))))
   (by show sy.size+1<=58;lia) (by show sy.nts<=5;lia) (nil0 (by rw[Say.due,if_pos ct];exact du) (ad hkc _ _ _ ae))
  exact⟨u,_,.ref kc,rfl,rfl,(Same.trans (ad hk1 _) (Same.trans (ad hkb _) (ad hkc _))) _ _ gA,bg (by lia),fin _ _ R7⟩
 ·refine⟨_,rfl,.inl ⟨rfl,_,SqL.of gA⟩,_,rfl,sz2,λk1 hk1=>⟨_,rfl,sz2,λkb hkb=>⟨sz2,λkc hkc=>?_⟩⟩⟩;have R7:=R6'.add (c:=kc) (b:=kb) (y:=.ref k1) (s:=.no sy) h90 (Same.trans (ad hk1 _) (Same.trans (ad hkb _) (ad hkc _))) ae
   (am (ad hkb _ _ _ (ad hk1 _ _ _ gA)) hkc).symm (am (ad hk1 _ _ _ gA) hkb).symm
   (Hold.mono (Same.trans (ad hkb _) (ad hkc _)) (fv hk1 (.cons (.flat rfl) (.cons (hyA sA) .nil))))
   (by show sy.size+1<=58;lia) (by show sy.nts<=5;lia) (by rw[Say.due,if_neg ct];exact⟨y,ad hkc _ _ _ ae,hyA (Same.trans sA (Same.trans (ad hk1 _) (Same.trans (ad hkb _) (ad hkc _))))⟩)
  exact⟨u,_,.ref kc,rfl,rfl,(Same.trans (ad hk1 _) (Same.trans (ad hkb _) (ad hkc _))) _ _ gA,bg (by lia),fin _ _ R7⟩
end
end S25
namespace S25
open PySem L2 Fly PyProof.Rows
structure At (K:aA)(f:Addr)(x q:Str)(st:Stmt):Prop where
 ex:∃(oc:aB)(od:Option Addr) (kV dc pm:aB) (an:Option Addr) (cd ct:aB) (sl:Array (Option aB)),K.lookup f=some ⟨oc,od,.func (gS x q (ef st) (dj st) (aj st) .none kV dc pm an cd ct),sl⟩/\jG K cd q=true
 kp:aU K (.ref f)=true
theorem At.fn {K:aA}{f:Addr}{x q:Str}{st:Stmt}(h:At K f x q st):∃fd,Fun K x q st f fd:=by
 obtain⟨⟨oc,od,kV,dc,pm,an,cd,ct,sl,l,c⟩,k⟩:=h;exact⟨_,qe l c k⟩
theorem at_mk {K:aA}{f:Addr}{x q:Str}{st:Stmt}{oc:aB}{od an:Option Addr}{sl:Array (Option aB)}{kV dc pm cd ct:aB}(l:K.lookup f=some ⟨oc,od,.func (gS x q (ef st) (dj st) (aj st) .none kV dc pm an cd ct),sl⟩)(c:jG K cd q=true)(k:aU K (.ref f)=true):At K f x q st:=⟨⟨_,_,_,_,_,_,_,_,_,l,c⟩,k⟩
theorem ln1 {us:List aB}(h:us.length=1):∃a,us=[a]:=List.length_eq_one_iff.mp h
theorem ln2 {us:List aB}(h:us.length=2):∃a b,us=[a,b]:=by
 cases us with
 |nil=>cases h
 |cons a t=>
  obtain⟨b,rfl⟩:=ln1 (us:=t) (xD h);exact⟨a,b,rfl⟩
theorem ln3 {us:List aB}(h:us.length=3):∃a b c,us=[a,b,c]:=by
 cases us with
 |nil=>cases h
 |cons a t=>
  obtain⟨b,c,rfl⟩:=ln2 (us:=t) (xD h);exact⟨a,b,c,rfl⟩
theorem ln4 {us:List aB}(h:us.length=4):∃a b c d,us=[a,b,c,d]:=by
 cases us with
 |nil=>cases h
 |cons a t=>
  obtain⟨b,c,d,rfl⟩:=ln3 (us:=t) (xD h);exact⟨a,b,c,d,rfl⟩
theorem bd1 {K:aA}{x q:Str}{st:Stmt}{f:Addr}{fd:cC}{ps:List Str}(F:Fun K x q st f fd)(e:ps.length=1:=by rfl)(h:∀(kV doc pm:aB)(an:Option Addr) (cdv ct u0:aB),uO (gS x q (ef st) (dj st) (aj st) .none kV doc pm an cdv ct) ⟨[u0],[]⟩=pure (ps.zip [u0]):=by intros;rfl):Binds K fd ps []:=
 F.binds λ_ _ _ _ _ _ us hl=>by obtain⟨a,rfl⟩:=ln1 (hl.trans e);exact h _ _ _ _ _ _ _
theorem bd2 {K:aA}{x q:Str}{st:Stmt}{f:Addr}{fd:cC}{ps:List Str}(F:Fun K x q st f fd)(e:ps.length=2:=by rfl)(h:∀(kV doc pm:aB)(an:Option Addr) (cdv ct u0 u1:aB),uO (gS x q (ef st) (dj st) (aj st) .none kV doc pm an cdv ct) ⟨[u0,u1],[]⟩=pure (ps.zip [u0,u1]):=by intros;rfl):Binds K fd ps []:=
 F.binds λ_ _ _ _ _ _ us hl=>by obtain⟨a,b,rfl⟩:=ln2 (hl.trans e);exact h _ _ _ _ _ _ _ _
theorem bd3 {K:aA}{x q:Str}{st:Stmt}{f:Addr}{fd:cC}{ps:List Str}(F:Fun K x q st f fd)(e:ps.length=3:=by rfl)(h:∀(kV doc pm:aB)(an:Option Addr) (cdv ct u0 u1 u2:aB),uO (gS x q (ef st) (dj st) (aj st) .none kV doc pm an cdv ct) ⟨[u0,u1,u2],[]⟩=pure (ps.zip [u0,u1,u2]):=by intros;rfl):Binds K fd ps []:=
 F.binds λ_ _ _ _ _ _ us hl=>by obtain⟨a,b,c,rfl⟩:=ln3 (hl.trans e);exact h _ _ _ _ _ _ _ _ _
theorem bd4 {K:aA}{x q:Str}{st:Stmt}{f:Addr}{fd:cC}{ps:List Str}(F:Fun K x q st f fd)(e:ps.length=4:=by rfl)(h:∀(kV doc pm:aB)(an:Option Addr) (cdv ct u0 u1 u2 u3:aB),uO (gS x q (ef st) (dj st) (aj st) .none kV doc pm an cdv ct) ⟨[u0,u1,u2,u3],[]⟩=pure (ps.zip [u0,u1,u2,u3]):=by intros;rfl):Binds K fd ps []:=
 F.binds λ_ _ _ _ _ _ us hl=>by obtain⟨a,b,c,d,rfl⟩:=ln4 (hl.trans e);exact h _ _ _ _ _ _ _ _ _ _
theorem all_mk {l:rA}{w:bZ}{K:aA}{h:Heap}{mg:Str->Option aB}{fa cS cF cV cT cP cG cN cR cM iF iV iT iP iG fiR fiM fmR fmE fmG fmF fmH fmK f1 f2 f3 f4 f5 f6 f7 f8 f9 f10 f11 f12 f13 f14 f15 f16 f17 f18 f19 f20 f21 f22 f23 f24 f25 f26 f27 f28 f29 f30 f31 f32 f33 f34 f35 f36 f37 f38 f39 f40 f41 f42 f43 f44 f45 f46 f47 f48 f49 f50 f51 f52 f53 f54 f55 aH aD aE:Addr}(X:K.In h)(G:h.Ns aQ mg)(hfa:mg "law"=some (.ref fa))
  {odiF aniF odiV aniV odiT aniT odiP aniP odiG aniG od55 an55 odH odD odE:Option Addr}{sliF sliV sliT sliP sliG sl55 slH slD slE:Array (Option aB)}{kViF dciF pmiF cdiF ctiF kViV dciV pmiV cdiV ctiV kViT dciT pmiT cdiT ctiT kViP dciP pmiP cdiP ctiP kViG dciG pmiG cdiG ctiG oc55 kV55 dc55 pm55 cd55 ct55:aB}{nH nD nE:Nat}{tkM tk1 tk2 tk3 tk4 tk5 tk6 tk7 tk8 tk9 tk10 tk11 tk12:Tok}
  {nmF qF:Str}{NF:Addr}{bsF subF:List aB}{snF:List Str}{abF:Bool}{colF:Option Bool}{ddF:Option Addr}{k0F k1F k2F k3F k5F:Option aB}
  {nmV qV:Str}{NV:Addr}{bsV subV:List aB}{snV:List Str}{abV:Bool}{colV:Option Bool}{ddV:Option Addr}{k0V k1V k2V k3V k5V:Option aB}
  {nmT qT:Str}{NT:Addr}{bsT subT:List aB}{snT:List Str}{abT:Bool}{colT:Option Bool}{ddT:Option Addr}{k0T k1T k2T k3T k5T:Option aB}
  {nmP qP:Str}{NP:Addr}{bsP subP:List aB}{snP:List Str}{abP:Bool}{colP:Option Bool}{ddP:Option Addr}{k0P k1P k2P k3P k5P:Option aB}
  {nmG qG:Str}{NG:Addr}{bsG subG:List aB}{snG:List Str}{abG:Bool}{colG:Option Bool}{ddG:Option Addr}{k0G k1G k2G k3G k5G:Option aB}
  (mS:aR K aQ "SwitchError"=some (some (.ref cS)))
  (mF:aR K aQ "NoField"=some (some (.ref cF)))
  (lcF:K.lookup cF=some (gL nmF qF cF NF bsF (.ref cS::bmV) true snF subF abF colF ddF k0F k1F k2F k3F k5F "ValueError.__new__"))
  (saF:aW K (.ref cF) "__setattr__"=some (some (.builtin "object.__setattr__")))
  (gaF:aW K (.ref cF) "__getattribute__"=some (some (.builtin "BaseException.__getattribute__")))
  (gtF:aW K (.ref cF) "__getattr__"=some none)
  (kpF:aU K (.ref cF)=true)
  (mV:aR K aQ "NoValue"=some (some (.ref cV)))
  (lcV:K.lookup cV=some (gL nmV qV cV NV bsV (.ref cS::bmV) true snV subV abV colV ddV k0V k1V k2V k3V k5V "ValueError.__new__"))
  (saV:aW K (.ref cV) "__setattr__"=some (some (.builtin "object.__setattr__")))
  (gaV:aW K (.ref cV) "__getattribute__"=some (some (.builtin "BaseException.__getattribute__")))
  (gtV:aW K (.ref cV) "__getattr__"=some none)
  (kpV:aU K (.ref cV)=true)
  (mT:aR K aQ "NoTest"=some (some (.ref cT)))
  (lcT:K.lookup cT=some (gL nmT qT cT NT bsT (.ref cS::bmV) true snT subT abT colT ddT k0T k1T k2T k3T k5T "ValueError.__new__"))
  (saT:aW K (.ref cT) "__setattr__"=some (some (.builtin "object.__setattr__")))
  (gaT:aW K (.ref cT) "__getattribute__"=some (some (.builtin "BaseException.__getattribute__")))
  (gtT:aW K (.ref cT) "__getattr__"=some none)
  (kpT:aU K (.ref cT)=true)
  (mP:aR K aQ "NoPlain"=some (some (.ref cP)))
  (lcP:K.lookup cP=some (gL nmP qP cP NP bsP (.ref cS::bmV) true snP subP abP colP ddP k0P k1P k2P k3P k5P "ValueError.__new__"))
  (saP:aW K (.ref cP) "__setattr__"=some (some (.builtin "object.__setattr__")))
  (gaP:aW K (.ref cP) "__getattribute__"=some (some (.builtin "BaseException.__getattribute__")))
  (gtP:aW K (.ref cP) "__getattr__"=some none)
  (kpP:aU K (.ref cP)=true)
  (mG:aR K aQ "TooGreat"=some (some (.ref cG)))
  (lcG:K.lookup cG=some (gL nmG qG cG NG bsG (.ref cS::bmV) true snG subG abG colG ddG k0G k1G k2G k3G k5G "ValueError.__new__"))
  (saG:aW K (.ref cG) "__setattr__"=some (some (.builtin "object.__setattr__")))
  (gaG:aW K (.ref cG) "__getattribute__"=some (some (.builtin "BaseException.__getattribute__")))
  (gtG:aW K (.ref cG) "__getattr__"=some none)
  (kpG:aU K (.ref cG)=true)
  (mN:aR K aQ "NoNet"=some (some (.ref cN)))
  (mR:aR K aQ "Runs"=some (some (.ref cR)))
  (mM:aR K aQ "Machine"=some (some (.ref cM)))
  (clF:aW K (.ref cF) "__class__"=some (some (.builtin "object.__class__")))
  (clV:aW K (.ref cV) "__class__"=some (some (.builtin "object.__class__")))
  (clT:aW K (.ref cT) "__class__"=some (some (.builtin "object.__class__")))
  (clP:aW K (.ref cP) "__class__"=some (some (.builtin "object.__class__")))
  (clG:aW K (.ref cG) "__class__"=some (some (.builtin "object.__class__")))
  (wga:oQ K (.ref cS) "__getattribute__"=some (some (.builtin "type.__getattribute__")))
  (wrd:pV K cS (.type "type")=true)
  (wfc:pW K (.ref cS) (.type "type") "__init__"=some (.val (.builtin "ValueError.__init__")))
  (rga:oQ K (.ref cR) "__getattribute__"=some (some (.builtin "type.__getattribute__")))
  (rrd:pV K cR (.type "type")=true)
  (pgM:pA K cM wP=true)
  (hdM:qS K cM=true)
  (poM:tZ K cM=true)
  (saM:aW K (.ref cM) "__setattr__"=some (some (.builtin "object.__setattr__")))
  (nMletters:aW K (.ref cM) "letters"=some none)
  (nMways:aW K (.ref cM) "ways"=some none)
  (mkM:vE K cM=true)
  (kpM:aU K (.ref cM)=true)
  (mMT:aR K aQ "MOST_TRAILS"=some (some (.int 400 tkM)))
  (nFfield:aW K (.ref cF) "field"=some none)
  (nVvalue:aW K (.ref cV) "value"=some none)
  (nTsaying:aW K (.ref cT) "saying"=some none)
  (nPsaying:aW K (.ref cP) "saying"=some none)
  (nGnumber:aW K (.ref cG) "number"=some none)
  (nGmost:aW K (.ref cG) "most"=some none)
  (vF:eA K (.ref cF) (.type "ValueError")=some true)
  (vV:eA K (.ref cV) (.type "ValueError")=some true)
  (vT:eA K (.ref cT) (.type "ValueError")=some true)
  (vP:eA K (.ref cP) (.type "ValueError")=some true)
  (ttF:oX K (.ref cF) [.ref cN,.ref cG]=some false)
  (ttV:oX K (.ref cV) [.ref cN,.ref cG]=some false)
  (ttT:oX K (.ref cT) [.ref cN,.ref cG]=some false)
  (ttP:oX K (.ref cP) [.ref cN,.ref cG]=some false)
  (eFF:eA K (.ref cF) (.ref cF)=some true)
  (eFV:eA K (.ref cF) (.ref cV)=some false)
  (eFT:eA K (.ref cF) (.ref cT)=some false)
  (eFP:eA K (.ref cF) (.ref cP)=some false)
  (eVF:eA K (.ref cV) (.ref cF)=some false)
  (eVV:eA K (.ref cV) (.ref cV)=some true)
  (eVT:eA K (.ref cV) (.ref cT)=some false)
  (eVP:eA K (.ref cV) (.ref cP)=some false)
  (eTF:eA K (.ref cT) (.ref cF)=some false)
  (eTV:eA K (.ref cT) (.ref cV)=some false)
  (eTT:eA K (.ref cT) (.ref cT)=some true)
  (eTP:eA K (.ref cT) (.ref cP)=some false)
  (ePF:eA K (.ref cP) (.ref cF)=some false)
  (ePV:eA K (.ref cP) (.ref cV)=some false)
  (ePT:eA K (.ref cP) (.ref cT)=some false)
  (ePP:eA K (.ref cP) (.ref cP)=some true)
  (eGG:eA K (.ref cG) (.ref cG)=some true)
  (xF:jB K (.ref cF) (.ref cS)=some true)
  (xV:jB K (.ref cV) (.ref cS)=some true)
  (xT:jB K (.ref cT) (.ref cS)=some true)
  (xP:jB K (.ref cP) (.ref cS)=some true)
  (xG:jB K (.ref cG) (.ref cS)=some true)
  (aiF:aW K (.ref cF) "__init__"=some (some (.ref iF)))
  (liF:K.lookup iF=some ⟨(.type "function"),odiF,.func (gS "__init__" "NoField.__init__" (ef sNF) (dj sNF) (aj sNF) .none kViF dciF pmiF aniF cdiF ctiF),sliF⟩)
  (ciF:jG K cdiF "NoField.__init__"=true)
  (kiF:aU K (.ref iF)=true)
  (aiV:aW K (.ref cV) "__init__"=some (some (.ref iV)))
  (liV:K.lookup iV=some ⟨(.type "function"),odiV,.func (gS "__init__" "NoValue.__init__" (ef sNV) (dj sNV) (aj sNV) .none kViV dciV pmiV aniV cdiV ctiV),sliV⟩)
  (ciV:jG K cdiV "NoValue.__init__"=true)
  (kiV:aU K (.ref iV)=true)
  (aiT:aW K (.ref cT) "__init__"=some (some (.ref iT)))
  (liT:K.lookup iT=some ⟨(.type "function"),odiT,.func (gS "__init__" "NoTest.__init__" (ef sNT) (dj sNT) (aj sNT) .none kViT dciT pmiT aniT cdiT ctiT),sliT⟩)
  (ciT:jG K cdiT "NoTest.__init__"=true)
  (kiT:aU K (.ref iT)=true)
  (aiP:aW K (.ref cP) "__init__"=some (some (.ref iP)))
  (liP:K.lookup iP=some ⟨(.type "function"),odiP,.func (gS "__init__" "NoPlain.__init__" (ef sNP) (dj sNP) (aj sNP) .none kViP dciP pmiP aniP cdiP ctiP),sliP⟩)
  (ciP:jG K cdiP "NoPlain.__init__"=true)
  (kiP:aU K (.ref iP)=true)
  (aiG:aW K (.ref cG) "__init__"=some (some (.ref iG)))
  (liG:K.lookup iG=some ⟨(.type "function"),odiG,.func (gS "__init__" "TooGreat.__init__" (ef sTG) (dj sTG) (aj sTG) .none kViG dciG pmiG aniG cdiG ctiG),sliG⟩)
  (ciG:jG K cdiG "TooGreat.__init__"=true)
  (kiG:aU K (.ref iG)=true)
  (aiR:pW K (.ref cR) (.type "type") "__init__"=some (.val (.ref fiR)))
  (liR:At K fiR "__init__" "Runs.__init__" Dp)
  (qiR:lG K (.ref fiR)=true)
  (aiM:aW K (.ref cM) "__init__"=some (some (.ref fiM)))
  (liM:At K fiM "__init__" "Machine.__init__" Ds)
  (qiM:lG K (.ref fiM)=true)
  (amR:aW K (.ref cM) "rooms"=some (some (.ref fmR)))
  (lmR:At K fmR "rooms" "Runs.rooms" Dq)
  (qmR:lG K (.ref fmR)=true)
  (amE:aW K (.ref cM) "ends"=some (some (.ref fmE)))
  (lmE:At K fmE "ends" "Runs.ends" Im)
  (qmE:lG K (.ref fmE)=true)
  (amG:aW K (.ref cM) "goes"=some (some (.ref fmG)))
  (lmG:At K fmG "goes" "Runs.goes" Cf)
  (qmG:lG K (.ref fmG)=true)
  (amF:aW K (.ref cM) "ends_from"=some (some (.ref fmF)))
  (lmF:At K fmF "ends_from" "Runs.ends_from" Dr)
  (qmF:lG K (.ref fmF)=true)
  (amH:aW K (.ref cM) "goes_from"=some (some (.ref fmH)))
  (lmH:At K fmH "goes_from" "Runs.goes_from" yr)
  (qmH:lG K (.ref fmH)=true)
  (amK:aW K (.ref cM) "masks_from"=some (some (.ref fmK)))
  (lmK:At K fmK "masks_from" "Runs.masks_from" yt)
  (qmK:lG K (.ref fmK)=true)
  (a1:aR K aQ "letters_of"=some (some (.ref f1)))
  (l1:At K f1 "letters_of" "letters_of" Dm)
  (a2:aR K aQ "each_longer"=some (some (.ref f2)))
  (l2:At K f2 "each_longer" "each_longer" wj)
  (a3:aR K aQ "place_of"=some (some (.ref f3)))
  (l3:At K f3 "place_of" "place_of" Df)
  (a4:aR K aQ "must_value"=some (some (.ref f4)))
  (l4:At K f4 "must_value" "must_value" Ib)
  (a5:aR K aQ "nothing"=some (some (.ref f5)))
  (l5:At K f5 "nothing" "nothing" sNo)
  (a6:aR K aQ "the_same"=some (some (.ref f6)))
  (l6:At K f6 "the_same" "the_same" Ij)
  (a7:aR K aQ "either_of"=some (some (.ref f7)))
  (l7:At K f7 "either_of" "either_of" Ik)
  (a8:aR K aQ "one_then_other"=some (some (.ref f8)))
  (l8:At K f8 "one_then_other" "one_then_other" Il)
  (a9:aR K aQ "reached_from"=some (some (.ref f9)))
  (l9:At K f9 "reached_from" "reached_from" Dn)
  (a10:aR K aQ "again_and_again"=some (some (.ref f10)))
  (l10:At K f10 "again_and_again" "again_and_again" yp)
  (a11:aR K aQ "where_nothing"=some (some (.ref f11)))
  (l11:At K f11 "where_nothing" "where_nothing" Do)
  (a12:aR K aQ "letters_in"=some (some (.ref f12)))
  (l12:At K f12 "letters_in" "letters_in" yq)
  (a13:aR K aQ "parts_of"=some (some (.ref f13)))
  (l13:At K f13 "parts_of" "parts_of" Dg)
  (a14:aR K aQ "held_in"=some (some (.ref f14)))
  (l14:At K f14 "held_in" "held_in" Ic)
  (a15:aR K aQ "must_saying"=some (some (.ref f15)))
  (l15:At K f15 "must_saying" "must_saying" Id)
  (a16:aR K aQ "must_part"=some (some (.ref f16)))
  (l16:At K f16 "must_part" "must_part" Dh)
  (a17:aR K aQ "is_test"=some (some (.ref f17)))
  (l17:At K f17 "is_test" "is_test" N5)
  (a18:aR K aQ "notes_in"=some (some (.ref f18)))
  (l18:At K f18 "notes_in" "notes_in" N6)
  (a19:aR K aQ "must_test"=some (some (.ref f19)))
  (l19:At K f19 "must_test" "must_test" Di)
  (a20:aR K aQ "must_plain"=some (some (.ref f20)))
  (l20:At K f20 "must_plain" "must_plain" Ar)
  (a21:aR K aQ "ways_of"=some (some (.ref f21)))
  (l21:At K f21 "ways_of" "ways_of" Cg)
  (a22:aR K aQ "ways_of_part"=some (some (.ref f22)))
  (l22:At K f22 "ways_of_part" "ways_of_part" Dv)
  (a23:aR K aQ "plain_relation"=some (some (.ref f23)))
  (l23:At K f23 "plain_relation" "plain_relation" Dw)
  (a24:aR K aQ "is_relation"=some (some (.ref f24)))
  (l24:At K f24 "is_relation" "is_relation" Io)
  (a25:aR K aQ "put_relation"=some (some (.ref f25)))
  (l25:At K f25 "put_relation" "put_relation" yu)
  (a26:aR K aQ "note_ways"=some (some (.ref f26)))
  (l26:At K f26 "note_ways" "note_ways" Dx)
  (a27:aR K aQ "either_ways"=some (some (.ref f27)))
  (l27:At K f27 "either_ways" "either_ways" yw)
  (a28:aR K aQ "then_ways"=some (some (.ref f28)))
  (l28:At K f28 "then_ways" "then_ways" yx)
  (a29:aR K aQ "behind"=some (some (.ref f29)))
  (l29:At K f29 "behind" "behind" wn)
  (a30:aR K aQ "filling"=some (some (.ref f30)))
  (l30:At K f30 "filling" "filling" Ip)
  (a31:aR K aQ "again_ways"=some (some (.ref f31)))
  (l31:At K f31 "again_ways" "again_ways" wo)
  (a32:aR K aQ "again_row"=some (some (.ref f32)))
  (l32:At K f32 "again_row" "again_row" wq)
  (a33:aR K aQ "trails"=some (some (.ref f33)))
  (l33:At K f33 "trails" "trails" Ax)
  (a34:aR K aQ "runs_from"=some (some (.ref f34)))
  (l34:At K f34 "runs_from" "runs_from" Iq)
  (a35:aR K aQ "ended"=some (some (.ref f35)))
  (l35:At K f35 "ended" "ended" yy)
  (a36:aR K aQ "gone_on"=some (some (.ref f36)))
  (l36:At K f36 "gone_on" "gone_on" Ch)
  (a37:aR K aQ "that_can_end"=some (some (.ref f37)))
  (l37:At K f37 "that_can_end" "that_can_end" Dy)
  (a38:aR K aQ "one_note_ahead"=some (some (.ref f38)))
  (l38:At K f38 "one_note_ahead" "one_note_ahead" yz)
  (a39:aR K aQ "done"=some (some (.ref f39)))
  (l39:At K f39 "done" "done" Ir)
  (a40:aR K aQ "is_so"=some (some (.ref f40)))
  (l40:At K f40 "is_so" "is_so" Iu)
  (a41:aR K aQ "_law_cell"=some (some (.ref f41)))
  (l41:At K f41 "_law_cell" "_law_cell" Ie)
  (a42:aR K aQ "_law_purse"=some (some (.ref f42)))
  (l42:At K f42 "_law_purse" "_law_purse" Dj)
  (a43:aR K aQ "_law_take"=some (some (.ref f43)))
  (l43:At K f43 "_law_take" "_law_take" Ig)
  (a44:aR K aQ "_law_speech"=some (some (.ref f44)))
  (l44:At K f44 "_law_speech" "_law_speech" As)
  (a45:aR K aQ "_law_letters"=some (some (.ref f45)))
  (l45:At K f45 "_law_letters" "_law_letters" Ce)
  (a46:aR K aQ "_law_lone"=some (some (.ref f46)))
  (l46:At K f46 "_law_lone" "_law_lone" Ih)
  (a47:aR K aQ "_law_grown"=some (some (.ref f47)))
  (l47:At K f47 "_law_grown" "_law_grown" Dk)
  (a48:aR K aQ "_law_joined"=some (some (.ref f48)))
  (l48:At K f48 "_law_joined" "_law_joined" Au)
  (a49:aR K aQ "_law_saying"=some (some (.ref f49)))
  (l49:At K f49 "_law_saying" "_law_saying" Av)
  (a50:aR K aQ "_law_is_test"=some (some (.ref f50)))
  (l50:At K f50 "_law_is_test" "_law_is_test" Ii)
  (a51:aR K aQ "_law_has_note"=some (some (.ref f51)))
  (l51:At K f51 "_law_has_note" "_law_has_note" Dl)
  (a52:aR K aQ "_law_due"=some (some (.ref f52)))
  (l52:At K f52 "_law_due" "_law_due" N7)
  (a53:aR K aQ "_law_caught"=some (some (.ref f53)))
  (l53:At K f53 "_law_caught" "_law_caught" Aw)
  (a54:aR K aQ "_law_refused"=some (some (.ref f54)))
  (l54:At K f54 "_law_refused" "_law_refused" nq)
  (a55:aR K aQ "law"=some (some (.ref f55)))
  (l55:K.lookup f55=some ⟨oc55,od55,.func (gS "law" "law" (ef ql) (dj ql) (aj ql) .none kV55 dc55 pm55 an55 cd55 ct55),sl55⟩)
  (c55:jG K cd55 "law"=true)
  (k55:aU K (.ref f55)=true)
  (aaH:aR K aQ "HOLDING_SORTS"=some (some (.ref aH)))
  (llH:K.lookup aH=some ⟨.type "tuple",odH,.seq #[.str "not" tk1,.str "either" tk2,.str "then" tk3,.str "again" tk4] nH,slH⟩)
  (aaD:aR K aQ "FIELD_SORTS"=some (some (.ref aD)))
  (llD:K.lookup aD=some ⟨.type "tuple",odD,.seq #[.str "is" tk5,.str "put" tk6] nD,slD⟩)
  (aaE:aR K aQ "TEST_SORTS"=some (some (.ref aE)))
  (llE:K.lookup aE=some ⟨.type "tuple",odE,.seq #[.str "none" tk7,.str "all" tk8,.str "is" tk9,.str "not" tk10,.str "either" tk11,.str "then" tk12] nE,slE⟩)
  (zrange:aR K aQ "range"=some none)
  (zabs:aR K aQ "abs"=some none)
  (zint:aR K aQ "int"=some none)
  (zmax:aR K aQ "max"=some none)
  (zmin:aR K aQ "min"=some none)
  (ztuple:aR K aQ "tuple"=some none)
  (zlen:aR K aQ "len"=some none)
  (zisinstance:aR K aQ "isinstance"=some none)
  (zenumerate:aR K aQ "enumerate"=some none)
  (zValueError:aR K aQ "ValueError"=some none)
  (zsum:aR K aQ "sum"=some none)
  (zall:aR K aQ "all"=some none)
  (zzip:aR K aQ "zip"=some none)
  (zreversed:aR K aQ "reversed"=some none)
  (zdict:aR K aQ "dict"=some none)
  (zany:aR K aQ "any"=some none) :
  ∃fd:cC,(∀(s:aI)(v:aB),vS s fd ⟨[v],[]⟩ [("_law_script",v)])/\∀base:Heap,K.In base->base.Ns aQ mg->FnOk l.prog w K mg base CX0 61 fa fd ["_law_script"] (Cs K):=by
 have e:=hfa.symm.trans (PySem.W.mg_of X G a55);cases e;have FiF:=qe (st:=sNF) liF ciF kiF;have biF:=bd2 (ps:=["self","field"]) FiF;have FiV:=qe (st:=sNV) liV ciV kiV;have biV:=bd2 (ps:=["self","value"]) FiV;have FiT:=qe (st:=sNT) liT ciT kiT;have biT:=bd2 (ps:=["self","saying"]) FiT;have FiP:=qe (st:=sNP) liP ciP kiP;have biP:=bd2 (ps:=["self","saying"]) FiP;have FiG:=qe (st:=sTG) liG ciG kiG;have biG:=bd3 (ps:=["self","number","most"]) FiG;obtain⟨_,FiR⟩:=liR.fn;have kiR:=liR.kp;have biR:=bd3 (ps:=["self","letters","ways"]) FiR;obtain⟨_,FiM⟩:=liM.fn;have kiM:=liM.kp;have biM:=bd3 (ps:=["self","speech","saying"]) FiM;obtain⟨_,FmR⟩:=lmR.fn;have kmR:=lmR.kp;have bmR:=bd1 (ps:=["self"]) FmR;obtain⟨_,FmE⟩:=lmE.fn;have kmE:=lmE.kp;have bmE:=bd3 (ps:=["self","room","letter"]) FmE;obtain⟨_,FmG⟩:=lmG.fn;have kmG:=lmG.kp;have bmG:=bd3 (ps:=["self","room","letter"]) FmG;obtain⟨_,FmF⟩:=lmF.fn;have kmF:=lmF.kp;have bmF:=bd3 (ps:=["self","rooms","letter"]) FmF;obtain⟨_,FmH⟩:=lmH.fn;have kmH:=lmH.kp;have bmH:=bd3 (ps:=["self","rooms","letter"]) FmH;obtain⟨_,FmK⟩:=lmK.fn;have kmK:=lmK.kp;have bmK:=bd3 (ps:=["self","rooms","letter"]) FmK;obtain⟨_,F1⟩:=l1.fn;have k1:=l1.kp;have b1:=bd1 (ps:=["speech"]) F1;obtain⟨_,F2⟩:=l2.fn;have k2:=l2.kp;have b2:=bd2 (ps:=["letters","count"]) F2;obtain⟨_,F3⟩:=l3.fn;have k3:=l3.kp;have b3:=bd3 (ps:=["speech","field","value"]) F3;obtain⟨_,F4⟩:=l4.fn;have k4:=l4.kp;have b4:=bd2 (ps:=["count","value"]) F4;obtain⟨_,F5⟩:=l5.fn;have k5:=l5.kp;have b5:=bd1 (ps:=["size"]) F5;obtain⟨_,F6⟩:=l6.fn;have k6:=l6.kp;have b6:=bd1 (ps:=["size"]) F6;obtain⟨_,F7⟩:=l7.fn;have k7:=l7.kp;have b7:=bd2 (ps:=["one","other"]) F7;obtain⟨_,F8⟩:=l8.fn;have k8:=l8.kp;have b8:=bd2 (ps:=["first","second"]) F8;obtain⟨_,F9⟩:=l9.fn;have k9:=l9.kp;have b9:=bd2 (ps:=["mask","relation"]) F9;obtain⟨_,F10⟩:=l10.fn;have k10:=l10.kp;have b10:=bd1 (ps:=["relation"]) F10;obtain⟨_,F11⟩:=l11.fn;have k11:=l11.kp;have b11:=bd1 (ps:=["relation"]) F11;obtain⟨_,F12⟩:=l12.fn;have k12:=l12.kp;have b12:=bd2 (ps:=["letters","mask"]) F12;obtain⟨_,F13⟩:=l13.fn;have k13:=l13.kp;have b13:=bd1 (ps:=["saying"]) F13;obtain⟨_,F14⟩:=l14.fn;have k14:=l14.kp;have b14:=bd1 (ps:=["saying"]) F14;obtain⟨_,F15⟩:=l15.fn;have k15:=l15.kp;have b15:=bd2 (ps:=["speech","saying"]) F15;obtain⟨_,F16⟩:=l16.fn;have k16:=l16.kp;have b16:=bd2 (ps:=["speech","part"]) F16;obtain⟨_,F17⟩:=l17.fn;have k17:=l17.kp;have b17:=bd1 (ps:=["saying"]) F17;obtain⟨_,F18⟩:=l18.fn;have k18:=l18.kp;have b18:=bd1 (ps:=["saying"]) F18;obtain⟨_,F19⟩:=l19.fn;have k19:=l19.kp;have b19:=bd1 (ps:=["saying"]) F19;obtain⟨_,F20⟩:=l20.fn;have k20:=l20.kp;have b20:=bd1 (ps:=["saying"]) F20;obtain⟨_,F21⟩:=l21.fn;have k21:=l21.kp;have b21:=bd3 (ps:=["speech","letters","saying"]) F21;obtain⟨_,F22⟩:=l22.fn;have k22:=l22.kp;have b22:=bd4 (ps:=["speech","letters","part","inner"]) F22;obtain⟨_,F23⟩:=l23.fn;have k23:=l23.kp;have b23:=bd3 (ps:=["speech","letters","part"]) F23;obtain⟨_,F24⟩:=l24.fn;have k24:=l24.kp;have b24:=bd3 (ps:=["letters","place","value"]) F24;obtain⟨_,F25⟩:=l25.fn;have k25:=l25.kp;have b25:=bd3 (ps:=["letters","place","value"]) F25;obtain⟨_,F26⟩:=l26.fn;have k26:=l26.kp;have b26:=bd1 (ps:=["size"]) F26;obtain⟨_,F27⟩:=l27.fn;have k27:=l27.kp;have b27:=bd2 (ps:=["one","other"]) F27;obtain⟨_,F28⟩:=l28.fn;have k28:=l28.kp;have b28:=bd2 (ps:=["first","second"]) F28;obtain⟨_,F29⟩:=l29.fn;have k29:=l29.kp;have b29:=bd2 (ps:=["first","second"]) F29;obtain⟨_,F30⟩:=l30.fn;have k30:=l30.kp;have b30:=bd1 (ps:=["ways"]) F30;obtain⟨_,F31⟩:=l31.fn;have k31:=l31.kp;have b31:=bd1 (ps:=["ways"]) F31;obtain⟨_,F32⟩:=l32.fn;have k32:=l32.kp;have b32:=bd3 (ps:=["row","anew","start"]) F32;obtain⟨_,F33⟩:=l33.fn;have k33:=l33.kp;have b33:=bd4 (ps:=["speech","saying","letter","count"]) F33;obtain⟨_,F34⟩:=l34.fn;have k34:=l34.kp;have b34:=bd3 (ps:=["machine","letter","count"]) F34;obtain⟨_,F35⟩:=l35.fn;have k35:=l35.kp;have b35:=bd2 (ps:=["machine","beginnings"]) F35;obtain⟨_,F36⟩:=l36.fn;have k36:=l36.kp;have b36:=bd3 (ps:=["machine","beginnings","ending"]) F36;obtain⟨_,F37⟩:=l37.fn;have k37:=l37.kp;have b37:=bd2 (ps:=["machine","count"]) F37;obtain⟨_,F38⟩:=l38.fn;have k38:=l38.kp;have b38:=bd3 (ps:=["machine","pairs","layer"]) F38;obtain⟨_,F39⟩:=l39.fn;have k39:=l39.kp;have b39:=bd3 (ps:=["speech","saying","letter"]) F39;obtain⟨_,F40⟩:=l40.fn;have k40:=l40.kp;have b40:=bd3 (ps:=["speech","test","letter"]) F40;obtain⟨_,F41⟩:=l41.fn;have k41:=l41.kp;have b41:=bd2 (ps:=["_law_script","_law_k"]) F41;obtain⟨_,F42⟩:=l42.fn;have k42:=l42.kp;have b42:=bd1 (ps:=["_law_cell_here"]) F42;obtain⟨_,F43⟩:=l43.fn;have k43:=l43.kp;have b43:=bd2 (ps:=["_law_purse_here","_law_many"]) F43;obtain⟨_,F44⟩:=l44.fn;have k44:=l44.kp;have b44:=bd2 (ps:=["_law_cell_here","_law_least"]) F44;obtain⟨_,F45⟩:=l45.fn;have k45:=l45.kp;have b45:=bd1 (ps:=["_law_speech_here"]) F45;obtain⟨_,F46⟩:=l46.fn;have k46:=l46.kp;have b46:=bd3 (ps:=["_law_sort","_law_purse_here","_law_speech_here"]) F46;obtain⟨_,F47⟩:=l47.fn;have k47:=l47.kp;have b47:=bd4 (ps:=["_law_row","_law_cell_here","_law_speech_here","_law_most"]) F47;obtain⟨_,F48⟩:=l48.fn;have k48:=l48.kp;have b48:=bd2 (ps:=["_law_row","_law_word"]) F48;obtain⟨_,F49⟩:=l49.fn;have k49:=l49.kp;have b49:=bd3 (ps:=["_law_cells","_law_speech_here","_law_most"]) F49;obtain⟨_,F50⟩:=l50.fn;have k50:=l50.kp;have b50:=bd1 (ps:=["_law_saying_here"]) F50;obtain⟨_,F51⟩:=l51.fn;have k51:=l51.kp;have b51:=bd1 (ps:=["_law_saying_here"]) F51;obtain⟨_,F52⟩:=l52.fn;have k52:=l52.kp;have b52:=bd4 (ps:=["_law_way","_law_speech_here","_law_saying_here","_law_bad"]) F52;obtain⟨_,F53⟩:=l53.fn;have k53:=l53.kp;have b53:=bd4 (ps:=["_law_way","_law_speech_here","_law_saying_here","_law_letter"]) F53;obtain⟨_,F54⟩:=l54.fn;have k54:=l54.kp;have b54:=bd3 (ps:=["_law_way","_law_e","_law_due_here"]) F54;have F55:=qe (st:=ql) l55 c55 k55;have no:∀{x:Str},aR K aQ x=some none->mg x=none:=λz=>PySem.W.mg_none_of X G z;have gl:∀{x:Str}{v:aB},aR K aQ x=some (some v)->mg x=some v:=λz=>PySem.W.mg_of X G z;have xFc:ik K cF:=⟨⟨_,_,_,_,_,_,_,_,_,_,_,_,_,_,_,lcF,(ve cS)⟩,saF,gaF,gtF,kpF⟩;have xVc:ik K cV:=⟨⟨_,_,_,_,_,_,_,_,_,_,_,_,_,_,_,lcV,(ve cS)⟩,saV,gaV,gtV,kpV⟩;have xTc:ik K cT:=⟨⟨_,_,_,_,_,_,_,_,_,_,_,_,_,_,_,lcT,(ve cS)⟩,saT,gaT,gtT,kpT⟩;have xPc:ik K cP:=⟨⟨_,_,_,_,_,_,_,_,_,_,_,_,_,_,_,lcP,(ve cS)⟩,saP,gaP,gtP,kpP⟩;have xGc:ik K cG:=⟨⟨_,_,_,_,_,_,_,_,_,_,_,_,_,_,_,lcG,(ve cS)⟩,saG,gaG,gtG,kpG⟩;have tH:∀H:Hp,SqT K H aH HS:=λH=>An llH rfl rfl sz4 (.cons ⟨_,rfl⟩ (.cons ⟨_,rfl⟩ (.cons ⟨_,rfl⟩ (.cons ⟨_,rfl⟩ .nil))));have tD:∀H:Hp,SqT K H aD FS:=λH=>An llD rfl rfl sz2 (.cons ⟨_,rfl⟩ (.cons ⟨_,rfl⟩ .nil));have tE:∀H:Hp,SqT K H aE TS:=λH=>An llE rfl rfl sz6 (.cons ⟨_,rfl⟩ (.cons ⟨_,rfl⟩ (.cons ⟨_,rfl⟩ (.cons ⟨_,rfl⟩ (.cons ⟨_,rfl⟩ (.cons ⟨_,rfl⟩ .nil))))));have Wg:Sw K mg cS:=⟨gl mS,wga,wrd,wfc⟩;have Ex:Exm K cS cF cV cT cP cG:=⟨xF,xV,xT,xP,xG⟩;have B:XG K mg cF cV cT cP cG cN:=⟨gl mF,gl mV,gl mT,gl mP,gl mG,gl mN,⟨xFc,clF,vF,ttF,eFF,eFV,eFT,eFP⟩,⟨xVc,clV,vV,ttV,eVF,eVV,eVT,eVP⟩,⟨xTc,clT,vT,ttT,eTF,eTV,eTT,eTP⟩,⟨xPc,clP,vP,ttP,ePF,ePV,ePT,ePP⟩,xGc,clG,eGG,nFfield,nVvalue,nTsaying,nPsaying⟩;have MM:MC K cM:=⟨⟨pgM,hdM,poM,saM⟩,nMletters,nMways⟩;refine⟨gS "law" "law" (ef ql) (dj ql) (aj ql) .none kV55 dc55 pm55 an55 cd55 ct55,λs v=>.of_eq rfl,λbase _ _=>?_⟩;have GiF:=Wv (P:=l.prog) (w:=w) (base:=base) (C:=cF) FiF Wg;have GiV:=Ww (P:=l.prog) (w:=w) (base:=base) (C:=cV) FiV Wg;have GiT:=Wx (P:=l.prog) (w:=w) (base:=base) (C:=cT) FiT Wg;have GiP:=Wy (P:=l.prog) (w:=w) (base:=base) (C:=cP) FiP Wg;have GiG:=Wz (P:=l.prog) (w:=w) (base:=base) (C:=cG) FiG Wg;have GMu:=Rz (P:=l.prog) (w:=w) (base:=base) F4 xVc nVvalue aiV ⟨_,liV,rfl⟩ GiV biV (gl mV);have GPl:=Oc (P:=l.prog) (w:=w) (base:=base) F3 xFc nFfield aiF ⟨_,liF,rfl⟩ GiF biF (gl mF) GMu b4 k4 (gl a4) (no zenumerate);have GPl0:=Vs GPl;have GHe:=R9 (P:=l.prog) (w:=w) (base:=base) F14 (gl aaH) tH;have GPa:=Of (P:=l.prog) (w:=w) (base:=base) F13 GHe b14 k14 (gl a14);have GIs:=Uz (P:=l.prog) (w:=w) (base:=base) F17 GPa b13 k13 (gl a13) (no zall) (gl aaE) tE;have GNt:=U0 (P:=l.prog) (w:=w) (base:=base) F18 GPa b13 k13 (gl a13) (no zlen);have GMt:=Om (P:=l.prog) (w:=w) (base:=base) F19 xTc nTsaying aiT ⟨_,liT,rfl⟩ GiT biT (gl mT) GIs b17 k17 (gl a17);have GMp:=On (P:=l.prog) (w:=w) (base:=base) F16 GPl b3 k3 (gl a3) GMt b19 k19 (gl a19) (gl aaD) tD;have GMs:=Sc (P:=l.prog) (w:=w) (base:=base) F15 GPa b13 k13 (gl a13) GMp b16 k16 (gl a16);have GMPl:=M0 (P:=l.prog) (w:=w) (base:=base) F20 xPc nPsaying aiP ⟨_,liP,rfl⟩ GiP biP (gl mP) GNt b18 k18 (gl a18);have GNo:=Xd (P:=l.prog) (w:=w) (base:=base) (mg:=mg) F5;have GSm:=Sv (P:=l.prog) (w:=w) (base:=base) F6 (no zrange);have GEi:=Sx (P:=l.prog) (w:=w) (base:=base) F7 (no zzip);have GRe:=Oy (P:=l.prog) (w:=w) (base:=base) (mg:=mg) F9;have GOn:=Vi (P:=l.prog) (w:=w) (base:=base) F8 GRe b9 k9 (gl a9);have GAg:=O0 (P:=l.prog) (w:=w) (base:=base) F10 GEi b7 k7 (gl a7) GSm b6 k6 (gl a6) (no zlen) (no zrange);have GWh:=O1 (P:=l.prog) (w:=w) (base:=base) F11 (no zenumerate);have GLi:=O2 (P:=l.prog) (w:=w) (base:=base) F12 (no zenumerate);have GLg:=Lv (P:=l.prog) (w:=w) (base:=base) F2 (no zrange);have GLe:=Jg (P:=l.prog) (w:=w) (base:=base) F1 GLg b2 k2 (gl a2);have GNw:=O4 (P:=l.prog) (w:=w) (base:=base) F26 ⟨_,_,GNo,b5,k5,gl a5⟩ ⟨_,_,GSm,b6,k6,gl a6⟩;have GFi:=Sz (P:=l.prog) (w:=w) (base:=base) F30 ⟨_,_,GNo,b5,k5,gl a5⟩ (no zlen);have GBe:=Lx (P:=l.prog) (w:=w) (base:=base) F29 ⟨_,_,GFi,b30,k30,gl a30⟩;have GEw:=O6 (P:=l.prog) (w:=w) (base:=base) F27 ⟨_,_,GEi,b7,k7,gl a7⟩ ⟨_,_,GFi,b30,k30,gl a30⟩ ⟨_,_,GBe,b29,k29,gl a29⟩;have GTw:=O7 (P:=l.prog) (w:=w) (base:=base) F28 ⟨_,_,GOn,b8,k8,gl a8⟩ ⟨_,_,GBe,b29,k29,gl a29⟩;have GAr:=Vl (P:=l.prog) (w:=w) (base:=base) F32 ⟨_,_,GOn,b8,k8,gl a8⟩ ⟨_,_,GEi,b7,k7,gl a7⟩ (no zzip);have GAw:=Vm (P:=l.prog) (w:=w) (base:=base) F31 ⟨_,_,GAg,b10,k10,gl a10⟩ ⟨_,_,GAr,b32,k32,gl a32⟩;have GIr:=Vq (P:=l.prog) (w:=w) (base:=base) F24 (no zenumerate);have GPr:=Tc (P:=l.prog) (w:=w) (base:=base) (mg:=mg) F25;have GPn:=Pc (P:=l.prog) (w:=w) (base:=base) F23 ⟨_,_,GNo,b5,k5,gl a5⟩ ⟨_,_,GSm,b6,k6,gl a6⟩ ⟨_,_,GPl0,b3,k3,gl a3⟩ ⟨_,_,GIr,b24,k24,gl a24⟩ ⟨_,_,GPr,b25,k25,gl a25⟩ (no zlen);have GWp:=Td (P:=l.prog) (w:=w) (base:=base) F22 ⟨_,_,GEw,b27,k27,gl a27⟩ ⟨_,_,GTw,b28,k28,gl a28⟩ ⟨_,_,GAw,b31,k31,gl a31⟩ ⟨_,_,GWh,b11,k11,gl a11⟩ ⟨_,_,GNw,b26,k26,gl a26⟩ ⟨_,_,GPn,b23,k23,gl a23⟩ (no zlen);have GWy:=Te (P:=l.prog) (w:=w) (base:=base) F21 ⟨_,_,GPa,b13,k13,gl a13⟩ ⟨_,_,GHe,b14,k14,gl a14⟩ ⟨_,_,GWp,b22,k22,gl a22⟩ (no zreversed);have GRi:=Pg (P:=l.prog) (w:=w) (base:=base) (mg:=mg) FiR MM;have GMk:=Ph (P:=l.prog) (w:=w) (base:=base) FmK MM (no zlen) (no zzip);have GRo:=Pi (P:=l.prog) (w:=w) (base:=base) FmR MM (no zlen);have GEf:=Pj (P:=l.prog) (w:=w) (base:=base) FmF MM ⟨_,_,GLi,b12,k12,gl a12⟩ ⟨_,_,GMk,bmK,⟨amK,qmK,kmK⟩⟩;have GEn:=Tf (P:=l.prog) (w:=w) (base:=base) FmE MM ⟨_,_,GEf,bmF,⟨amF,qmF,kmF⟩⟩;have GGf:=Pk (P:=l.prog) (w:=w) (base:=base) FmH MM ⟨_,_,GMk,bmK,⟨amK,qmK,kmK⟩⟩ (no zenumerate) (no ztuple) (no zrange) (no zlen);have GGo:=Tg (P:=l.prog) (w:=w) (base:=base) FmG MM ⟨_,_,GGf,bmH,⟨amH,qmH,kmH⟩⟩;have GMi:=Pm (P:=l.prog) (w:=w) (base:=base) FiM GMs b15 k15 (gl a15) ⟨_,_,GLe,b1,k1,gl a1⟩ ⟨_,_,GWy,b21,k21,gl a21⟩ GRi biR ⟨rga,rrd,aiR,kiR⟩ (gl mR);have GAh:=Ps (P:=l.prog) (w:=w) (base:=base) F38 MM ⟨_,_,GGo,bmG,⟨amG,qmG,kmG⟩⟩ (no zdict) (no zany);have GCa:=V0 (P:=l.prog) (w:=w) (base:=base) F37 MM ⟨_,_,GRo,bmR,⟨amR,qmR,kmR⟩⟩ ⟨_,_,GEn,bmE,⟨amE,qmE,kmE⟩⟩ ⟨_,_,GAh,b38,k38,gl a38⟩ (no zrange) (no zdict);have GEd:=Pt (P:=l.prog) (w:=w) (base:=base) F35 MM ⟨_,_,GEf,bmF,⟨amF,qmF,kmF⟩⟩;have GGn:=Tq (P:=l.prog) (w:=w) (base:=base) F36 MM ⟨_,_,GGf,bmH,⟨amH,qmH,kmH⟩⟩ (no ztuple);have GRu:=Tr (P:=l.prog) (w:=w) (base:=base) F34 ⟨_,_,GCa,b37,k37,gl a37⟩ ⟨_,_,GEd,b35,k35,gl a35⟩ ⟨_,_,GGn,b36,k36,gl a36⟩ xGc nGnumber nGmost aiG ⟨_,liG,rfl⟩ GiG biG (gl mG) (gl mMT) (no zrange) (no zlen);have MK:MkM l.prog w K mg base cM cF cV cT fiM _:=⟨⟨mkM,aiM,qiM,kpM⟩,GMi,biM,gl mM⟩;have GTr:=M2 (P:=l.prog) (w:=w) (base:=base) F33 MK GRu b34 k34 (gl a34);have GDo:=Ts (P:=l.prog) (w:=w) (base:=base) F39 MK MM GMs b15 k15 (gl a15) GMPl b20 k20 (gl a20) ⟨_,_,GEn,bmE,⟨amE,qmE,kmE⟩⟩;have GSo:=Tt (P:=l.prog) (w:=w) (base:=base) F40 MK MM GMs b15 k15 (gl a15) GMt b19 k19 (gl a19) ⟨_,_,GEn,bmE,⟨amE,qmE,kmE⟩⟩;have GC:=Ry (P:=l.prog) (w:=w) (base:=base) F41 (no zlen);have GP:=N8 (P:=l.prog) (w:=w) (base:=base) F42 (no zrange) (no zabs);have GT:=Rv (P:=l.prog) (w:=w) (base:=base) F43 (no zint);have GS:=J2 (P:=l.prog) (w:=w) (base:=base) F44 GP b42 k42 (gl a42) GT b43 k43 (gl a43) (no zrange) (no zmax) (no zmin) (no ztuple);have GLl:=Tv (P:=l.prog) (w:=w) (base:=base) F45 (no zrange);have GLo:=Pz (P:=l.prog) (w:=w) (base:=base) F46 GT b43 k43 (gl a43) (no zlen);have GJo:=J3 (P:=l.prog) (w:=w) (base:=base) F48 (no zmax);have GGr:=M8 (P:=l.prog) (w:=w) (base:=base) F47 GP b42 k42 (gl a42) GT b43 k43 (gl a43) GLo b46 k46 (gl a46) GJo b48 k48 (gl a48) (no zsum) (no zlen);have GSa:=J4 (P:=l.prog) (w:=w) (base:=base) F49 GGr b47 k47 (gl a47) GJo b48 k48 (gl a48) (no zlen);have GLT:=Qf (P:=l.prog) (w:=w) (base:=base) F50 b50 k50 (gl a50) (no zlen);have GHn:=Q3 (P:=l.prog) (w:=w) (base:=base) F51 b51 k51 (gl a51) (no zlen);have GL58:=GLT 58;have GH58:=GHn 58;have GDu:=Tz (P:=l.prog) (w:=w) (base:=base) F52 GH58 b51 k51 (gl a51) GL58 b50 k50 (gl a50);have GCg:=J5 (P:=l.prog) (w:=w) (base:=base) F53 Ex (gl mS) GTr b33 k33 (gl a33) GDo b39 k39 (gl a39) GSo b40 k40 (gl a40);have GRf:=Fl (P:=l.prog) (w:=w) (base:=base) F54 B (no zisinstance) (no zValueError);exact V8 F55 GC b41 k41 (gl a41) GS b44 k44 (gl a44) GLl b45 k45 (gl a45) GSa b49 k49 (gl a49) GL58 b50 k50 (gl a50) GDu b52 k52 (gl a52) GCg b53 k53 (gl a53) GRf b54 k54 (gl a54) (no zlen) (no zrange)
theorem walk {l:rA}{q:aS}{loose:List Str}{XP:(Str->Option aB)->Heap->Prop}{YP:bZ->Heap->Prop}{d:DefRec}{K:Params->aA}(hn:l.most=some 63)(hdf:d.params.defaults=[])
  (hY:∀(w:bZ)(h:Heap),YP w h->(K w.params).In h)
  (F:∀(w:bZ)(mg:Str->Option aB) (fa:Addr) (h:Heap),(K w.params).In h->h.Ns aQ mg->mg d.name=some (.ref fa)->∃fd:cC,(∀(s:aI)(u:aB),vS s fd ⟨[u],[]⟩ [("_law_script",u)])/\∀base:Heap,(K w.params).In base->base.Ns aQ mg->FnOk l.prog w (K w.params) mg base CX0 61 fa fd ["_law_script"] (Cs (K w.params))) :
  PySem.W.WalkO q loose XP YP l.row.toRowW d [] (λf vs=>xZ f vs):=
 L2.walk_of (n:=63) (k:=61) (x:="_law_script") (CX:=λ_=>CX0) (sp:=λw=>Cs (K w.params)) hn (by decide) hdf ⟨rfl,by decide,by decide⟩ hY F (λ_ _ a ns hl _ hS=>⟨a,ns,rfl,hS,hl,λ_=>rfl⟩) λ_ _ _ _ _ z=>z
end S25
def PySem.W.Fast.tw17437989873997090367:Unit:=()
def PySem.W.Fast.tw12972558792816953882:Unit:=()
def PySem.W.Fast.tw3359769329031488924:Unit:=()
def PySem.W.Fast.tw17169882510241191118:Unit:=()
def PySem.W.Fast.tw15794031842305406143:Unit:=()
def PySem.W.Fast.tw8830256765973059792:Unit:=()
def PySem.W.Fast.tw12073367753829244329:Unit:=()
def PySem.W.Fast.tw13762915560303373502:Unit:=()
def PySem.W.Fast.tw5289316479031831823:Unit:=()
def PySem.W.Fast.tw14951141229792359962:Unit:=()
def PySem.W.Fast.tw16651447676168531749:Unit:=()
def PySem.W.Fast.tw17144187465228586565:Unit:=()
def PySem.W.Fast.tw7172674713893216626:Unit:=()
def PySem.W.Fast.tw12953426086997615570:Unit:=()
def PySem.W.Fast.tw1340402731007522766:Unit:=()
def PySem.W.Fast.tw12350775712948992208:Unit:=()
def PySem.W.Fast.tw5539096733039305509:Unit:=()
def PySem.W.Fast.tw1811887844922776356:Unit:=()
def PySem.W.Fast.tw13933076327396586819:Unit:=()
def PySem.W.Fast.tw17874345484599872470:Unit:=()
def PySem.W.Fast.tw12450443220498338722:Unit:=()
def PySem.W.Fast.tw2533784451627208677:Unit:=()
def PySem.W.Fast.tw5329112537506507962:Unit:=()
def PySem.W.Fast.tw1182199717841450569:Unit:=()
def PySem.W.Fast.tw1451143005656229181:Unit:=()
def PySem.W.Fast.tw10552441277844308989:Unit:=()
def PySem.W.Fast.tw3151218305502973049:Unit:=()
def PySem.W.Fast.tw12994545617473305508:Unit:=()
def PySem.W.Fast.tw2726616018555155816:Unit:=()
def PySem.W.Fast.tw18047983570499646337:Unit:=()
def PySem.W.Fast.tw16104874441510125175:Unit:=()
def PySem.W.Fast.tw10279500871075644192:Unit:=()
def PySem.W.Fast.tw17096673159709872171:Unit:=()
def PySem.W.Fast.tw2785913730426500988:Unit:=()
def PySem.W.Fast.tw1434065120104155988:Unit:=()
def PySem.W.Fast.tw5433378263058332861:Unit:=()
def PySem.W.Fast.tw4405737543701998812:Unit:=()
def PySem.W.Fast.tw3087625777096503485:Unit:=()
def PySem.W.Fast.tw6023994269684848354:Unit:=()
def PySem.W.Fast.tw12668140881196911190:Unit:=()
def PySem.W.Fast.tw15242551611153090417:Unit:=()
def PySem.W.Fast.tw18108802373274632744:Unit:=()
def PySem.W.Fast.tw5340433558446767166:Unit:=()
def PySem.W.Fast.tw15973970681529706272:Unit:=()
def PySem.W.Fast.tw12855268482392597408:Unit:=()
def PySem.W.Fast.tw17093955870365044653:Unit:=()
def PySem.W.Fast.tw13460742229397408327:Unit:=()
def PySem.W.Fast.tw9182311572769668299:Unit:=()
def PySem.W.Fast.tw3099083610134419751:Unit:=()
def PySem.W.Fast.tw12787004775093941565:Unit:=()
def PySem.W.Fast.tw4125114036626296863:Unit:=()
def PySem.W.Fast.tw3492585111087168135:Unit:=()
def PySem.W.Fast.tw8139809995445740808:Unit:=()
def PySem.W.Fast.tw10322425115915134453:Unit:=()
def PySem.W.Fast.tw14403318956297375414:Unit:=()
open PySem PySem.W PyProof.Rows
set_option maxRecDepth 100000 in
set_option maxHeartbeats 0 in
theorem PySem.Challenge.cw_switchsay_k25_refused_holds : PySem.Challenge.rw_switchsay_k25_refused.Holds := by
  w_on;o_law;k_head;(case hw=>w_witness2)
  k_fill
  refine S25.walk (l:=PySem.Challenge.rw_switchsay_k25_refused) rfl rfl (fun w h Y=>PySem.W.kIn_of Y) ?F
  case F=>
    intro w mg fa h KX G hmg;refine' S25.all_mk KX G hmg ?mS ?mF ?lcF ?saF ?gaF ?gtF ?kpF ?mV ?lcV ?saV ?gaV ?gtV ?kpV ?mT ?lcT ?saT ?gaT ?gtT ?kpT ?mP ?lcP ?saP ?gaP ?gtP ?kpP ?mG ?lcG ?saG ?gaG ?gtG ?kpG ?mN ?mR ?mM ?clF ?clV ?clT ?clP ?clG ?wga ?wrd ?wfc ?rga ?rrd ?pgM ?hdM ?poM ?saM ?nMletters ?nMways ?mkM ?kpM ?mMT ?nFfield ?nVvalue ?nTsaying ?nPsaying ?nGnumber ?nGmost ?vF ?vV ?vT ?vP ?ttF ?ttV ?ttT ?ttP ?eFF ?eFV ?eFT ?eFP ?eVF ?eVV ?eVT ?eVP ?eTF ?eTV ?eTT ?eTP ?ePF ?ePV ?ePT ?ePP ?eGG ?xF ?xV ?xT ?xP ?xG ?aiF ?liF ?ciF ?kiF ?aiV ?liV ?ciV ?kiV ?aiT ?liT ?ciT ?kiT ?aiP ?liP ?ciP ?kiP ?aiG ?liG ?ciG ?kiG ?aiR ?liR ?qiR ?aiM ?liM ?qiM ?amR ?lmR ?qmR ?amE ?lmE ?qmE ?amG ?lmG ?qmG ?amF ?lmF ?qmF ?amH ?lmH ?qmH ?amK ?lmK ?qmK ?a1 ?l1 ?a2 ?l2 ?a3 ?l3 ?a4 ?l4 ?a5 ?l5 ?a6 ?l6 ?a7 ?l7 ?a8 ?l8 ?a9 ?l9 ?a10 ?l10 ?a11 ?l11 ?a12 ?l12 ?a13 ?l13 ?a14 ?l14 ?a15 ?l15 ?a16 ?l16 ?a17 ?l17 ?a18 ?l18 ?a19 ?l19 ?a20 ?l20 ?a21 ?l21 ?a22 ?l22 ?a23 ?l23 ?a24 ?l24 ?a25 ?l25 ?a26 ?l26 ?a27 ?l27 ?a28 ?l28 ?a29 ?l29 ?a30 ?l30 ?a31 ?l31 ?a32 ?l32 ?a33 ?l33 ?a34 ?l34 ?a35 ?l35 ?a36 ?l36 ?a37 ?l37 ?a38 ?l38 ?a39 ?l39 ?a40 ?l40 ?a41 ?l41 ?a42 ?l42 ?a43 ?l43 ?a44 ?l44 ?a45 ?l45 ?a46 ?l46 ?a47 ?l47 ?a48 ?l48 ?a49 ?l49 ?a50 ?l50 ?a51 ?l51 ?a52 ?l52 ?a53 ?l53 ?a54 ?l54 ?a55 ?l55 ?c55 ?k55 ?aaH ?llH ?aaD ?llD ?aaE ?llE ?zrange ?zabs ?zint ?zmax ?zmin ?ztuple ?zlen ?zisinstance ?zenumerate ?zValueError ?zsum ?zall ?zzip ?zreversed ?zdict ?zany
    case mS|mF|lcF|saF|gaF|gtF|kpF|mV|lcV|saV|gaV|gtV|kpV|mT|lcT|saT|gaT|gtT|kpT|mP|lcP|saP|gaP|gtP|kpP|mG|lcG|saG|gaG|gtG|kpG|mN|mR|mM|clF|clV|clT|clP|clG|wga|wrd|wfc|rga|rrd|pgM|hdM|poM|saM|nMletters|nMways|mkM|kpM|mMT|nFfield|nVvalue|nTsaying|nPsaying|nGnumber|nGmost|aiF|liF|ciF|kiF|aiV|liV|ciV|kiV|aiT|liT|ciT|kiT|aiP|liP|ciP|kiP|aiG|liG|ciG|kiG|aiR|qiR|aiM|qiM|amR|qmR|amE|qmE|amG|qmG|amF|qmF|amH|qmH|amK|qmK|a1|a2|a3|a4|a5|a6|a7|a8|a9|a10|a11|a12|a13|a14|a15|a16|a17|a18|a19|a20|a21|a22|a23|a24|a25|a26|a27|a28|a29|a30|a31|a32|a33|a34|a35|a36|a37|a38|a39|a40|a41|a42|a43|a44|a45|a46|a47|a48|a49|a50|a51|a52|a53|a54|a55|l55|c55|k55|aaH|llH|aaD|llD|aaE|llE|zrange|zabs|zint|zmax|zmin|ztuple|zlen|zisinstance|zenumerate|zValueError|zsum|zall|zzip|zreversed|zdict|zany=>k_is
    case vF|vV|vT|vP|ttF|ttV|ttT|ttP|eFF|eFV|eFT|eFP|eVF|eVV|eVT|eVP|eTF|eTV|eTT|eTP|ePF|ePV|ePT|ePP|eGG=>kit_is
    case xF|xV|xT|xP|xG=>kts_exm
    case liR|liM|lmR|lmE|lmG|lmF|lmH|lmK|l1|l2|l3|l4|l5|l6|l7|l8|l9|l10|l11|l12|l13|l14|l15|l16|l17|l18|l19|l20|l21|l22|l23|l24|l25|l26|l27|l28|l29|l30|l31|l32|l33|l34|l35|l36|l37|l38|l39|l40|l41|l42|l43|l44|l45|l46|l47|l48|l49|l50|l51|l52|l53|l54=>refine' S25.at_mk ?l ?c ?k;(case l=>k_is);(case c=>k_is);(case k=>k_is)
